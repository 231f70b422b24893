import Derived.Test.YtahojmioonpodaaRgref
namespace Go.Proofs.Ytahojmioonpodaa
open Go.RowKit
set_option linter.unusedVariables false
set_option linter.unusedSimpArgs false
/-- Six cells of block b stored anew. -/
abbrev st6 (w : World) (b : Nat) (a0 a1 a2 a3 a4 a5 : Value) : World := (((((w.setCell ⟨b, 0, none⟩ a0).setCell ⟨b, 1, none⟩ a1).setCell ⟨b, 2, none⟩ a2).setCell ⟨b, 3, none⟩ a3).setCell ⟨b, 4, none⟩ a4).setCell ⟨b, 5, none⟩ a5
theorem six_ {z : Array Value} (h : z.size = 6) : ∃ z0 z1 z2 z3 z4 z5, z = #[z0, z1, z2, z3, z4, z5] := by
  obtain ⟨l⟩ := z
  match l, h with
  | [a, b, c, d, e, f], _ => exact ⟨a, b, c, d, e, f, rfl⟩
theorem st6_lies {w : World} {b : Nat} {T : TypeId} {z : Array Value} {a0 a1 a2 a3 a4 a5 : Value} (h : Lies w b T z) (hz : z.size = 6) : Lies (st6 w b a0 a1 a2 a3 a4 a5) b T #[a0, a1, a2, a3, a4, a5] := by
  obtain ⟨z0, z1, z2, z3, z4, z5, rfl⟩ := six_ hz
  exact (((((h.put 0 a0).put 1 a1).put 2 a2).put 3 a3).put 4 a4).put 5 a5
theorem st6_kept (w : World) (b : Nat) (a0 a1 a2 a3 a4 a5 : Value) : Kept (oneRow b) w (st6 w b a0 a1 a2 a3 a4 a5) :=
  (((((Kept.put w b 0 a0).trans (Kept.put _ b 1 a1) (fun _ _ h => h)).trans (Kept.put _ b 2 a2) (fun _ _ h => h)).trans (Kept.put _ b 3 a3) (fun _ _ h => h)).trans (Kept.put _ b 4 a4) (fun _ _ h => h)).trans (Kept.put _ b 5 a5) (fun _ _ h => h)
/-- The cells of a document's ring. -/
abbrev rgV (c t : Int) (Ah : Option Addr) (n ch : Nat) (k : Bool) (As : Option Addr) (l cs : Nat) (r : Int) : Array Value := #[.int .u64 c, .int .u64 t, .slice Ah n ch, .bool k, .slice As l cs, .int .i64 r]
abbrev rgZ : Array Value := #[.int .u64 0, .int .u64 0, .slice none 0 0, .bool false, .slice none 0 0, .int .i64 0]
section
variable {w : World} {R : Rg} {Ah As : Option Addr} {ch cs : Nat}
/-- What lies behind the start of a call by whom a document's ring is boxed. -/
theorem r13_start (w : World) (V : Array Value) (hV : V.size = 6) : 
    Hid (Lies ((w.alloc (.cells V 38)).alloc (.cells rgZ 38)) w.heap.size 38 V) ∧
    Hid (Lies ((w.alloc (.cells V 38)).alloc (.cells rgZ 38)) (w.heap.size + 1) 38 rgZ) ∧
    Below w.heap.size w ((w.alloc (.cells V 38)).alloc (.cells rgZ 38)) := by
  have hb0 := (Below.refl w.heap.size w).alloc (Nat.le_refl _) (.cells V 38)
  have hb1 := hb0.alloc (by simp) (.cells rgZ 38)
  have l0 := (Lies.made w 38 V).alloc (.cells rgZ 38)
  have l1 := Lies.made (w.alloc (.cells V 38)) 38 rgZ
  rw [World.size_alloc] at l1
  exact ⟨l0, l1, hb1⟩
theorem st6_cells {w : World} {b : Nat} {T : TypeId} {z : Array Value} {a0 a1 a2 a3 a4 a5 : Value} (h : Lies w b T z) (hz : z.size = 6) :
    (st6 w b a0 a1 a2 a3 a4 a5).cell? ⟨b, 0, none⟩ = some a0 ∧ (st6 w b a0 a1 a2 a3 a4 a5).cell? ⟨b, 1, none⟩ = some a1 ∧ (st6 w b a0 a1 a2 a3 a4 a5).cell? ⟨b, 2, none⟩ = some a2 ∧
    (st6 w b a0 a1 a2 a3 a4 a5).cell? ⟨b, 3, none⟩ = some a3 ∧ (st6 w b a0 a1 a2 a3 a4 a5).cell? ⟨b, 4, none⟩ = some a4 ∧ (st6 w b a0 a1 a2 a3 a4 a5).cell? ⟨b, 5, none⟩ = some a5 := by
  have lq := st6_lies (a0 := a0) (a1 := a1) (a2 := a2) (a3 := a3) (a4 := a4) (a5 := a5) h hz
  exact ⟨lq.cell 0, lq.cell 1, lq.cell 2, lq.cell 3, lq.cell 4, lq.cell 5⟩
/-- A result stored into its own block. -/
theorem st6_below {w wa : World} {b : Nat} (a0 a1 a2 a3 a4 a5 : Value) (h : Below w.heap.size w wa) (hb : w.heap.size ≤ b) : Below w.heap.size w (st6 wa b a0 a1 a2 a3 a4 a5) :=
  h.trans ((st6_kept _ _ _ _ _ _ _ _).below h.size (fun j hj (e : j = b) => by omega))
set_option maxHeartbeats 2000000 in
set_option maxRecDepth 100000 in
theorem ref13Claim (hR : RgOk R) (h : HdAt w R Ah ch) :
    Calls Try.prog 39 #[.agg #[.int .u64 (R.cap : Int), .int .u64 (R.tail : Int), .slice Ah R.rd ch, .bool R.cl, .slice As R.L.length cs, .int .i64 (R.rd : Int)]] w fun e w' =>
      e = .returned (.tuple #[.int .u64 (claimV R : Nat), .int .i64 (claimE R : Nat), .agg #[.int .u64 (R.cap : Int), .int .u64 ((claimR R).tail : Nat), .slice Ah R.rd ch, .bool R.cl, .slice As R.L.length cs, .int .i64 (R.rd : Int)]]) ∧ Below w.heap.size w w' := by
  obtain ⟨HL0, HL1, hb1⟩ := r13_start w (rgV R.cap R.tail Ah R.rd ch R.cl As R.L.length cs R.rd) rfl
  have HFU := Lib.hid (fun w' (h : HdAt w' R Ah ch) => ref13Full (As := As) (cs := cs) hR h (.bool true))
  have H1 := Lib.hid (h.later hb1)
  have HB1 := Lib.hid hb1
  have htl := hR.2.2.2.1
  by_cases hc : R.cl = true
  · have hE : claimE R = 10 := by unfold claimE; rw [if_pos hc]
    have HE := Lib.hid hE
    have HV : Hid (claimV R = 0) := by show _ = _; unfold claimV; rw [hE, if_neg (by decide)]
    have HRR : Hid ((claimR R).tail = R.tail) := by show _ = _; unfold claimR; rw [hE, if_neg (by decide)]
    clear hE hR h HFU H1 hb1
    rw [hc] at HL0 HL1 HB1 ⊢
    clear hc
    go_enter Try.func39, Try.ntmps39
    go_wp2
    generalize (w.alloc (.cells (rgV R.cap R.tail Ah R.rd ch true As R.L.length cs R.rd) 38)).alloc (.cells rgZ 38) = w1 at *
    have c0 := HL0.out.cell 0
    have c1 := HL0.out.cell 1
    have c2 := HL0.out.cell 2
    have c3 := HL0.out.cell 3
    have c4 := HL0.out.cell 4
    have c5 := HL0.out.cell 5
    simp only [List.getElem?_toArray, List.getElem?_cons_zero, List.getElem?_cons_succ] at c0 c1 c2 c3 c4 c5
    have d0 := HL1.out.cell 0
    have d1 := HL1.out.cell 1
    have d2 := HL1.out.cell 2
    have d3 := HL1.out.cell 3
    have d4 := HL1.out.cell 4
    have d5 := HL1.out.cell 5
    simp only [List.getElem?_toArray, List.getElem?_cons_zero, List.getElem?_cons_succ] at d0 d1 d2 d3 d4 d5
    have f0 := HL1.out.free 0
    have f1 := HL1.out.free 1
    have f2 := HL1.out.free 2
    have f3 := HL1.out.free 3
    have f4 := HL1.out.free 4
    have f5 := HL1.out.free 5
    have hlt1 := HL1.out.lt
    obtain ⟨q0, q1, q2, q3, q4, q5⟩ := st6_cells (w := w1) (a0 := .int .u64 (R.cap : Int)) (a1 := .int .u64 (R.tail : Int)) (a2 := .slice Ah R.rd ch) (a3 := .bool true) (a4 := .slice As R.L.length cs) (a5 := .int .i64 (R.rd : Int)) HL1.out rfl
    have HBE := Lib.hid (st6_below (b := w.heap.size + 1) (.int .u64 (R.cap : Int)) (.int .u64 (R.tail : Int)) (.slice Ah R.rd ch) (.bool true) (.slice As R.L.length cs) (.int .i64 (R.rd : Int)) HB1.out (by omega))
    go_region
    all_goals
      go_wp2
      refine bodyPost_ret (v := .tuple #[.int .u64 0, .int .i64 10, .agg #[.int .u64 (R.cap : Int), .int .u64 (R.tail : Int), .slice Ah R.rd ch, .bool true, .slice As R.L.length cs, .int .i64 (R.rd : Int)]]) (by simp [results, Try.results39, go_sem, q0, q1, q2, q3, q4, q5]) rfl ?_
      exact ⟨by rw [HE.out, HV.out, HRR.out]; rfl, below_drewN HBE.out 1⟩
  · have hc : R.cl = false := by simpa using hc
    rw [hc] at HL0 HL1 HB1 HFU H1 ⊢
    go_enter Try.func39, Try.ntmps39
    go_wp2_with fail
    generalize (w.alloc (.cells (rgV R.cap R.tail Ah R.rd ch false As R.L.length cs R.rd) 38)).alloc (.cells rgZ 38) = w1 at *
    refine (HFU.out _ H1.out).mono ?_
    rintro e w2 ⟨rfl, hb2⟩
    have HL0 := Lib.hid (HL0.out.below hb2 HL0.out.lt)
    have HL1 := Lib.hid (HL1.out.below hb2 HL1.out.lt)
    have HB1 := Lib.hid (HB1.out.trans (hb2.mono HB1.out.size))
    clear hb2 hb1 HFU
    by_cases hf : fullB R = true
    · have hE : claimE R = 8 := by unfold claimE; rw [if_neg (by simp [hc]), if_pos hf]
      have HE := Lib.hid hE
      have HV : Hid (claimV R = 0) := by show _ = _; unfold claimV; rw [hE, if_neg (by decide)]
      have HRR : Hid ((claimR R).tail = R.tail) := by show _ = _; unfold claimR; rw [hE, if_neg (by decide)]
      rw [hf]
      clear hE hR h hc hf H1
      have c0 := HL0.out.cell 0
      have c1 := HL0.out.cell 1
      have c2 := HL0.out.cell 2
      have c3 := HL0.out.cell 3
      have c4 := HL0.out.cell 4
      have c5 := HL0.out.cell 5
      simp only [List.getElem?_toArray, List.getElem?_cons_zero, List.getElem?_cons_succ] at c0 c1 c2 c3 c4 c5
      have d0 := HL1.out.cell 0
      have d1 := HL1.out.cell 1
      have d2 := HL1.out.cell 2
      have d3 := HL1.out.cell 3
      have d4 := HL1.out.cell 4
      have d5 := HL1.out.cell 5
      simp only [List.getElem?_toArray, List.getElem?_cons_zero, List.getElem?_cons_succ] at d0 d1 d2 d3 d4 d5
      have f0 := HL1.out.free 0
      have f1 := HL1.out.free 1
      have f2 := HL1.out.free 2
      have f3 := HL1.out.free 3
      have f4 := HL1.out.free 4
      have f5 := HL1.out.free 5
      have hlt1 := HL1.out.lt
      go_wp2
      obtain ⟨q0, q1, q2, q3, q4, q5⟩ := st6_cells (w := w2) (a0 := .int .u64 (R.cap : Int)) (a1 := .int .u64 (R.tail : Int)) (a2 := .slice Ah R.rd ch) (a3 := .bool false) (a4 := .slice As R.L.length cs) (a5 := .int .i64 (R.rd : Int)) HL1.out rfl
      have HBE := Lib.hid (st6_below (b := w.heap.size + 1) (.int .u64 (R.cap : Int)) (.int .u64 (R.tail : Int)) (.slice Ah R.rd ch) (.bool false) (.slice As R.L.length cs) (.int .i64 (R.rd : Int)) HB1.out (by omega))
      go_region
      all_goals
        go_wp2
        refine bodyPost_ret (v := .tuple #[.int .u64 0, .int .i64 8, .agg #[.int .u64 (R.cap : Int), .int .u64 (R.tail : Int), .slice Ah R.rd ch, .bool false, .slice As R.L.length cs, .int .i64 (R.rd : Int)]]) (by simp [results, Try.results39, go_sem, q0, q1, q2, q3, q4, q5]) rfl ?_
        exact ⟨by rw [HE.out, HV.out, HRR.out]; rfl, below_drewN HBE.out 1⟩
    · have hf : fullB R = false := by simpa using hf
      have hE : claimE R = 0 := by unfold claimE; rw [if_neg (by simp [hc]), if_neg (by simp [hf])]
      have HE := Lib.hid hE
      have HV : Hid (claimV R = R.tail) := by show _ = _; unfold claimV; rw [hE, if_pos rfl]
      have HRR : Hid ((claimR R).tail = R.tail + 1) := by show _ = _; unfold claimR; rw [hE, if_pos rfl]
      rw [hf]
      clear hE hR h hc hf H1
      have hg0 := HL0.out.free 1
      have c0 := HL0.out.cell 0
      have c1 := HL0.out.cell 1
      have c2 := HL0.out.cell 2
      have c3 := HL0.out.cell 3
      have c4 := HL0.out.cell 4
      have c5 := HL0.out.cell 5
      simp only [List.getElem?_toArray, List.getElem?_cons_zero, List.getElem?_cons_succ] at c0 c1 c2 c3 c4 c5
      have d0 := HL1.out.cell 0
      have d1 := HL1.out.cell 1
      have d2 := HL1.out.cell 2
      have d3 := HL1.out.cell 3
      have d4 := HL1.out.cell 4
      have d5 := HL1.out.cell 5
      simp only [List.getElem?_toArray, List.getElem?_cons_zero, List.getElem?_cons_succ] at d0 d1 d2 d3 d4 d5
      have f0 := HL1.out.free 0
      have f1 := HL1.out.free 1
      have f2 := HL1.out.free 2
      have f3 := HL1.out.free 3
      have f4 := HL1.out.free 4
      have f5 := HL1.out.free 5
      have hlt1 := HL1.out.lt
      have hw1 : IntKind.u64.wrap ((R.tail : Int) + 1) = (R.tail : Int) + 1 := by rw [IntKind.wrap_u64]; omega
      have hw2 : IntKind.u64.wrap ((R.tail : Int) + 1 - 1) = (R.tail : Int) := by rw [IntKind.wrap_u64]; omega
      have hltw : w.heap.size < w2.heap.size := HL0.out.lt
      have HL0 : Hid (Lies (w2.setCell ⟨w.heap.size, 1, none⟩ (.int .u64 ((R.tail : Int) + 1))) w.heap.size 38 (rgV R.cap ((R.tail : Int) + 1) Ah R.rd ch false As R.L.length cs R.rd)) := HL0.out.put 1 (.int .u64 ((R.tail : Int) + 1))
      have HL1 := Lib.hid (HL1.out.kept (Kept.put w2 w.heap.size 1 (.int .u64 ((R.tail : Int) + 1))) (fun (e : w.heap.size + 1 = w.heap.size) => by omega))
      have HB1 := Lib.hid (HB1.out.trans ((Kept.put w2 w.heap.size 1 (.int .u64 ((R.tail : Int) + 1))).below HB1.out.size (fun j hj (e : j = w.heap.size) => by omega)))
      go_wp2
      clear c0 c1 c2 c3 c4 c5 d0 d1 d2 d3 d4 d5 f0 f1 f2 f3 f4 f5 hlt1 hg0 hltw
      generalize w2.setCell ⟨w.heap.size, 1, none⟩ (.int .u64 ((R.tail : Int) + 1)) = w3 at *
      have c0 := HL0.out.cell 0
      have c1 := HL0.out.cell 1
      have c2 := HL0.out.cell 2
      have c3 := HL0.out.cell 3
      have c4 := HL0.out.cell 4
      have c5 := HL0.out.cell 5
      simp only [List.getElem?_toArray, List.getElem?_cons_zero, List.getElem?_cons_succ] at c0 c1 c2 c3 c4 c5
      have d0 := HL1.out.cell 0
      have d1 := HL1.out.cell 1
      have d2 := HL1.out.cell 2
      have d3 := HL1.out.cell 3
      have d4 := HL1.out.cell 4
      have d5 := HL1.out.cell 5
      simp only [List.getElem?_toArray, List.getElem?_cons_zero, List.getElem?_cons_succ] at d0 d1 d2 d3 d4 d5
      have f0 := HL1.out.free 0
      have f1 := HL1.out.free 1
      have f2 := HL1.out.free 2
      have f3 := HL1.out.free 3
      have f4 := HL1.out.free 4
      have f5 := HL1.out.free 5
      have hlt1 := HL1.out.lt
      obtain ⟨q0, q1, q2, q3, q4, q5⟩ := st6_cells (w := w3) (a0 := .int .u64 (R.cap : Int)) (a1 := .int .u64 ((R.tail : Int) + 1)) (a2 := .slice Ah R.rd ch) (a3 := .bool false) (a4 := .slice As R.L.length cs) (a5 := .int .i64 (R.rd : Int)) HL1.out rfl
      have HBE := Lib.hid (st6_below (b := w.heap.size + 1) (.int .u64 (R.cap : Int)) (.int .u64 ((R.tail : Int) + 1)) (.slice Ah R.rd ch) (.bool false) (.slice As R.L.length cs) (.int .i64 (R.rd : Int)) HB1.out (by omega))
      go_region
      all_goals
        go_wp2
        refine bodyPost_ret (v := .tuple #[.int .u64 (R.tail : Int), .int .i64 0, .agg #[.int .u64 (R.cap : Int), .int .u64 ((R.tail : Int) + 1), .slice Ah R.rd ch, .bool false, .slice As R.L.length cs, .int .i64 (R.rd : Int)]]) (by simp [results, Try.results39, go_sem, q0, q1, q2, q3, q4, q5]) rfl ?_
        exact ⟨by rw [HE.out, HV.out, HRR.out]; rfl, below_drewN HBE.out 1⟩
end
end Go.Proofs.Ytahojmioonpodaa
