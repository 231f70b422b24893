import Derived.Test.YtahojmioonpodaaRgref2
import Derived.Test.YtahojmioonpodaaSlreff
namespace Go.Proofs.Ytahojmioonpodaa
open Go.RowKit
set_option linter.unusedVariables false
set_option linter.unusedSimpArgs false
section
variable {w : World} {R : Rg} {Ah : Option Addr} {ch cs : Nat} {A : Addr}
theorem seq_addr {w : World} {A : Addr} {n c : Nat} {L : List Sl} (h : SeqS w 3 (.slice (some A) n c) n (rowsOf slF L)) (hl : 1 ≤ L.length) : ∃ b o, A = ⟨b, o, none⟩ := by
  obtain ⟨x, hx⟩ : ∃ x, L[0]? = some x := ⟨_, List.getElem?_eq_getElem (by omega)⟩
  obtain ⟨b, o, e, _⟩ := SeqS.at_ slF_length (by decide) h hx
  exact ⟨b, o, by simpa using e⟩
/-- Places lie in no block of a document's ring. -/
theorem r13_ne {w : World} {b b' o p c : Nat} {T : TypeId} {v0 v1 : Value} {A2 A4 : Option Addr} {n2 c2 n4 c4 : Nat} {k : Bool} {l5 : Int} {L : List Sl} (hb : Lies w b T #[v0, v1, .slice A2 n2 c2, .bool k, .slice A4 n4 c4, .int .i64 l5])
    (hs : SeqS w 3 (.slice (some ⟨b', o, none⟩) p c) p (rowsOf slF L)) (hp : 1 ≤ L.length) : b' ≠ b := by
  rintro rfl
  obtain ⟨x, hx⟩ : ∃ x, L[0]? = some x := ⟨_, List.getElem?_eq_getElem (by omega)⟩
  obtain ⟨b2, o2, e, _, g⟩ := SeqS.at_ slF_length (by decide) hs hx
  simp only [Option.some.injEq, Addr.mk.injEq, and_true] at e
  obtain ⟨rfl, rfl⟩ := e
  have h0 := g 0 _ (by decide) rfl
  have h1 := g 1 _ (by decide) rfl
  have h2 := g 2 _ (by decide) rfl
  rw [hb.cell] at h0 h1 h2
  match o, h0, h1, h2 with
  | 0, _, _, h2 => simp at h2
  | 1, _, h1, _ => simp at h1
  | 2, h0, _, _ => simp at h0
  | 3, h0, _, _ => simp at h0
  | 4, h0, _, _ => simp at h0
  | 5, h0, _, _ => simp at h0
  | o + 6, h0, _, _ => simp at h0
/-- The document's places, stored into the boxed ring. -/
theorem r13_store2 {w wA : World} {T : TypeId} {a0 a1 : Value} {A2 A4 : Option Addr} {n2 c2 n4 c4 b2 o2 p c : Nat} {k : Bool} {l5 : Int} {z : Array Value} {L : List Sl} (l0 : Lies wA w.heap.size T #[a0, a1, .slice A2 n2 c2, .bool k, .slice A4 n4 c4, .int .i64 l5])
    (l1 : Lies wA (w.heap.size + 1) T z) (hs : SeqS wA 3 (.slice (some ⟨b2, o2, none⟩) p c) p (rowsOf slF L)) (hp : 1 ≤ L.length) (hb : Below w.heap.size w wA) (v4 v5 : Value) :
    Hid (Lies ((wA.setCell ⟨w.heap.size, 4, none⟩ v4).setCell ⟨w.heap.size, 5, none⟩ v5) w.heap.size T #[a0, a1, .slice A2 n2 c2, .bool k, v4, v5]) ∧ Hid (Lies ((wA.setCell ⟨w.heap.size, 4, none⟩ v4).setCell ⟨w.heap.size, 5, none⟩ v5) (w.heap.size + 1) T z) ∧
    Hid (SeqS ((wA.setCell ⟨w.heap.size, 4, none⟩ v4).setCell ⟨w.heap.size, 5, none⟩ v5) 3 (.slice (some ⟨b2, o2, none⟩) p c) p (rowsOf slF L)) ∧ Hid (Below w.heap.size w ((wA.setCell ⟨w.heap.size, 4, none⟩ v4).setCell ⟨w.heap.size, 5, none⟩ v5)) := by
  have hk : Kept (oneRow w.heap.size) wA ((wA.setCell ⟨w.heap.size, 4, none⟩ v4).setCell ⟨w.heap.size, 5, none⟩ v5) := (Kept.put wA _ 4 v4).trans (Kept.put _ _ 5 v5) (fun _ _ h => h)
  refine ⟨(l0.put 4 v4).put 5 v5, l1.kept hk (fun (e : w.heap.size + 1 = w.heap.size) => by omega), hs.keptT hk (fun b c o e => ?_), hb.trans (hk.below hb.size (fun j hj (e : j = w.heap.size) => by omega))⟩
  simp only [Value.slice.injEq, Option.some.injEq, Addr.mk.injEq] at e
  obtain ⟨⟨rfl, _⟩, _⟩ := e
  exact r13_ne l0 hs hp
set_option maxHeartbeats 2000000 in
set_option maxRecDepth 100000 in
theorem ref13Publish (t v B : Nat) (hR : RgOk R) (hs : SeqS w 3 (.slice (some A) R.L.length cs) R.L.length (rowsOf slF R.L)) (ht : t ≤ 18446744073709551615) (hv : v ≤ 18446744073709551615) (hB : B ≤ A.block) (hBw : B ≤ w.heap.size) :
    Calls Try.prog 35 #[.agg #[.int .u64 (R.cap : Int), .int .u64 (R.tail : Int), .slice Ah R.rd ch, .bool R.cl, .slice (some A) R.L.length cs, .int .i64 (R.rd : Int)], .int .u64 t, .int .u64 v] w fun e w' =>
      ∃ b o c', e = .returned (.tuple #[.int .i64 (pubE R t : Nat), .agg #[.int .u64 (R.cap : Int), .int .u64 (R.tail : Int), .slice Ah R.rd ch, .bool R.cl, .slice (some ⟨b, o, none⟩) R.L.length c', .int .i64 (R.rd : Int)]]) ∧
        SeqS w' 3 (.slice (some ⟨b, o, none⟩) R.L.length c') R.L.length (rowsOf slF (pubR R t v).L) ∧ B ≤ b ∧ Below w.heap.size w w' := by
  obtain ⟨b0, o0, rfl⟩ := seq_addr hs hR.2.1.1
  obtain ⟨HL0, HL1, hb1⟩ := r13_start w (rgV R.cap R.tail Ah R.rd ch R.cl (some ⟨b0, o0, none⟩) R.L.length cs R.rd) rfl
  have HS := Lib.hid (hs.later hb1)
  have HB1 := Lib.hid hb1
  have hbz := hb1.size
  have HOK := Lib.hid hR.2.1
  by_cases hge : R.tail ≤ t
  · have HE : Hid (pubE R t = 11) := by show _ = _; unfold pubE; rw [if_pos hge]
    have HRR : Hid ((pubR R t v).L = R.L) := by show _ = _; unfold pubR; rw [if_pos hge]
    have HNE : Hid (b0 ≠ w.heap.size + 1) := r13_ne HL1.out HS.out hR.2.1.1
    have HBB := Lib.hid hB
    clear hs hb1 hR hbz hB
    go_enter Try.func35, Try.ntmps35
    go_wp2
    generalize (w.alloc (.cells (rgV R.cap R.tail Ah R.rd ch R.cl (some ⟨b0, o0, none⟩) R.L.length cs R.rd) 38)).alloc (.cells rgZ 38) = w1 at *
    have c0 := HL0.out.cell 0
    have c1 := HL0.out.cell 1
    have c2 := HL0.out.cell 2
    have c3 := HL0.out.cell 3
    have c4 := HL0.out.cell 4
    have c5 := HL0.out.cell 5
    simp only [List.getElem?_toArray, List.getElem?_cons_zero, List.getElem?_cons_succ] at c0 c1 c2 c3 c4 c5
    have d0 := HL1.out.cell 0
    have d1 := HL1.out.cell 1
    have d2 := HL1.out.cell 2
    have d3 := HL1.out.cell 3
    have d4 := HL1.out.cell 4
    have d5 := HL1.out.cell 5
    simp only [List.getElem?_toArray, List.getElem?_cons_zero, List.getElem?_cons_succ] at d0 d1 d2 d3 d4 d5
    have f0 := HL1.out.free 0
    have f1 := HL1.out.free 1
    have f2 := HL1.out.free 2
    have f3 := HL1.out.free 3
    have f4 := HL1.out.free 4
    have f5 := HL1.out.free 5
    have hlt1 := HL1.out.lt
    obtain ⟨q0, q1, q2, q3, q4, q5⟩ := st6_cells (w := w1) (a0 := .int .u64 (R.cap : Int)) (a1 := .int .u64 (R.tail : Int)) (a2 := .slice Ah R.rd ch) (a3 := .bool R.cl) (a4 := .slice (some ⟨b0, o0, none⟩) R.L.length cs) (a5 := .int .i64 (R.rd : Int)) HL1.out rfl
    have HBE := Lib.hid (st6_below (b := w.heap.size + 1) (.int .u64 (R.cap : Int)) (.int .u64 (R.tail : Int)) (.slice Ah R.rd ch) (.bool R.cl) (.slice (some ⟨b0, o0, none⟩) R.L.length cs) (.int .i64 (R.rd : Int)) HB1.out (by omega))
    have HSE := Lib.hid (SeqS.keptT HS.out (st6_kept w1 (w.heap.size + 1) (.int .u64 (R.cap : Int)) (.int .u64 (R.tail : Int)) (.slice Ah R.rd ch) (.bool R.cl) (.slice (some ⟨b0, o0, none⟩) R.L.length cs) (.int .i64 (R.rd : Int))) (fun b c o e => by
      simp only [Value.slice.injEq, Option.some.injEq, Addr.mk.injEq] at e
      obtain ⟨⟨rfl, _⟩, _⟩ := e
      exact HNE.out))
    go_region
    all_goals
      go_wp2
      refine bodyPost_ret (v := .tuple #[.int .i64 11, .agg #[.int .u64 (R.cap : Int), .int .u64 (R.tail : Int), .slice Ah R.rd ch, .bool R.cl, .slice (some ⟨b0, o0, none⟩) R.L.length cs, .int .i64 (R.rd : Int)]]) (by simp [results, Try.results35, go_sem, q0, q1, q2, q3, q4, q5]) rfl ?_
      exact ⟨b0, o0, cs, by (first | (rw [HE.out]; done) | (rw [HE.out]; rfl)), by (rw [HRR.out]; exact SeqS.drew HSE.out), HBB.out, below_drewN HBE.out 1⟩
  · have hlt : t < R.tail := by omega
    have e1 : decide (R.tail ≤ t) = false := by rw [decide_eq_false_iff_not]; exact hge
    have HE : Hid (pubE R t = putE R.L t) := by show _ = _; unfold pubE; rw [if_neg hge]
    have HRR : Hid ((pubR R t v).L = putS R.rd R.L t v) := by show _ = _; unfold pubR; rw [if_neg hge]
    have HPF := Lib.hid (fun w' (hs : SeqS w' 3 (.slice (some ⟨b0, o0, none⟩) R.L.length cs) R.L.length (rowsOf slF R.L)) (hBw : B ≤ w'.heap.size) => ref12PutF (r := R.rd) (t := t) (v := v) (B := B) hs rfl hR.2.1 ht hv hB hBw)
    clear hs hb1 hR
    go_enter Try.func35, Try.ntmps35
    go_wp2_with fail
    generalize (w.alloc (.cells (rgV R.cap R.tail Ah R.rd ch R.cl (some ⟨b0, o0, none⟩) R.L.length cs R.rd) 38)).alloc (.cells rgZ 38) = w1 at *
    refine (HPF.out _ HS.out (by omega)).mono ?_
    rintro e w2 ⟨b2, o2, cx, rfl, hs2, hB2, hb2⟩
    rw [← HRR.out] at hs2
    have hl1 := HL1.out.lt
    have hLl : 1 ≤ (pubR R t v).L.length := by rw [HRR.out, putS_length]; exact HOK.out.1
    have hbA : Below w2.heap.size w2 (w2.alloc (.cells #[.slice (some ⟨b2, o2, none⟩) R.L.length cx, .int .i64 (R.rd : Int)] 36)) := (Below.refl _ _).alloc (Nat.le_refl _) _
    have HL0 := Lib.hid ((HL0.out.below hb2 HL0.out.lt).alloc (.cells #[.slice (some ⟨b2, o2, none⟩) R.L.length cx, .int .i64 (R.rd : Int)] 36))
    have HL1 := Lib.hid ((HL1.out.below hb2 HL1.out.lt).alloc (.cells #[.slice (some ⟨b2, o2, none⟩) R.L.length cx, .int .i64 (R.rd : Int)] 36))
    have HB1 := Lib.hid (HB1.out.trans ((hb2.trans (hbA.mono hb2.size)).mono HB1.out.size))
    have HS := Lib.hid (hs2.later hbA)
    have HBB := Lib.hid hB2
    have hw2 : w.heap.size + 2 ≤ w2.heap.size := by have := hb2.size; omega
    have HLA := Lib.hid (Lies.made w2 36 #[.slice (some ⟨b2, o2, none⟩) R.L.length cx, .int .i64 (R.rd : Int)])
    have g4 := HL0.out.free 4
    have g5 := HL0.out.free 5
    have e4 := HLA.out.cell 0
    have e5 := HLA.out.cell 1
    simp only [List.getElem?_toArray, List.getElem?_cons_zero, List.getElem?_cons_succ] at e4 e5
    clear hs2 hB2 hb2 hbA hbz HPF
    have c0 := HL0.out.cell 0
    have c1 := HL0.out.cell 1
    have c2 := HL0.out.cell 2
    have c3 := HL0.out.cell 3
    have c4 := HL0.out.cell 4
    have c5 := HL0.out.cell 5
    simp only [List.getElem?_toArray, List.getElem?_cons_zero, List.getElem?_cons_succ] at c0 c1 c2 c3 c4 c5
    have d0 := HL1.out.cell 0
    have d1 := HL1.out.cell 1
    have d2 := HL1.out.cell 2
    have d3 := HL1.out.cell 3
    have d4 := HL1.out.cell 4
    have d5 := HL1.out.cell 5
    simp only [List.getElem?_toArray, List.getElem?_cons_zero, List.getElem?_cons_succ] at d0 d1 d2 d3 d4 d5
    have f0 := HL1.out.free 0
    have f1 := HL1.out.free 1
    have f2 := HL1.out.free 2
    have f3 := HL1.out.free 3
    have f4 := HL1.out.free 4
    have f5 := HL1.out.free 5
    have hlt1 := HL1.out.lt
    go_wp2_with fail
    clear c0 c1 c2 c3 c4 c5 d0 d1 d2 d3 d4 d5 f0 f1 f2 f3 f4 f5 hlt1 g4 g5 e4 e5
    obtain ⟨HL0, HL1, HS, HB1⟩ := r13_store2 HL0.out HL1.out HS.out hLl HB1.out (.slice (some ⟨b2, o2, none⟩) R.L.length cx) (.int .i64 (R.rd : Int))
    generalize ((w2.alloc (.cells #[.slice (some ⟨b2, o2, none⟩) R.L.length cx, .int .i64 (R.rd : Int)] 36)).setCell ⟨w.heap.size, 4, none⟩ (.slice (some ⟨b2, o2, none⟩) R.L.length cx)).setCell ⟨w.heap.size, 5, none⟩ (.int .i64 (R.rd : Int)) = w3 at *
    have HNE : Hid (b2 ≠ w.heap.size + 1) := r13_ne HL1.out HS.out hLl
    clear HLA
    have c0 := HL0.out.cell 0
    have c1 := HL0.out.cell 1
    have c2 := HL0.out.cell 2
    have c3 := HL0.out.cell 3
    have c4 := HL0.out.cell 4
    have c5 := HL0.out.cell 5
    simp only [List.getElem?_toArray, List.getElem?_cons_zero, List.getElem?_cons_succ] at c0 c1 c2 c3 c4 c5
    have d0 := HL1.out.cell 0
    have d1 := HL1.out.cell 1
    have d2 := HL1.out.cell 2
    have d3 := HL1.out.cell 3
    have d4 := HL1.out.cell 4
    have d5 := HL1.out.cell 5
    simp only [List.getElem?_toArray, List.getElem?_cons_zero, List.getElem?_cons_succ] at d0 d1 d2 d3 d4 d5
    have f0 := HL1.out.free 0
    have f1 := HL1.out.free 1
    have f2 := HL1.out.free 2
    have f3 := HL1.out.free 3
    have f4 := HL1.out.free 4
    have f5 := HL1.out.free 5
    have hlt1 := HL1.out.lt
    obtain ⟨q0, q1, q2, q3, q4, q5⟩ := st6_cells (w := w3) (a0 := .int .u64 (R.cap : Int)) (a1 := .int .u64 (R.tail : Int)) (a2 := .slice Ah R.rd ch) (a3 := .bool R.cl) (a4 := .slice (some ⟨b2, o2, none⟩) R.L.length cx) (a5 := .int .i64 (R.rd : Int)) HL1.out rfl
    have HBE := Lib.hid (st6_below (b := w.heap.size + 1) (.int .u64 (R.cap : Int)) (.int .u64 (R.tail : Int)) (.slice Ah R.rd ch) (.bool R.cl) (.slice (some ⟨b2, o2, none⟩) R.L.length cx) (.int .i64 (R.rd : Int)) HB1.out (by omega))
    have HSE := Lib.hid (SeqS.keptT HS.out (st6_kept w3 (w.heap.size + 1) (.int .u64 (R.cap : Int)) (.int .u64 (R.tail : Int)) (.slice Ah R.rd ch) (.bool R.cl) (.slice (some ⟨b2, o2, none⟩) R.L.length cx) (.int .i64 (R.rd : Int))) (fun b c o e => by
      simp only [Value.slice.injEq, Option.some.injEq, Addr.mk.injEq] at e
      obtain ⟨⟨rfl, _⟩, _⟩ := e
      exact HNE.out))
    go_region
    all_goals
      go_wp2
      refine bodyPost_ret (v := .tuple #[.int .i64 (putE R.L t : Nat), .agg #[.int .u64 (R.cap : Int), .int .u64 (R.tail : Int), .slice Ah R.rd ch, .bool R.cl, .slice (some ⟨b2, o2, none⟩) R.L.length cx, .int .i64 (R.rd : Int)]]) (by simp [results, Try.results35, go_sem, q0, q1, q2, q3, q4, q5]) rfl ?_
      exact ⟨b2, o2, cx, by (first | (rw [HE.out]; done) | (rw [HE.out]; rfl)), by (exact SeqS.drew HSE.out), HBB.out, below_drewN HBE.out 1⟩
end
end Go.Proofs.Ytahojmioonpodaa
