import Derived.Test.YtahojmioonpodaaRgref4
namespace Go.Proofs.Ytahojmioonpodaa
open Go.RowKit
set_option linter.unusedVariables false
set_option linter.unusedSimpArgs false
/-- Heads that lie from block B on. -/
def HdFrom (B : Nat) (A : Option Addr) : Prop := ∀ b o, A = some ⟨b, o, none⟩ → B ≤ b
/-- Heads as they were, or new ones. -/
def HdNext (Ah : Option Addr) (B : Nat) (A' : Option Addr) : Prop := A' = Ah ∨ HdFrom B A'
theorem cellsH_one (l : List Nat) : ∀ u ∈ cellsH l, u.oneCell' = true := fun u hu => by
  unfold cellsH at hu
  obtain ⟨x, _, rfl⟩ := List.mem_map.1 hu
  rfl
theorem cellsH_setN (l : List Nat) (i x : Nat) : cellsH (l.set i x) = (cellsH l).set i (.int .u64 (x : Int)) := by unfold cellsH; rw [List.map_set]
section
variable {w : World} {R : Rg} {Ah As : Option Addr} {ch cs : Nat}
set_option maxHeartbeats 4000000 in
set_option maxRecDepth 100000 in
theorem ref13Take (j : Int) (hR : RgOk R) (h : HdAt w R Ah ch) :
    Calls Try.prog 37 #[.agg #[.int .u64 (R.cap : Int), .int .u64 (R.tail : Int), .slice Ah R.rd ch, .bool R.cl, .slice As R.L.length cs, .int .i64 (R.rd : Int)], .int .i64 j] w fun e w' =>
      ∃ A' c', e = .returned (.tuple #[.int .u64 (takeV R j : Nat), .int .i64 (takeE R j : Nat), .agg #[.int .u64 (R.cap : Int), .int .u64 (R.tail : Int), .slice A' R.rd c', .bool R.cl, .slice As R.L.length cs, .int .i64 (R.rd : Int)]]) ∧
        SeqAt w' (.slice A' R.rd c') (cellsH ((takeR R j).h8.take R.rd)) ∧ HdNext Ah w.heap.size A' ∧ Below w.heap.size w w' := by
  obtain ⟨HL0, HL1, hb1⟩ := r13_start w (rgV R.cap R.tail Ah R.rd ch R.cl As R.L.length cs R.rd) rfl
  have HB1 := Lib.hid hb1
  have hbz := hb1.size
  have hr2 := hR.2.1.2.2.2.1
  have hr1 := hR.2.1.2.2.1
  have htl := hR.2.2.2.1
  have H := Lib.hid h
  have HFR : Hid (HdNext Ah w.heap.size Ah) := .inl rfl
  have hw3 : IntKind.u64.wrap 0 = 0 := by decide
  by_cases hr : readsB R j = true
  · obtain ⟨j0, jr⟩ := of_decide_eq_true hr
    obtain ⟨n, rfl⟩ : ∃ n : Nat, j = n := ⟨j.toNat, by omega⟩
    have hnr : n < R.rd := by omega
    obtain ⟨g1, g2, g3⟩ := headN_get hR hr
    rw [Int.toNat_natCast] at g1 g2
    obtain ⟨b9, o9, rfl, hb9, hx⟩ := h.get hb1 hnr g1
    obtain ⟨x, hxx⟩ : ∃ x, headN R n = x := ⟨_, rfl⟩
    rw [hxx] at hx g1
    have hxt := hR.2.2.2.2 x (List.mem_of_getElem? g1)
    have HX := Lib.hid g1
    by_cases heq : x = R.tail
    · by_cases hc : R.cl = true
      · have hE : takeE R n = 10 := by unfold takeE; rw [hr, if_neg (by decide), hxx, if_pos heq, if_pos hc]
        have HE := Lib.hid hE
        have HV : Hid (takeV R n = 0) := by show _ = _; unfold takeV; rw [hE, if_neg (by decide)]
        have HHR : Hid (∀ w', Below w.heap.size w w' → SeqAt w' (.slice (some ⟨b9, o9, none⟩) R.rd ch) (cellsH ((takeR R n).h8.take R.rd))) := fun w' k => by unfold takeR; rw [hE, if_neg (by decide)]; exact H.out.later k
        subst heq
        rw [hc] at HL0 HL1 HB1 hx ⊢
        clear hb1 hR hbz h hE hr g1 g3 hxx hxt HX hc
        go_enter Try.func37, Try.ntmps37
        go_wp2
        generalize (w.alloc (.cells (rgV R.cap R.tail (some ⟨b9, o9, none⟩) R.rd ch true As R.L.length cs R.rd) 38)).alloc (.cells rgZ 38) = w1 at *
        have c0 := HL0.out.cell 0
        have c1 := HL0.out.cell 1
        have c2 := HL0.out.cell 2
        have c3 := HL0.out.cell 3
        have c4 := HL0.out.cell 4
        have c5 := HL0.out.cell 5
        simp only [List.getElem?_toArray, List.getElem?_cons_zero, List.getElem?_cons_succ] at c0 c1 c2 c3 c4 c5
        have d0 := HL1.out.cell 0
        have d1 := HL1.out.cell 1
        have d2 := HL1.out.cell 2
        have d3 := HL1.out.cell 3
        have d4 := HL1.out.cell 4
        have d5 := HL1.out.cell 5
        simp only [List.getElem?_toArray, List.getElem?_cons_zero, List.getElem?_cons_succ] at d0 d1 d2 d3 d4 d5
        have f0 := HL1.out.free 0
        have f1 := HL1.out.free 1
        have f2 := HL1.out.free 2
        have f3 := HL1.out.free 3
        have f4 := HL1.out.free 4
        have f5 := HL1.out.free 5
        have hlt1 := HL1.out.lt
        go_quiet (fail)
        go_wp2
        have HL1 : Hid (Lies (w1.drewN nq) (w.heap.size + 1) 38 rgZ) := HL1
        have HB1 : Hid (Below w.heap.size w (w1.drewN nq)) := below_drewN HB1.out nq
        have HL0 : Hid (Lies (w1.drewN nq) w.heap.size 38 (rgV R.cap R.tail (some ⟨b9, o9, none⟩) R.rd ch true As R.L.length cs R.rd)) := HL0
        clear c0 c1 c2 c3 c4 c5 d0 d1 d2 d3 d4 d5 f0 f1 f2 f3 f4 f5 hlt1
        generalize w1.drewN nq = w1 at *
        have c0 := HL0.out.cell 0
        have c1 := HL0.out.cell 1
        have c2 := HL0.out.cell 2
        have c3 := HL0.out.cell 3
        have c4 := HL0.out.cell 4
        have c5 := HL0.out.cell 5
        simp only [List.getElem?_toArray, List.getElem?_cons_zero, List.getElem?_cons_succ] at c0 c1 c2 c3 c4 c5
        have d0 := HL1.out.cell 0
        have d1 := HL1.out.cell 1
        have d2 := HL1.out.cell 2
        have d3 := HL1.out.cell 3
        have d4 := HL1.out.cell 4
        have d5 := HL1.out.cell 5
        simp only [List.getElem?_toArray, List.getElem?_cons_zero, List.getElem?_cons_succ] at d0 d1 d2 d3 d4 d5
        have f0 := HL1.out.free 0
        have f1 := HL1.out.free 1
        have f2 := HL1.out.free 2
        have f3 := HL1.out.free 3
        have f4 := HL1.out.free 4
        have f5 := HL1.out.free 5
        have hlt1 := HL1.out.lt
        obtain ⟨q0, q1, q2, q3, q4, q5⟩ := st6_cells (w := w1) (a0 := .int .u64 (R.cap : Int)) (a1 := .int .u64 (R.tail : Int)) (a2 := .slice (some ⟨b9, o9, none⟩) R.rd ch) (a3 := .bool true) (a4 := .slice As R.L.length cs) (a5 := .int .i64 (R.rd : Int)) HL1.out rfl
        have hbE := st6_below (b := w.heap.size + 1) (.int .u64 (R.cap : Int)) (.int .u64 (R.tail : Int)) (.slice (some ⟨b9, o9, none⟩) R.rd ch) (.bool true) (.slice As R.L.length cs) (.int .i64 (R.rd : Int)) HB1.out (by omega)
        have HBE := Lib.hid hbE
        (have HHD := Lib.hid (HHR.out _ (below_drewN hbE 1)))
        clear hbE
        go_region
        all_goals
          go_wp2
          refine bodyPost_ret (v := .tuple #[.int .u64 0, .int .i64 10, .agg #[.int .u64 (R.cap : Int), .int .u64 (R.tail : Int), .slice (some ⟨b9, o9, none⟩) R.rd ch, .bool true, .slice As R.L.length cs, .int .i64 (R.rd : Int)]]) (by simp [results, Try.results37, go_sem, q0, q1, q2, q3, q4, q5, hw3]) rfl ?_
          exact ⟨(some ⟨b9, o9, none⟩), ch, by (first | (rw [HE.out, HV.out]; done) | (rw [HE.out, HV.out]; rfl)), HHD.out, HFR.out, below_drewN HBE.out 1⟩
      · have hc : R.cl = false := by simpa using hc
        have hE : takeE R n = 9 := by unfold takeE; rw [hr, if_neg (by decide), hxx, if_pos heq, if_neg (by simp [hc])]
        have HE := Lib.hid hE
        have HV : Hid (takeV R n = 0) := by show _ = _; unfold takeV; rw [hE, if_neg (by decide)]
        have HHR : Hid (∀ w', Below w.heap.size w w' → SeqAt w' (.slice (some ⟨b9, o9, none⟩) R.rd ch) (cellsH ((takeR R n).h8.take R.rd))) := fun w' k => by unfold takeR; rw [hE, if_neg (by decide)]; exact H.out.later k
        subst heq
        rw [hc] at HL0 HL1 HB1 hx ⊢
        clear hb1 hR hbz h hE hr g1 g3 hxx hxt HX hc
        go_enter Try.func37, Try.ntmps37
        go_wp2
        generalize (w.alloc (.cells (rgV R.cap R.tail (some ⟨b9, o9, none⟩) R.rd ch false As R.L.length cs R.rd) 38)).alloc (.cells rgZ 38) = w1 at *
        have c0 := HL0.out.cell 0
        have c1 := HL0.out.cell 1
        have c2 := HL0.out.cell 2
        have c3 := HL0.out.cell 3
        have c4 := HL0.out.cell 4
        have c5 := HL0.out.cell 5
        simp only [List.getElem?_toArray, List.getElem?_cons_zero, List.getElem?_cons_succ] at c0 c1 c2 c3 c4 c5
        have d0 := HL1.out.cell 0
        have d1 := HL1.out.cell 1
        have d2 := HL1.out.cell 2
        have d3 := HL1.out.cell 3
        have d4 := HL1.out.cell 4
        have d5 := HL1.out.cell 5
        simp only [List.getElem?_toArray, List.getElem?_cons_zero, List.getElem?_cons_succ] at d0 d1 d2 d3 d4 d5
        have f0 := HL1.out.free 0
        have f1 := HL1.out.free 1
        have f2 := HL1.out.free 2
        have f3 := HL1.out.free 3
        have f4 := HL1.out.free 4
        have f5 := HL1.out.free 5
        have hlt1 := HL1.out.lt
        go_quiet (fail)
        go_wp2
        have HL1 : Hid (Lies (w1.drewN nq) (w.heap.size + 1) 38 rgZ) := HL1
        have HB1 : Hid (Below w.heap.size w (w1.drewN nq)) := below_drewN HB1.out nq
        have HL0 : Hid (Lies (w1.drewN nq) w.heap.size 38 (rgV R.cap R.tail (some ⟨b9, o9, none⟩) R.rd ch false As R.L.length cs R.rd)) := HL0
        clear c0 c1 c2 c3 c4 c5 d0 d1 d2 d3 d4 d5 f0 f1 f2 f3 f4 f5 hlt1
        generalize w1.drewN nq = w1 at *
        have c0 := HL0.out.cell 0
        have c1 := HL0.out.cell 1
        have c2 := HL0.out.cell 2
        have c3 := HL0.out.cell 3
        have c4 := HL0.out.cell 4
        have c5 := HL0.out.cell 5
        simp only [List.getElem?_toArray, List.getElem?_cons_zero, List.getElem?_cons_succ] at c0 c1 c2 c3 c4 c5
        have d0 := HL1.out.cell 0
        have d1 := HL1.out.cell 1
        have d2 := HL1.out.cell 2
        have d3 := HL1.out.cell 3
        have d4 := HL1.out.cell 4
        have d5 := HL1.out.cell 5
        simp only [List.getElem?_toArray, List.getElem?_cons_zero, List.getElem?_cons_succ] at d0 d1 d2 d3 d4 d5
        have f0 := HL1.out.free 0
        have f1 := HL1.out.free 1
        have f2 := HL1.out.free 2
        have f3 := HL1.out.free 3
        have f4 := HL1.out.free 4
        have f5 := HL1.out.free 5
        have hlt1 := HL1.out.lt
        obtain ⟨q0, q1, q2, q3, q4, q5⟩ := st6_cells (w := w1) (a0 := .int .u64 (R.cap : Int)) (a1 := .int .u64 (R.tail : Int)) (a2 := .slice (some ⟨b9, o9, none⟩) R.rd ch) (a3 := .bool false) (a4 := .slice As R.L.length cs) (a5 := .int .i64 (R.rd : Int)) HL1.out rfl
        have hbE := st6_below (b := w.heap.size + 1) (.int .u64 (R.cap : Int)) (.int .u64 (R.tail : Int)) (.slice (some ⟨b9, o9, none⟩) R.rd ch) (.bool false) (.slice As R.L.length cs) (.int .i64 (R.rd : Int)) HB1.out (by omega)
        have HBE := Lib.hid hbE
        (have HHD := Lib.hid (HHR.out _ (below_drewN hbE 1)))
        clear hbE
        go_region
        all_goals
          go_wp2
          refine bodyPost_ret (v := .tuple #[.int .u64 0, .int .i64 9, .agg #[.int .u64 (R.cap : Int), .int .u64 (R.tail : Int), .slice (some ⟨b9, o9, none⟩) R.rd ch, .bool false, .slice As R.L.length cs, .int .i64 (R.rd : Int)]]) (by simp [results, Try.results37, go_sem, q0, q1, q2, q3, q4, q5, hw3]) rfl ?_
          exact ⟨(some ⟨b9, o9, none⟩), ch, by (first | (rw [HE.out, HV.out]; done) | (rw [HE.out, HV.out]; rfl)), HHD.out, HFR.out, below_drewN HBE.out 1⟩
    · have hE : takeE R n = 0 := by unfold takeE; rw [hr, if_neg (by decide), hxx, if_neg heq]
      have HE := Lib.hid hE
      have HV : Hid (takeV R n = x) := by show _ = _; unfold takeV; rw [hE, if_pos rfl, hxx]
      have HTR : Hid ((takeR R n).h8 = R.h8.set n (x + 1)) := by show _ = _; unfold takeR; rw [hE, if_pos rfl, hxx, Int.toNat_natCast]
      have heb : ((x : Int) == (R.tail : Int)) = false := by rw [beq_eq_false_iff_ne]; omega
      obtain ⟨i0, hi0, hz0, hz1, hz2⟩ := info_parts Try.infoH
      have hw1 : IntKind.u64.wrap ((x : Int) + 1) = (x : Int) + 1 := by rw [IntKind.wrap_u64]; omega
      have hw2 : IntKind.u64.wrap ((x : Int) + 1 - 1) = (x : Int) := by rw [IntKind.wrap_u64]; omega
      clear hw3
      have hw3 : IntKind.u64.wrap (x : Int) = (x : Int) := by rw [IntKind.wrap_u64]; omega
      clear hR h hE hr g1 g3 hxx heq htl hxt
      go_enter Try.func37, Try.ntmps37
      go_wp2
      generalize (w.alloc (.cells (rgV R.cap R.tail (some ⟨b9, o9, none⟩) R.rd ch R.cl As R.L.length cs R.rd) 38)).alloc (.cells rgZ 38) = w1 at *
      have c0 := HL0.out.cell 0
      have c1 := HL0.out.cell 1
      have c2 := HL0.out.cell 2
      have c3 := HL0.out.cell 3
      have c4 := HL0.out.cell 4
      have c5 := HL0.out.cell 5
      simp only [List.getElem?_toArray, List.getElem?_cons_zero, List.getElem?_cons_succ] at c0 c1 c2 c3 c4 c5
      have d0 := HL1.out.cell 0
      have d1 := HL1.out.cell 1
      have d2 := HL1.out.cell 2
      have d3 := HL1.out.cell 3
      have d4 := HL1.out.cell 4
      have d5 := HL1.out.cell 5
      simp only [List.getElem?_toArray, List.getElem?_cons_zero, List.getElem?_cons_succ] at d0 d1 d2 d3 d4 d5
      have f0 := HL1.out.free 0
      have f1 := HL1.out.free 1
      have f2 := HL1.out.free 2
      have f3 := HL1.out.free 3
      have f4 := HL1.out.free 4
      have f5 := HL1.out.free 5
      have hlt1 := HL1.out.lt
      go_quiet (fail)
      have HL1 : Hid (Lies (w1.drewN nq) (w.heap.size + 1) 38 rgZ) := HL1
      have HB1 : Hid (Below w.heap.size w (w1.drewN nq)) := below_drewN HB1.out nq
      have HL0 : Hid (Lies (w1.drewN nq) w.heap.size 38 (rgV R.cap R.tail (some ⟨b9, o9, none⟩) R.rd ch R.cl As R.L.length cs R.rd)) := HL0
      clear c0 c1 c2 c3 c4 c5 d0 d1 d2 d3 d4 d5 f0 f1 f2 f3 f4 f5 hlt1 hx hb1 hbz
      generalize w1.drewN nq = w2 at *
      have hwz : w.heap.size + 2 ≤ w2.heap.size := HL1.out.lt
      have hbA := HB1.out.alloc HB1.out.size (.cells #[] 32)
      have hsq := H.out.later hbA
      have hoE := owned_empty (w := w2) (B := w2.heap.size) 32 1 (Nat.le_refl _)
      have l0A := HL0.out.alloc (.cells #[] 32)
      have l1A := HL1.out.alloc (.cells #[] 32)
      have ca2 := (l0A.cell 2).trans (show _ = some (Value.slice (some ⟨b9, o9, none⟩) R.rd ch) from rfl)
      have hsl : (cellsH (R.h8.take R.rd)).length = R.rd := by
        obtain ⟨A', c', e, _⟩ := hsq
        simp only [Value.slice.injEq] at e
        exact e.2.1.symm
      obtain ⟨A'', c'', e'', _, _, hget⟩ := hsq
      simp only [Value.slice.injEq] at e''
      obtain ⟨rfl, he2, rfl⟩ := e''
      clear he2
      have HSQ := Lib.hid hget
      have HOE := Lib.hid hoE
      have L0A := Lib.hid l0A
      have L1A := Lib.hid l1A
      have HBA := Lib.hid hbA
      have HSLL := Lib.hid hsl
      clear hbA hoE l0A l1A HL0 HL1 HB1 hget hsl
      go_wp2_with (at_builtin; refine append_arg _ rfl (.tmp 29) (.tmp 31) 33 rfl w2.heap.size 32 (.int .u64 0) 8 Try.underlying33 Try.infoH rfl _ 0 [] rfl HOE.out (some ⟨b9, o9, none⟩) R.rd ch rfl (cellsH (R.h8.take R.rd)) HSLL.out (fun e => by cases e) HSQ.out (cellsH_one _) (by unfold maxLen; omega) (by omega) (by simp) ?_)
      intro v' w3 ho3 hb3 hg3
      obtain ⟨hq, cq, rfl, hqb, hql, _, _, _⟩ := ownsRow_open ho3 (by omega)
      clear hg3
      have l0 := L0A.out.below hb3 (by omega)
      have l1 := L1A.out.below hb3 (by omega)
      have hb := HBA.out.trans (hb3.mono (by omega))
      have k2 : Kept (oneRow w.heap.size) w3 (w3.setCell ⟨w.heap.size, 2, none⟩ (.slice (some ⟨hq, 0, none⟩) R.rd cq)) := Kept.put _ _ _ _
      have g2f := l0.free 2
      have g2c := (l0.cell 2).trans (show _ = some (Value.slice (some ⟨b9, o9, none⟩) R.rd ch) from rfl)
      have hw3 := l0.lt
      have HL0 : Hid (Lies (w3.setCell ⟨w.heap.size, 2, none⟩ (.slice (some ⟨hq, 0, none⟩) R.rd cq)) w.heap.size 38 (rgV R.cap R.tail (some ⟨hq, 0, none⟩) R.rd cq R.cl As R.L.length cs R.rd)) := l0.put 2 _
      have HL1 := Lib.hid (l1.kept k2 (fun (e : w.heap.size + 1 = w.heap.size) => by omega))
      have HB1 := Lib.hid (hb.trans (k2.below hb.size (fun j hj (e : j = w.heap.size) => by omega)))
      have HO := Lib.hid (owns_put ho3 l0 (by decide) 2 (.slice (some ⟨hq, 0, none⟩) R.rd cq))
      clear L0A L1A HBA ho3 hb3 l0 l1 hb k2 HOE HSQ ca2
      go_wp2
      clear g2f g2c hw3 hql
      generalize w3.setCell ⟨w.heap.size, 2, none⟩ (.slice (some ⟨hq, 0, none⟩) R.rd cq) = w4 at *
      have hxc : (cellsH (R.h8.take R.rd))[n]? = some (.int .u64 (x : Int)) := by unfold cellsH; rw [List.getElem?_map, List.getElem?_take, if_pos hnr, HX.out]; rfl
      have k1 := owns_cell HO.out hxc
      have k2 := owns_free HO.out hnr
      have hso := owns_set (u := .int .u64 ((x : Int) + 1)) HO.out hnr
      have hqlt := World.block_lt_of_cell? w4 _ k1
      have hk : Kept (oneRow hq) w4 (w4.setCell ⟨hq, n, none⟩ (.int .u64 ((x : Int) + 1))) := Kept.put _ _ _ _
      have L0B := Lib.hid (Lies.drew (HL0.out.kept hk (fun (e : w.heap.size = hq) => by omega)))
      have L1B := Lib.hid (Lies.drew (HL1.out.kept hk (fun (e : w.heap.size + 1 = hq) => by omega)))
      have HBB := Lib.hid (below_drewN (HB1.out.trans (hk.below HB1.out.size (fun j hj (e : j = hq) => by omega))) 1)
      have hcs : (cellsH (R.h8.take R.rd)).set n (.int .u64 ((x : Int) + 1)) = cellsH ((takeR R n).h8.take R.rd) := by
        rw [HTR.out, List.take_set, cellsH_setN]; rfl
      rw [hcs] at hso
      have HOB := Lib.hid (owns_drew hso)
      have c0 := HL0.out.cell 0
      have c1 := HL0.out.cell 1
      have c2 := HL0.out.cell 2
      have c3 := HL0.out.cell 3
      have c4 := HL0.out.cell 4
      have c5 := HL0.out.cell 5
      simp only [List.getElem?_toArray, List.getElem?_cons_zero, List.getElem?_cons_succ] at c0 c1 c2 c3 c4 c5
      have d0 := HL1.out.cell 0
      have d1 := HL1.out.cell 1
      have d2 := HL1.out.cell 2
      have d3 := HL1.out.cell 3
      have d4 := HL1.out.cell 4
      have d5 := HL1.out.cell 5
      simp only [List.getElem?_toArray, List.getElem?_cons_zero, List.getElem?_cons_succ] at d0 d1 d2 d3 d4 d5
      have f0 := HL1.out.free 0
      have f1 := HL1.out.free 1
      have f2 := HL1.out.free 2
      have f3 := HL1.out.free 3
      have f4 := HL1.out.free 4
      have f5 := HL1.out.free 5
      have hlt1 := HL1.out.lt
      clear hso hk hxc hcs HO HL0 HL1 HB1 d0 d1 d2 d3 d4 d5 f0 f1 f2 f3 f4 f5
      go_region
      all_goals
        have HL1 : Hid (Lies (w4.setCell ⟨hq, n, none⟩ (.int .u64 ((x : Int) + 1))).drew (w.heap.size + 1) 38 rgZ) := L1B
        have HL0 : Hid (Lies (w4.setCell ⟨hq, n, none⟩ (.int .u64 ((x : Int) + 1))).drew w.heap.size 38 (rgV R.cap R.tail (some ⟨hq, 0, none⟩) R.rd cq R.cl As R.L.length cs R.rd)) := L0B
        have HB1 : Hid (Below w.heap.size w (w4.setCell ⟨hq, n, none⟩ (.int .u64 ((x : Int) + 1))).drew) := HBB
        clear L1B L0B HBB c0 c1 c2 c3 c4 c5 hlt1 k1 k2
        generalize (w4.setCell ⟨hq, n, none⟩ (.int .u64 ((x : Int) + 1))).drew = w5 at *
        have hxc : (cellsH ((takeR R n).h8.take R.rd))[n]? = some (.int .u64 ((x : Int) + 1)) := by
          unfold cellsH; rw [HTR.out, List.getElem?_map, List.getElem?_take, if_pos hnr, List.getElem?_set_self (by have := (List.getElem?_eq_some_iff.1 HX.out).1; omega)]; rfl
        have k1 := owns_cell HOB.out hxc
        clear hxc hqlt
        go_wp2
        have c0 := HL0.out.cell 0
        have c1 := HL0.out.cell 1
        have c2 := HL0.out.cell 2
        have c3 := HL0.out.cell 3
        have c4 := HL0.out.cell 4
        have c5 := HL0.out.cell 5
        simp only [List.getElem?_toArray, List.getElem?_cons_zero, List.getElem?_cons_succ] at c0 c1 c2 c3 c4 c5
        have d0 := HL1.out.cell 0
        have d1 := HL1.out.cell 1
        have d2 := HL1.out.cell 2
        have d3 := HL1.out.cell 3
        have d4 := HL1.out.cell 4
        have d5 := HL1.out.cell 5
        simp only [List.getElem?_toArray, List.getElem?_cons_zero, List.getElem?_cons_succ] at d0 d1 d2 d3 d4 d5
        have f0 := HL1.out.free 0
        have f1 := HL1.out.free 1
        have f2 := HL1.out.free 2
        have f3 := HL1.out.free 3
        have f4 := HL1.out.free 4
        have f5 := HL1.out.free 5
        have hlt1 := HL1.out.lt
        have HFR : Hid (HdNext (some ⟨b9, o9, none⟩) w.heap.size (some ⟨hq, 0, none⟩)) := .inr fun b o e => by
          simp only [Option.some.injEq, Addr.mk.injEq] at e
          obtain ⟨rfl, _⟩ := e
          omega
        obtain ⟨q0, q1, q2, q3, q4, q5⟩ := st6_cells (w := w5) (a0 := .int .u64 (R.cap : Int)) (a1 := .int .u64 (R.tail : Int)) (a2 := .slice (some ⟨hq, 0, none⟩) R.rd cq) (a3 := .bool R.cl) (a4 := .slice As R.L.length cs) (a5 := .int .i64 (R.rd : Int)) HL1.out rfl
        have hbE := st6_below (b := w.heap.size + 1) (.int .u64 (R.cap : Int)) (.int .u64 (R.tail : Int)) (.slice (some ⟨hq, 0, none⟩) R.rd cq) (.bool R.cl) (.slice As R.L.length cs) (.int .i64 (R.rd : Int)) HB1.out (by omega)
        have HBE := Lib.hid hbE
        (have HHD := Lib.hid (SeqAt.of_owns (owns_drew (owns_kept HOB.out (st6_kept w5 (w.heap.size + 1) (.int .u64 (R.cap : Int)) (.int .u64 (R.tail : Int)) (.slice (some ⟨hq, 0, none⟩) R.rd cq) (.bool R.cl) (.slice As R.L.length cs) (.int .i64 (R.rd : Int))) (fun r cur hv hl (e : r = w.heap.size + 1) => by have := (HOB.out.lt r hv).1; omega)))))
        clear hbE
        go_region
        all_goals
          go_wp2
          refine bodyPost_ret (v := .tuple #[.int .u64 (x : Int), .int .i64 0, .agg #[.int .u64 (R.cap : Int), .int .u64 (R.tail : Int), .slice (some ⟨hq, 0, none⟩) R.rd cq, .bool R.cl, .slice As R.L.length cs, .int .i64 (R.rd : Int)]]) (by simp [results, Try.results37, go_sem, q0, q1, q2, q3, q4, q5, hw3]) rfl ?_
          exact ⟨(some ⟨hq, 0, none⟩), cq, by (first | (rw [HE.out, HV.out]; done) | (rw [HE.out, HV.out]; rfl)), HHD.out, HFR.out, below_drewN HBE.out 1⟩
  · have hr : readsB R j = false := by simpa using hr
    have hE : takeE R j = 1 := by unfold takeE; rw [hr, if_pos rfl]
    have HE := Lib.hid hE
    have HV : Hid (takeV R j = 0) := by show _ = _; unfold takeV; rw [hE, if_neg (by decide)]
    have HHR : Hid (∀ w', Below w.heap.size w w' → SeqAt w' (.slice Ah R.rd ch) (cellsH ((takeR R j).h8.take R.rd))) := fun w' k => by unfold takeR; rw [hE, if_neg (by decide)]; exact H.out.later k
    have hn := of_decide_eq_false hr
    by_cases j0 : j < 0
    · clear hb1 hR hbz h hE hr hn
      go_enter Try.func37, Try.ntmps37
      go_wp2
      generalize (w.alloc (.cells (rgV R.cap R.tail Ah R.rd ch R.cl As R.L.length cs R.rd) 38)).alloc (.cells rgZ 38) = w1 at *
      have c0 := HL0.out.cell 0
      have c1 := HL0.out.cell 1
      have c2 := HL0.out.cell 2
      have c3 := HL0.out.cell 3
      have c4 := HL0.out.cell 4
      have c5 := HL0.out.cell 5
      simp only [List.getElem?_toArray, List.getElem?_cons_zero, List.getElem?_cons_succ] at c0 c1 c2 c3 c4 c5
      have d0 := HL1.out.cell 0
      have d1 := HL1.out.cell 1
      have d2 := HL1.out.cell 2
      have d3 := HL1.out.cell 3
      have d4 := HL1.out.cell 4
      have d5 := HL1.out.cell 5
      simp only [List.getElem?_toArray, List.getElem?_cons_zero, List.getElem?_cons_succ] at d0 d1 d2 d3 d4 d5
      have f0 := HL1.out.free 0
      have f1 := HL1.out.free 1
      have f2 := HL1.out.free 2
      have f3 := HL1.out.free 3
      have f4 := HL1.out.free 4
      have f5 := HL1.out.free 5
      have hlt1 := HL1.out.lt
      obtain ⟨q0, q1, q2, q3, q4, q5⟩ := st6_cells (w := w1) (a0 := .int .u64 (R.cap : Int)) (a1 := .int .u64 (R.tail : Int)) (a2 := .slice Ah R.rd ch) (a3 := .bool R.cl) (a4 := .slice As R.L.length cs) (a5 := .int .i64 (R.rd : Int)) HL1.out rfl
      have hbE := st6_below (b := w.heap.size + 1) (.int .u64 (R.cap : Int)) (.int .u64 (R.tail : Int)) (.slice Ah R.rd ch) (.bool R.cl) (.slice As R.L.length cs) (.int .i64 (R.rd : Int)) HB1.out (by omega)
      have HBE := Lib.hid hbE
      (have HHD := Lib.hid (HHR.out _ (below_drewN hbE 1)))
      clear hbE
      go_region
      all_goals
        go_wp2
        refine bodyPost_ret (v := .tuple #[.int .u64 0, .int .i64 1, .agg #[.int .u64 (R.cap : Int), .int .u64 (R.tail : Int), .slice Ah R.rd ch, .bool R.cl, .slice As R.L.length cs, .int .i64 (R.rd : Int)]]) (by simp [results, Try.results37, go_sem, q0, q1, q2, q3, q4, q5, hw3]) rfl ?_
        exact ⟨Ah, ch, by (first | (rw [HE.out, HV.out]; done) | (rw [HE.out, HV.out]; rfl)), HHD.out, HFR.out, below_drewN HBE.out 1⟩
    · have jr : (R.rd : Int) ≤ j := by omega
      clear hb1 hR hbz h hE hr hn
      go_enter Try.func37, Try.ntmps37
      go_wp2
      generalize (w.alloc (.cells (rgV R.cap R.tail Ah R.rd ch R.cl As R.L.length cs R.rd) 38)).alloc (.cells rgZ 38) = w1 at *
      have c0 := HL0.out.cell 0
      have c1 := HL0.out.cell 1
      have c2 := HL0.out.cell 2
      have c3 := HL0.out.cell 3
      have c4 := HL0.out.cell 4
      have c5 := HL0.out.cell 5
      simp only [List.getElem?_toArray, List.getElem?_cons_zero, List.getElem?_cons_succ] at c0 c1 c2 c3 c4 c5
      have d0 := HL1.out.cell 0
      have d1 := HL1.out.cell 1
      have d2 := HL1.out.cell 2
      have d3 := HL1.out.cell 3
      have d4 := HL1.out.cell 4
      have d5 := HL1.out.cell 5
      simp only [List.getElem?_toArray, List.getElem?_cons_zero, List.getElem?_cons_succ] at d0 d1 d2 d3 d4 d5
      have f0 := HL1.out.free 0
      have f1 := HL1.out.free 1
      have f2 := HL1.out.free 2
      have f3 := HL1.out.free 3
      have f4 := HL1.out.free 4
      have f5 := HL1.out.free 5
      have hlt1 := HL1.out.lt
      obtain ⟨q0, q1, q2, q3, q4, q5⟩ := st6_cells (w := w1) (a0 := .int .u64 (R.cap : Int)) (a1 := .int .u64 (R.tail : Int)) (a2 := .slice Ah R.rd ch) (a3 := .bool R.cl) (a4 := .slice As R.L.length cs) (a5 := .int .i64 (R.rd : Int)) HL1.out rfl
      have hbE := st6_below (b := w.heap.size + 1) (.int .u64 (R.cap : Int)) (.int .u64 (R.tail : Int)) (.slice Ah R.rd ch) (.bool R.cl) (.slice As R.L.length cs) (.int .i64 (R.rd : Int)) HB1.out (by omega)
      have HBE := Lib.hid hbE
      (have HHD := Lib.hid (HHR.out _ (below_drewN hbE 1)))
      clear hbE
      go_region
      all_goals
        go_wp2
        refine bodyPost_ret (v := .tuple #[.int .u64 0, .int .i64 1, .agg #[.int .u64 (R.cap : Int), .int .u64 (R.tail : Int), .slice Ah R.rd ch, .bool R.cl, .slice As R.L.length cs, .int .i64 (R.rd : Int)]]) (by simp [results, Try.results37, go_sem, q0, q1, q2, q3, q4, q5, hw3]) rfl ?_
        exact ⟨Ah, ch, by (first | (rw [HE.out, HV.out]; done) | (rw [HE.out, HV.out]; rfl)), HHD.out, HFR.out, below_drewN HBE.out 1⟩
end
end Go.Proofs.Ytahojmioonpodaa
