import Derived.Test.YtahojmioonpodaaRgref3
namespace Go.Proofs.Ytahojmioonpodaa
open Go.RowKit
set_option linter.unusedVariables false
set_option linter.unusedSimpArgs false
section
variable {w : World} {R : Rg} {Ah : Option Addr} {ch cs : Nat} {A : Addr}
set_option maxHeartbeats 2000000 in
set_option maxRecDepth 100000 in
theorem ref13Release (j : Int) (t B : Nat) (hR : RgOk R) (h : HdAt w R Ah ch) (hs : SeqS w 3 (.slice (some A) R.L.length cs) R.L.length (rowsOf slF R.L)) (ht : t ≤ 18446744073709551615) (hB : B ≤ A.block) (hBw : B ≤ w.heap.size) :
    Calls Try.prog 36 #[.agg #[.int .u64 (R.cap : Int), .int .u64 (R.tail : Int), .slice Ah R.rd ch, .bool R.cl, .slice (some A) R.L.length cs, .int .i64 (R.rd : Int)], .int .i64 j, .int .u64 t] w fun e w' =>
      ∃ b o c', e = .returned (.tuple #[.int .u64 (relV R j t : Nat), .int .i64 (relE R j t : Nat), .agg #[.int .u64 (R.cap : Int), .int .u64 (R.tail : Int), .slice Ah R.rd ch, .bool R.cl, .slice (some ⟨b, o, none⟩) R.L.length c', .int .i64 (R.rd : Int)]]) ∧
        SeqS w' 3 (.slice (some ⟨b, o, none⟩) R.L.length c') R.L.length (rowsOf slF (relR R j t).L) ∧ B ≤ b ∧ Below w.heap.size w w' := by
  obtain ⟨b0, o0, rfl⟩ := seq_addr hs hR.2.1.1
  obtain ⟨HL0, HL1, hb1⟩ := r13_start w (rgV R.cap R.tail Ah R.rd ch R.cl (some ⟨b0, o0, none⟩) R.L.length cs R.rd) rfl
  have HS := Lib.hid (hs.later hb1)
  have HB1 := Lib.hid hb1
  have hbz := hb1.size
  have HOK := Lib.hid hR.2.1
  have HNE : Hid (b0 ≠ w.heap.size + 1) := r13_ne HL1.out HS.out hR.2.1.1
  have HBB := Lib.hid hB
  by_cases hr : readsB R j = true
  · obtain ⟨j0, jr⟩ := of_decide_eq_true hr
    obtain ⟨n, rfl⟩ : ∃ n : Nat, j = n := ⟨j.toNat, by omega⟩
    have hnr : n < R.rd := by omega
    obtain ⟨g1, g2, g3⟩ := headN_get hR hr
    rw [Int.toNat_natCast] at g1 g2
    obtain ⟨b9, o9, rfl, hb9, hx⟩ := h.get hb1 hnr g1
    obtain ⟨x, hxx⟩ : ∃ x, headN R n = x := ⟨_, rfl⟩
    rw [hxx] at hx g1
    by_cases hge : x ≤ t
    · have hE : relE R n t = 11 := by unfold relE; rw [hr, if_neg (by decide), hxx, if_pos hge]
      have HE := Lib.hid hE
      have HV : Hid (relV R n t = 0) := by show _ = _; unfold relV; rw [hE, if_neg (by decide)]
      have HRR : Hid ((relR R n t).L = R.L) := by show _ = _; unfold relR; rw [hE, if_neg (by decide)]
      clear hs hb1 hR hbz hB h hE hr g1 g3 hxx
      go_enter Try.func36, Try.ntmps36
      go_wp2
      generalize (w.alloc (.cells (rgV R.cap R.tail (some ⟨b9, o9, none⟩) R.rd ch R.cl (some ⟨b0, o0, none⟩) R.L.length cs R.rd) 38)).alloc (.cells rgZ 38) = w1 at *
      have c0 := HL0.out.cell 0
      have c1 := HL0.out.cell 1
      have c2 := HL0.out.cell 2
      have c3 := HL0.out.cell 3
      have c4 := HL0.out.cell 4
      have c5 := HL0.out.cell 5
      simp only [List.getElem?_toArray, List.getElem?_cons_zero, List.getElem?_cons_succ] at c0 c1 c2 c3 c4 c5
      have d0 := HL1.out.cell 0
      have d1 := HL1.out.cell 1
      have d2 := HL1.out.cell 2
      have d3 := HL1.out.cell 3
      have d4 := HL1.out.cell 4
      have d5 := HL1.out.cell 5
      simp only [List.getElem?_toArray, List.getElem?_cons_zero, List.getElem?_cons_succ] at d0 d1 d2 d3 d4 d5
      have f0 := HL1.out.free 0
      have f1 := HL1.out.free 1
      have f2 := HL1.out.free 2
      have f3 := HL1.out.free 3
      have f4 := HL1.out.free 4
      have f5 := HL1.out.free 5
      have hlt1 := HL1.out.lt
      obtain ⟨q0, q1, q2, q3, q4, q5⟩ := st6_cells (w := w1) (a0 := .int .u64 (R.cap : Int)) (a1 := .int .u64 (R.tail : Int)) (a2 := .slice (some ⟨b9, o9, none⟩) R.rd ch) (a3 := .bool R.cl) (a4 := .slice (some ⟨b0, o0, none⟩) R.L.length cs) (a5 := .int .i64 (R.rd : Int)) HL1.out rfl
      have HBE := Lib.hid (st6_below (b := w.heap.size + 1) (.int .u64 (R.cap : Int)) (.int .u64 (R.tail : Int)) (.slice (some ⟨b9, o9, none⟩) R.rd ch) (.bool R.cl) (.slice (some ⟨b0, o0, none⟩) R.L.length cs) (.int .i64 (R.rd : Int)) HB1.out (by omega))
      have HSE := Lib.hid (SeqS.keptT HS.out (st6_kept w1 (w.heap.size + 1) (.int .u64 (R.cap : Int)) (.int .u64 (R.tail : Int)) (.slice (some ⟨b9, o9, none⟩) R.rd ch) (.bool R.cl) (.slice (some ⟨b0, o0, none⟩) R.L.length cs) (.int .i64 (R.rd : Int))) (fun b c o e => by
        simp only [Value.slice.injEq, Option.some.injEq, Addr.mk.injEq] at e
        obtain ⟨⟨rfl, _⟩, _⟩ := e
        exact HNE.out))
      go_region
      all_goals
        go_wp2
        refine bodyPost_ret (v := .tuple #[.int .u64 0, .int .i64 11, .agg #[.int .u64 (R.cap : Int), .int .u64 (R.tail : Int), .slice (some ⟨b9, o9, none⟩) R.rd ch, .bool R.cl, .slice (some ⟨b0, o0, none⟩) R.L.length cs, .int .i64 (R.rd : Int)]]) (by simp [results, Try.results36, go_sem, q0, q1, q2, q3, q4, q5]) rfl ?_
        exact ⟨b0, o0, cs, by (first | (rw [HE.out, HV.out]; done) | (rw [HE.out, HV.out]; rfl)), by (rw [HRR.out]; exact SeqS.drew HSE.out), HBB.out, below_drewN HBE.out 1⟩
    · have hge2 : ¬ headN R n ≤ t := by rw [hxx]; exact hge
      have hEi := relE_in hr hge2
      have HE : Hid (relE R n t = getE R.rd R.L n t) := hEi
      have HV : Hid (relV R n t = getV R.rd R.L n t) := by show _ = _; unfold relV; rw [hEi]; exact getE_V
      have HRR : Hid ((relR R n t).L = getS R.rd R.L n t) := by show _ = _; rw [relR_in hr hge2]
      have e1 : decide (x ≤ t) = false := by rw [decide_eq_false_iff_not]; exact hge
      have HPF := Lib.hid (fun w' (hs : SeqS w' 3 (.slice (some ⟨b0, o0, none⟩) R.L.length cs) R.L.length (rowsOf slF R.L)) (hBw : B ≤ w'.heap.size) => ref12GetF (r := R.rd) (t := t) (j := (n : Int)) (B := B) hs rfl hR.2.1 ht hB hBw)
      clear hs hb1 hR h hr g1 g3 hge2 hEi hxx
      go_enter Try.func36, Try.ntmps36
      go_wp2_with fail
      generalize (w.alloc (.cells (rgV R.cap R.tail (some ⟨b9, o9, none⟩) R.rd ch R.cl (some ⟨b0, o0, none⟩) R.L.length cs R.rd) 38)).alloc (.cells rgZ 38) = w1 at *
      refine (HPF.out _ HS.out (by omega)).mono ?_
      rintro e w2 ⟨b2, o2, cx, rfl, hs2, hB2, hb2⟩
      rw [← HRR.out] at hs2
      have hl1 := HL1.out.lt
      have hLl : 1 ≤ (relR R n t).L.length := by rw [HRR.out, getS_length]; exact HOK.out.1
      have hbA : Below w2.heap.size w2 (w2.alloc (.cells #[.slice (some ⟨b2, o2, none⟩) R.L.length cx, .int .i64 (R.rd : Int)] 36)) := (Below.refl _ _).alloc (Nat.le_refl _) _
      have HL0 := Lib.hid ((HL0.out.below hb2 HL0.out.lt).alloc (.cells #[.slice (some ⟨b2, o2, none⟩) R.L.length cx, .int .i64 (R.rd : Int)] 36))
      have HL1 := Lib.hid ((HL1.out.below hb2 HL1.out.lt).alloc (.cells #[.slice (some ⟨b2, o2, none⟩) R.L.length cx, .int .i64 (R.rd : Int)] 36))
      have HB1 := Lib.hid (HB1.out.trans ((hb2.trans (hbA.mono hb2.size)).mono HB1.out.size))
      have HS := Lib.hid (hs2.later hbA)
      have HBB := Lib.hid hB2
      have hw2 : w.heap.size + 2 ≤ w2.heap.size := by have := hb2.size; omega
      have HLA := Lib.hid (Lies.made w2 36 #[.slice (some ⟨b2, o2, none⟩) R.L.length cx, .int .i64 (R.rd : Int)])
      have g4 := HL0.out.free 4
      have g5 := HL0.out.free 5
      have e4 := HLA.out.cell 0
      have e5 := HLA.out.cell 1
      simp only [List.getElem?_toArray, List.getElem?_cons_zero, List.getElem?_cons_succ] at e4 e5
      clear hs2 hB2 hb2 hbA hbz HPF hx
      have c0 := HL0.out.cell 0
      have c1 := HL0.out.cell 1
      have c2 := HL0.out.cell 2
      have c3 := HL0.out.cell 3
      have c4 := HL0.out.cell 4
      have c5 := HL0.out.cell 5
      simp only [List.getElem?_toArray, List.getElem?_cons_zero, List.getElem?_cons_succ] at c0 c1 c2 c3 c4 c5
      have d0 := HL1.out.cell 0
      have d1 := HL1.out.cell 1
      have d2 := HL1.out.cell 2
      have d3 := HL1.out.cell 3
      have d4 := HL1.out.cell 4
      have d5 := HL1.out.cell 5
      simp only [List.getElem?_toArray, List.getElem?_cons_zero, List.getElem?_cons_succ] at d0 d1 d2 d3 d4 d5
      have f0 := HL1.out.free 0
      have f1 := HL1.out.free 1
      have f2 := HL1.out.free 2
      have f3 := HL1.out.free 3
      have f4 := HL1.out.free 4
      have f5 := HL1.out.free 5
      have hlt1 := HL1.out.lt
      go_wp2_with fail
      clear c0 c1 c2 c3 c4 c5 d0 d1 d2 d3 d4 d5 f0 f1 f2 f3 f4 f5 hlt1 g4 g5 e4 e5
      obtain ⟨HL0, HL1, HS, HB1⟩ := r13_store2 HL0.out HL1.out HS.out hLl HB1.out (.slice (some ⟨b2, o2, none⟩) R.L.length cx) (.int .i64 (R.rd : Int))
      generalize ((w2.alloc (.cells #[.slice (some ⟨b2, o2, none⟩) R.L.length cx, .int .i64 (R.rd : Int)] 36)).setCell ⟨w.heap.size, 4, none⟩ (.slice (some ⟨b2, o2, none⟩) R.L.length cx)).setCell ⟨w.heap.size, 5, none⟩ (.int .i64 (R.rd : Int)) = w3 at *
      have HNE : Hid (b2 ≠ w.heap.size + 1) := r13_ne HL1.out HS.out hLl
      clear HLA
      have c0 := HL0.out.cell 0
      have c1 := HL0.out.cell 1
      have c2 := HL0.out.cell 2
      have c3 := HL0.out.cell 3
      have c4 := HL0.out.cell 4
      have c5 := HL0.out.cell 5
      simp only [List.getElem?_toArray, List.getElem?_cons_zero, List.getElem?_cons_succ] at c0 c1 c2 c3 c4 c5
      have d0 := HL1.out.cell 0
      have d1 := HL1.out.cell 1
      have d2 := HL1.out.cell 2
      have d3 := HL1.out.cell 3
      have d4 := HL1.out.cell 4
      have d5 := HL1.out.cell 5
      simp only [List.getElem?_toArray, List.getElem?_cons_zero, List.getElem?_cons_succ] at d0 d1 d2 d3 d4 d5
      have f0 := HL1.out.free 0
      have f1 := HL1.out.free 1
      have f2 := HL1.out.free 2
      have f3 := HL1.out.free 3
      have f4 := HL1.out.free 4
      have f5 := HL1.out.free 5
      have hlt1 := HL1.out.lt
      obtain ⟨q0, q1, q2, q3, q4, q5⟩ := st6_cells (w := w3) (a0 := .int .u64 (R.cap : Int)) (a1 := .int .u64 (R.tail : Int)) (a2 := .slice (some ⟨b9, o9, none⟩) R.rd ch) (a3 := .bool R.cl) (a4 := .slice (some ⟨b2, o2, none⟩) R.L.length cx) (a5 := .int .i64 (R.rd : Int)) HL1.out rfl
      have HBE := Lib.hid (st6_below (b := w.heap.size + 1) (.int .u64 (R.cap : Int)) (.int .u64 (R.tail : Int)) (.slice (some ⟨b9, o9, none⟩) R.rd ch) (.bool R.cl) (.slice (some ⟨b2, o2, none⟩) R.L.length cx) (.int .i64 (R.rd : Int)) HB1.out (by omega))
      have HSE := Lib.hid (SeqS.keptT HS.out (st6_kept w3 (w.heap.size + 1) (.int .u64 (R.cap : Int)) (.int .u64 (R.tail : Int)) (.slice (some ⟨b9, o9, none⟩) R.rd ch) (.bool R.cl) (.slice (some ⟨b2, o2, none⟩) R.L.length cx) (.int .i64 (R.rd : Int))) (fun b c o e => by
        simp only [Value.slice.injEq, Option.some.injEq, Addr.mk.injEq] at e
        obtain ⟨⟨rfl, _⟩, _⟩ := e
        exact HNE.out))
      go_region
      all_goals
        go_wp2
        refine bodyPost_ret (v := .tuple #[.int .u64 (getV R.rd R.L n t : Nat), .int .i64 (getE R.rd R.L n t : Nat), .agg #[.int .u64 (R.cap : Int), .int .u64 (R.tail : Int), .slice (some ⟨b9, o9, none⟩) R.rd ch, .bool R.cl, .slice (some ⟨b2, o2, none⟩) R.L.length cx, .int .i64 (R.rd : Int)]]) (by simp [results, Try.results36, go_sem, q0, q1, q2, q3, q4, q5]) rfl ?_
        exact ⟨b2, o2, cx, by (first | (rw [HE.out, HV.out]; done) | (rw [HE.out, HV.out]; rfl)), by (exact SeqS.drew HSE.out), HBB.out, below_drewN HBE.out 1⟩
  · have hr : readsB R j = false := by simpa using hr
    have hE : relE R j t = 1 := by unfold relE; rw [hr, if_pos rfl]
    have HE := Lib.hid hE
    have HV : Hid (relV R j t = 0) := by show _ = _; unfold relV; rw [hE, if_neg (by decide)]
    have HRR : Hid ((relR R j t).L = R.L) := by show _ = _; unfold relR; rw [hE, if_neg (by decide)]
    have hn := of_decide_eq_false hr
    by_cases j0 : j < 0
    · clear hs hb1 hR hbz hB h hE hr hn
      go_enter Try.func36, Try.ntmps36
      go_wp2
      generalize (w.alloc (.cells (rgV R.cap R.tail Ah R.rd ch R.cl (some ⟨b0, o0, none⟩) R.L.length cs R.rd) 38)).alloc (.cells rgZ 38) = w1 at *
      have c0 := HL0.out.cell 0
      have c1 := HL0.out.cell 1
      have c2 := HL0.out.cell 2
      have c3 := HL0.out.cell 3
      have c4 := HL0.out.cell 4
      have c5 := HL0.out.cell 5
      simp only [List.getElem?_toArray, List.getElem?_cons_zero, List.getElem?_cons_succ] at c0 c1 c2 c3 c4 c5
      have d0 := HL1.out.cell 0
      have d1 := HL1.out.cell 1
      have d2 := HL1.out.cell 2
      have d3 := HL1.out.cell 3
      have d4 := HL1.out.cell 4
      have d5 := HL1.out.cell 5
      simp only [List.getElem?_toArray, List.getElem?_cons_zero, List.getElem?_cons_succ] at d0 d1 d2 d3 d4 d5
      have f0 := HL1.out.free 0
      have f1 := HL1.out.free 1
      have f2 := HL1.out.free 2
      have f3 := HL1.out.free 3
      have f4 := HL1.out.free 4
      have f5 := HL1.out.free 5
      have hlt1 := HL1.out.lt
      obtain ⟨q0, q1, q2, q3, q4, q5⟩ := st6_cells (w := w1) (a0 := .int .u64 (R.cap : Int)) (a1 := .int .u64 (R.tail : Int)) (a2 := .slice Ah R.rd ch) (a3 := .bool R.cl) (a4 := .slice (some ⟨b0, o0, none⟩) R.L.length cs) (a5 := .int .i64 (R.rd : Int)) HL1.out rfl
      have HBE := Lib.hid (st6_below (b := w.heap.size + 1) (.int .u64 (R.cap : Int)) (.int .u64 (R.tail : Int)) (.slice Ah R.rd ch) (.bool R.cl) (.slice (some ⟨b0, o0, none⟩) R.L.length cs) (.int .i64 (R.rd : Int)) HB1.out (by omega))
      have HSE := Lib.hid (SeqS.keptT HS.out (st6_kept w1 (w.heap.size + 1) (.int .u64 (R.cap : Int)) (.int .u64 (R.tail : Int)) (.slice Ah R.rd ch) (.bool R.cl) (.slice (some ⟨b0, o0, none⟩) R.L.length cs) (.int .i64 (R.rd : Int))) (fun b c o e => by
        simp only [Value.slice.injEq, Option.some.injEq, Addr.mk.injEq] at e
        obtain ⟨⟨rfl, _⟩, _⟩ := e
        exact HNE.out))
      go_region
      all_goals
        go_wp2
        refine bodyPost_ret (v := .tuple #[.int .u64 0, .int .i64 1, .agg #[.int .u64 (R.cap : Int), .int .u64 (R.tail : Int), .slice Ah R.rd ch, .bool R.cl, .slice (some ⟨b0, o0, none⟩) R.L.length cs, .int .i64 (R.rd : Int)]]) (by simp [results, Try.results36, go_sem, q0, q1, q2, q3, q4, q5]) rfl ?_
        exact ⟨b0, o0, cs, by (first | (rw [HE.out, HV.out]; done) | (rw [HE.out, HV.out]; rfl)), by (rw [HRR.out]; exact SeqS.drew HSE.out), HBB.out, below_drewN HBE.out 1⟩
    · have jr : (R.rd : Int) ≤ j := by omega
      clear hs hb1 hR hbz hB h hE hr hn
      go_enter Try.func36, Try.ntmps36
      go_wp2
      generalize (w.alloc (.cells (rgV R.cap R.tail Ah R.rd ch R.cl (some ⟨b0, o0, none⟩) R.L.length cs R.rd) 38)).alloc (.cells rgZ 38) = w1 at *
      have c0 := HL0.out.cell 0
      have c1 := HL0.out.cell 1
      have c2 := HL0.out.cell 2
      have c3 := HL0.out.cell 3
      have c4 := HL0.out.cell 4
      have c5 := HL0.out.cell 5
      simp only [List.getElem?_toArray, List.getElem?_cons_zero, List.getElem?_cons_succ] at c0 c1 c2 c3 c4 c5
      have d0 := HL1.out.cell 0
      have d1 := HL1.out.cell 1
      have d2 := HL1.out.cell 2
      have d3 := HL1.out.cell 3
      have d4 := HL1.out.cell 4
      have d5 := HL1.out.cell 5
      simp only [List.getElem?_toArray, List.getElem?_cons_zero, List.getElem?_cons_succ] at d0 d1 d2 d3 d4 d5
      have f0 := HL1.out.free 0
      have f1 := HL1.out.free 1
      have f2 := HL1.out.free 2
      have f3 := HL1.out.free 3
      have f4 := HL1.out.free 4
      have f5 := HL1.out.free 5
      have hlt1 := HL1.out.lt
      obtain ⟨q0, q1, q2, q3, q4, q5⟩ := st6_cells (w := w1) (a0 := .int .u64 (R.cap : Int)) (a1 := .int .u64 (R.tail : Int)) (a2 := .slice Ah R.rd ch) (a3 := .bool R.cl) (a4 := .slice (some ⟨b0, o0, none⟩) R.L.length cs) (a5 := .int .i64 (R.rd : Int)) HL1.out rfl
      have HBE := Lib.hid (st6_below (b := w.heap.size + 1) (.int .u64 (R.cap : Int)) (.int .u64 (R.tail : Int)) (.slice Ah R.rd ch) (.bool R.cl) (.slice (some ⟨b0, o0, none⟩) R.L.length cs) (.int .i64 (R.rd : Int)) HB1.out (by omega))
      have HSE := Lib.hid (SeqS.keptT HS.out (st6_kept w1 (w.heap.size + 1) (.int .u64 (R.cap : Int)) (.int .u64 (R.tail : Int)) (.slice Ah R.rd ch) (.bool R.cl) (.slice (some ⟨b0, o0, none⟩) R.L.length cs) (.int .i64 (R.rd : Int))) (fun b c o e => by
        simp only [Value.slice.injEq, Option.some.injEq, Addr.mk.injEq] at e
        obtain ⟨⟨rfl, _⟩, _⟩ := e
        exact HNE.out))
      go_region
      all_goals
        go_wp2
        refine bodyPost_ret (v := .tuple #[.int .u64 0, .int .i64 1, .agg #[.int .u64 (R.cap : Int), .int .u64 (R.tail : Int), .slice Ah R.rd ch, .bool R.cl, .slice (some ⟨b0, o0, none⟩) R.L.length cs, .int .i64 (R.rd : Int)]]) (by simp [results, Try.results36, go_sem, q0, q1, q2, q3, q4, q5]) rfl ?_
        exact ⟨b0, o0, cs, by (first | (rw [HE.out, HV.out]; done) | (rw [HE.out, HV.out]; rfl)), by (rw [HRR.out]; exact SeqS.drew HSE.out), HBB.out, below_drewN HBE.out 1⟩
end
end Go.Proofs.Ytahojmioonpodaa
