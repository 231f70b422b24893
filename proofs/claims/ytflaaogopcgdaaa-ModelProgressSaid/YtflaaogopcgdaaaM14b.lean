/-
  The document's log: what is got, and what is left.
-/
import Derived.Test.YtflaaogopcgdaaaM14
namespace Go.Proofs.Ytflaaogopcgdaaa
open Go.RowKit
set_option linter.unusedVariables false
set_option linter.unusedSimpArgs false
theorem get_same {M : Md} {j : Int} (hE : mgetE M j ≠ 0) : mgetM M j = M ∧ mgetV M j = 0 := by
  unfold mgetM mgetV
  rw [if_neg hE, if_neg hE]; exact ⟨rfl, rfl⟩
theorem cellsI_one (l : List Nat) : ∀ u ∈ cellsI l, u.oneCell' = true := fun u hu => by
  obtain ⟨n, _, rfl⟩ := List.mem_map.1 hu; rfl
/-- Whether a reader got all. -/
theorem got_all {M : Md} {L : List Int} (hall : AllOk M L) (hM : MdOk M) {j : Int} (hr : readsM M j = true) : gotM M j ≤ L.length ∧ (gotM M j = L.length → mgetE M j = if M.cl = true then 10 else 9) ∧ (gotM M j ≠ L.length → mgetE M j = 0) := by
  obtain ⟨h1, h2⟩ := hall
  obtain ⟨g1, g2⟩ := got_get hr
  obtain ⟨b1, b2⟩ := hM.2.2.2.2.2.1 _ (List.mem_of_getElem? g1)
  refine ⟨by omega, fun h => ?_, fun h => ?_⟩
  · unfold mgetE
    rw [hr, if_pos rfl, if_pos]
    unfold restM; exact List.drop_eq_nil_of_le (by omega)
  · unfold mgetE
    rw [hr, if_pos rfl, if_neg]
    unfold restM
    intro he
    have := congrArg List.length he
    rw [List.length_drop] at this
    simp at this
    omega
section
variable {w : World} {M : Md} {L : List Int} {AL AG : Option Addr} {cL cG : Nat}
set_option maxHeartbeats 4000000 in
set_option maxRecDepth 100000 in
theorem r14Get (j : Int) (hM : MdOk M) (hall : AllOk M L) (hS : SeqAt w (.slice AL L.length cL) (vals L)) (hG : SeqAt w (.slice AG M.G.length cG) (cellsI M.G)) (hLL : L.length ≤ 1000) :
    Calls Try.prog 16 #[.agg #[.int .i64 (M.cap : Int), .slice AL L.length cL, .slice AG M.G.length cG, .bool M.cl], .int .i64 j] w fun e w' =>
      ∃ A' c', e = .returned (.tuple #[.int .u64 (mgetV M j), .int .i64 (mgetE M j : Nat), .agg #[.int .i64 (M.cap : Int), .slice AL L.length cL, .slice A' (mgetM M j).G.length c', .bool M.cl]]) ∧ SeqAt w' (.slice A' (mgetM M j).G.length c') (cellsI (mgetM M j).G) ∧
        NewAt w w' AG A' ∧ Below w.heap.size w w' := by
  obtain ⟨HL0, HL1, hb1⟩ := m14_start w (m4V M.cap AL L.length cL AG M.G.length cG M.cl)
  have HB1 := Lib.hid hb1
  have HG := Lib.hid hG
  cases hr : readsM M j
  · have hE : mgetE M j = 1 := by unfold mgetE; rw [hr, if_neg (by decide)]
    have HV : Hid (mgetV M j = 0) := by show _ = _; unfold mgetV; rw [hE, if_neg (by decide)]
    have HM : Hid (mgetM M j = M) := by show _ = _; unfold mgetM; rw [hE, if_neg (by decide)]
    have HE := Lib.hid hE
    have hn := of_decide_eq_false hr
    clear hE hM hall hS hG hb1 hr
    by_cases j0 : j < 0
    · clear hn
      go_enter Try.func16, Try.ntmps16
      go_wp2
      generalize (w.alloc (.cells (m4V M.cap AL L.length cL AG M.G.length cG M.cl) 34)).alloc (.cells m4Z 34) = w1 at *
      have c0 := HL0.out.cell 0
      have c1 := HL0.out.cell 1
      have c2 := HL0.out.cell 2
      have c3 := HL0.out.cell 3
      simp only [List.getElem?_toArray, List.getElem?_cons_zero, List.getElem?_cons_succ] at c0 c1 c2 c3
      have d0 := HL1.out.cell 0
      have d1 := HL1.out.cell 1
      have d2 := HL1.out.cell 2
      have d3 := HL1.out.cell 3
      simp only [List.getElem?_toArray, List.getElem?_cons_zero, List.getElem?_cons_succ] at d0 d1 d2 d3
      have f0 := HL1.out.free 0
      have f1 := HL1.out.free 1
      have f2 := HL1.out.free 2
      have f3 := HL1.out.free 3
      have hlt1 := HL1.out.lt
      obtain ⟨q0, q1, q2, q3⟩ := stf_cells (w := w1) (a0 := .int .i64 (M.cap : Int)) (a1 := (.slice AL L.length cL)) (a2 := (.slice AG M.G.length cG)) (a3 := .bool M.cl) HL1.out rfl
      have HBE := Lib.hid (stf_below (b := w.heap.size + 1) (.int .i64 (M.cap : Int)) (.slice AL L.length cL) (.slice AG M.G.length cG) (.bool M.cl) HB1.out (by omega))
      have HKE := Lib.hid (stf_kept w1 (w.heap.size + 1) (.int .i64 (M.cap : Int)) (.slice AL L.length cL) (.slice AG M.G.length cG) (.bool M.cl))
      go_region
      all_goals
        go_wp2
        refine bodyPost_ret (v := .tuple #[.int .u64 0, .int .i64 1, .agg #[.int .i64 (M.cap : Int), (.slice AL L.length cL), (.slice AG M.G.length cG), .bool M.cl]]) (by simp [results, Try.results16, go_sem, q0, q1, q2, q3]) rfl ?_
        exact (⟨AG, cG, by rw [HE.out, HV.out, HM.out]; rfl, by rw [HM.out]; exact HG.out.later_ (below_drewN HBE.out 1), .inl rfl, below_drewN HBE.out 1⟩)
    · have jr : (M.G.length : Int) ≤ j := by omega
      clear hn
      go_enter Try.func16, Try.ntmps16
      go_wp2
      generalize (w.alloc (.cells (m4V M.cap AL L.length cL AG M.G.length cG M.cl) 34)).alloc (.cells m4Z 34) = w1 at *
      have c0 := HL0.out.cell 0
      have c1 := HL0.out.cell 1
      have c2 := HL0.out.cell 2
      have c3 := HL0.out.cell 3
      simp only [List.getElem?_toArray, List.getElem?_cons_zero, List.getElem?_cons_succ] at c0 c1 c2 c3
      have d0 := HL1.out.cell 0
      have d1 := HL1.out.cell 1
      have d2 := HL1.out.cell 2
      have d3 := HL1.out.cell 3
      simp only [List.getElem?_toArray, List.getElem?_cons_zero, List.getElem?_cons_succ] at d0 d1 d2 d3
      have f0 := HL1.out.free 0
      have f1 := HL1.out.free 1
      have f2 := HL1.out.free 2
      have f3 := HL1.out.free 3
      have hlt1 := HL1.out.lt
      obtain ⟨q0, q1, q2, q3⟩ := stf_cells (w := w1) (a0 := .int .i64 (M.cap : Int)) (a1 := (.slice AL L.length cL)) (a2 := (.slice AG M.G.length cG)) (a3 := .bool M.cl) HL1.out rfl
      have HBE := Lib.hid (stf_below (b := w.heap.size + 1) (.int .i64 (M.cap : Int)) (.slice AL L.length cL) (.slice AG M.G.length cG) (.bool M.cl) HB1.out (by omega))
      have HKE := Lib.hid (stf_kept w1 (w.heap.size + 1) (.int .i64 (M.cap : Int)) (.slice AL L.length cL) (.slice AG M.G.length cG) (.bool M.cl))
      go_region
      all_goals
        go_wp2
        refine bodyPost_ret (v := .tuple #[.int .u64 0, .int .i64 1, .agg #[.int .i64 (M.cap : Int), (.slice AL L.length cL), (.slice AG M.G.length cG), .bool M.cl]]) (by simp [results, Try.results16, go_sem, q0, q1, q2, q3]) rfl ?_
        exact (⟨AG, cG, by rw [HE.out, HV.out, HM.out]; rfl, by rw [HM.out]; exact HG.out.later_ (below_drewN HBE.out 1), .inl rfl, below_drewN HBE.out 1⟩)
  · obtain ⟨g1, g2⟩ := got_get hr
    obtain ⟨t1, t2, t3⟩ := got_all hall hM hr
    have h8 := hM.2.2.2.1
    obtain ⟨m, rfl⟩ : ∃ m : Nat, j = m := ⟨j.toNat, by have := of_decide_eq_true hr; omega⟩
    rw [Int.toNat_natCast] at g1 g2
    have hm : (m : Int) < (M.G.length : Int) := by omega
    obtain ⟨bG, oG, rfl, _, dk⟩ := hG.get hb1 (cellsI_get g1)
    by_cases hN : gotM M m = L.length
    · have hE := t2 hN
      have hne : mgetE M m ≠ 0 := by rw [hE]; split <;> decide
      obtain ⟨hM', hV'⟩ := get_same hne
      have HV := Lib.hid hV'
      have HM := Lib.hid hM'
      obtain ⟨N, hNN⟩ : ∃ N, gotM M m = N := ⟨_, rfl⟩
      rw [hNN] at dk hN
      have hle : ((N : Int) == (L.length : Int)) = true := by rw [beq_iff_eq]; omega
      cases hcl : M.cl
      · have HE : Hid (mgetE M m = 9) := by show _ = _; rw [hE, hcl]; rfl
        rw [hcl] at HL0 HL1 HB1 dk
        have HM2 : Hid (mgetM M m = M) := HM
        clear hE hM hall hS hG hb1 hr t1 t2 t3 hN hNN hne hM' hV' g1
        go_enter Try.func16, Try.ntmps16
        go_wp2_with fail
        generalize (w.alloc (.cells (m4V M.cap AL L.length cL (some ⟨bG, oG, none⟩) M.G.length cG false) 34)).alloc (.cells m4Z 34) = w1 at *
        have c0 := HL0.out.cell 0
        have c1 := HL0.out.cell 1
        have c2 := HL0.out.cell 2
        have c3 := HL0.out.cell 3
        simp only [List.getElem?_toArray, List.getElem?_cons_zero, List.getElem?_cons_succ] at c0 c1 c2 c3
        have d0 := HL1.out.cell 0
        have d1 := HL1.out.cell 1
        have d2 := HL1.out.cell 2
        have d3 := HL1.out.cell 3
        simp only [List.getElem?_toArray, List.getElem?_cons_zero, List.getElem?_cons_succ] at d0 d1 d2 d3
        have f0 := HL1.out.free 0
        have f1 := HL1.out.free 1
        have f2 := HL1.out.free 2
        have f3 := HL1.out.free 3
        have hlt1 := HL1.out.lt
        go_quiet (fail)
        go_wp2_with fail
        have HL0 : Hid (Lies (w1.drewN nq) w.heap.size 34 (m4V M.cap AL L.length cL (some ⟨bG, oG, none⟩) M.G.length cG false)) := HL0
        have HL1 : Hid (Lies (w1.drewN nq) (w.heap.size + 1) 34 m4Z) := HL1
        have HB1 : Hid (Below w.heap.size w (w1.drewN nq)) := below_drewN HB1.out nq
        clear c0 c1 c2 c3 d0 d1 d2 d3 f0 f1 f2 f3 hlt1 dk
        generalize w1.drewN nq = w2 at *
        have c0 := HL0.out.cell 0
        have c1 := HL0.out.cell 1
        have c2 := HL0.out.cell 2
        have c3 := HL0.out.cell 3
        simp only [List.getElem?_toArray, List.getElem?_cons_zero, List.getElem?_cons_succ] at c0 c1 c2 c3
        have d0 := HL1.out.cell 0
        have d1 := HL1.out.cell 1
        have d2 := HL1.out.cell 2
        have d3 := HL1.out.cell 3
        simp only [List.getElem?_toArray, List.getElem?_cons_zero, List.getElem?_cons_succ] at d0 d1 d2 d3
        have f0 := HL1.out.free 0
        have f1 := HL1.out.free 1
        have f2 := HL1.out.free 2
        have f3 := HL1.out.free 3
        have hlt1 := HL1.out.lt
        obtain ⟨q0, q1, q2, q3⟩ := stf_cells (w := w2) (a0 := .int .i64 (M.cap : Int)) (a1 := (.slice AL L.length cL)) (a2 := (.slice (some ⟨bG, oG, none⟩) M.G.length cG)) (a3 := .bool false) HL1.out rfl
        have HBE := Lib.hid (stf_below (b := w.heap.size + 1) (.int .i64 (M.cap : Int)) (.slice AL L.length cL) (.slice (some ⟨bG, oG, none⟩) M.G.length cG) (.bool false) HB1.out (by omega))
        have HKE := Lib.hid (stf_kept w2 (w.heap.size + 1) (.int .i64 (M.cap : Int)) (.slice AL L.length cL) (.slice (some ⟨bG, oG, none⟩) M.G.length cG) (.bool false))
        go_region
        all_goals
          go_wp2
          refine bodyPost_ret (v := .tuple #[.int .u64 0, .int .i64 9, .agg #[.int .i64 (M.cap : Int), (.slice AL L.length cL), (.slice (some ⟨bG, oG, none⟩) M.G.length cG), .bool false]]) (by simp [results, Try.results16, go_sem, q0, q1, q2, q3]) rfl ?_
          exact (⟨some ⟨bG, oG, none⟩, cG, by rw [HE.out, HV.out, HM.out]; rfl, by rw [HM.out]; exact HG.out.later_ (below_drewN HBE.out 1), .inl rfl, below_drewN HBE.out 1⟩)
      · have HE : Hid (mgetE M m = 10) := by show _ = _; rw [hE, hcl]; rfl
        rw [hcl] at HL0 HL1 HB1 dk
        have HM2 : Hid (mgetM M m = M) := HM
        clear hE hM hall hS hG hb1 hr t1 t2 t3 hN hNN hne hM' hV' g1
        go_enter Try.func16, Try.ntmps16
        go_wp2_with fail
        generalize (w.alloc (.cells (m4V M.cap AL L.length cL (some ⟨bG, oG, none⟩) M.G.length cG true) 34)).alloc (.cells m4Z 34) = w1 at *
        have c0 := HL0.out.cell 0
        have c1 := HL0.out.cell 1
        have c2 := HL0.out.cell 2
        have c3 := HL0.out.cell 3
        simp only [List.getElem?_toArray, List.getElem?_cons_zero, List.getElem?_cons_succ] at c0 c1 c2 c3
        have d0 := HL1.out.cell 0
        have d1 := HL1.out.cell 1
        have d2 := HL1.out.cell 2
        have d3 := HL1.out.cell 3
        simp only [List.getElem?_toArray, List.getElem?_cons_zero, List.getElem?_cons_succ] at d0 d1 d2 d3
        have f0 := HL1.out.free 0
        have f1 := HL1.out.free 1
        have f2 := HL1.out.free 2
        have f3 := HL1.out.free 3
        have hlt1 := HL1.out.lt
        go_quiet (fail)
        go_wp2_with fail
        have HL0 : Hid (Lies (w1.drewN nq) w.heap.size 34 (m4V M.cap AL L.length cL (some ⟨bG, oG, none⟩) M.G.length cG true)) := HL0
        have HL1 : Hid (Lies (w1.drewN nq) (w.heap.size + 1) 34 m4Z) := HL1
        have HB1 : Hid (Below w.heap.size w (w1.drewN nq)) := below_drewN HB1.out nq
        clear c0 c1 c2 c3 d0 d1 d2 d3 f0 f1 f2 f3 hlt1 dk
        generalize w1.drewN nq = w2 at *
        have c0 := HL0.out.cell 0
        have c1 := HL0.out.cell 1
        have c2 := HL0.out.cell 2
        have c3 := HL0.out.cell 3
        simp only [List.getElem?_toArray, List.getElem?_cons_zero, List.getElem?_cons_succ] at c0 c1 c2 c3
        have d0 := HL1.out.cell 0
        have d1 := HL1.out.cell 1
        have d2 := HL1.out.cell 2
        have d3 := HL1.out.cell 3
        simp only [List.getElem?_toArray, List.getElem?_cons_zero, List.getElem?_cons_succ] at d0 d1 d2 d3
        have f0 := HL1.out.free 0
        have f1 := HL1.out.free 1
        have f2 := HL1.out.free 2
        have f3 := HL1.out.free 3
        have hlt1 := HL1.out.lt
        obtain ⟨q0, q1, q2, q3⟩ := stf_cells (w := w2) (a0 := .int .i64 (M.cap : Int)) (a1 := (.slice AL L.length cL)) (a2 := (.slice (some ⟨bG, oG, none⟩) M.G.length cG)) (a3 := .bool true) HL1.out rfl
        have HBE := Lib.hid (stf_below (b := w.heap.size + 1) (.int .i64 (M.cap : Int)) (.slice AL L.length cL) (.slice (some ⟨bG, oG, none⟩) M.G.length cG) (.bool true) HB1.out (by omega))
        have HKE := Lib.hid (stf_kept w2 (w.heap.size + 1) (.int .i64 (M.cap : Int)) (.slice AL L.length cL) (.slice (some ⟨bG, oG, none⟩) M.G.length cG) (.bool true))
        go_region
        all_goals
          go_wp2
          refine bodyPost_ret (v := .tuple #[.int .u64 0, .int .i64 10, .agg #[.int .i64 (M.cap : Int), (.slice AL L.length cL), (.slice (some ⟨bG, oG, none⟩) M.G.length cG), .bool true]]) (by simp [results, Try.results16, go_sem, q0, q1, q2, q3]) rfl ?_
          exact (⟨some ⟨bG, oG, none⟩, cG, by rw [HE.out, HV.out, HM.out]; rfl, by rw [HM.out]; exact HG.out.later_ (below_drewN HBE.out 1), .inl rfl, below_drewN HBE.out 1⟩)
    · have hE := t3 hN
      obtain ⟨a1, a2, a3, a4, a5, a6, a7⟩ := hall.get hM hE
      rw [Int.toNat_natCast] at a5
      have HE := Lib.hid hE
      obtain ⟨N, hNN⟩ : ∃ N, gotM M m = N := ⟨_, rfl⟩
      obtain ⟨V, hVV⟩ : ∃ V, mgetV M m = V := ⟨_, rfl⟩
      rw [hNN] at dk a2 a4 a5 g1 hN
      rw [hVV] at a2
      obtain ⟨bL, oL, rfl, _, dl⟩ := hS.get hb1 (k := N) (u := .int .u64 V) (by unfold vals; rw [List.getElem?_map, a2]; rfl)
      have HV := Lib.hid hVV
      have HVL : Hid ((vals L)[N]? = some (.int .u64 V)) := by show _ = _; unfold vals; rw [List.getElem?_map, a2]; rfl
      have HGE : Hid (cellsI (mgetM M m).G = (cellsI M.G).set m (.int .i64 ((N : Int) + 1))) := by show _ = _; rw [a5, cellsI_set]; rfl
      have HGL : Hid ((mgetM M m).G.length = M.G.length) := by show _ = _; rw [a5]; simp
      have HG1 := Lib.hid g1
      have hNl : (N : Int) < (L.length : Int) := by omega
      have hNe : ((N : Int) == (L.length : Int)) = false := by rw [beq_eq_false_iff_ne]; omega
      have HSL := Lib.hid hS
      clear hE hM hall hS hG hb1 hr t1 t2 t3 hN a1 a2 a3 a5 a6 a7 g1 hNN hVV
      go_enter Try.func16, Try.ntmps16
      go_wp2_with fail
      generalize (w.alloc (.cells (m4V M.cap (some ⟨bL, oL, none⟩) L.length cL (some ⟨bG, oG, none⟩) M.G.length cG M.cl) 34)).alloc (.cells m4Z 34) = w1 at *
      have c0 := HL0.out.cell 0
      have c1 := HL0.out.cell 1
      have c2 := HL0.out.cell 2
      have c3 := HL0.out.cell 3
      simp only [List.getElem?_toArray, List.getElem?_cons_zero, List.getElem?_cons_succ] at c0 c1 c2 c3
      have d0 := HL1.out.cell 0
      have d1 := HL1.out.cell 1
      have d2 := HL1.out.cell 2
      have d3 := HL1.out.cell 3
      simp only [List.getElem?_toArray, List.getElem?_cons_zero, List.getElem?_cons_succ] at d0 d1 d2 d3
      have f0 := HL1.out.free 0
      have f1 := HL1.out.free 1
      have f2 := HL1.out.free 2
      have f3 := HL1.out.free 3
      have hlt1 := HL1.out.lt
      go_quiet (fail)
      have HL0 : Hid (Lies (w1.drewN nq) w.heap.size 34 (m4V M.cap (some ⟨bL, oL, none⟩) L.length cL (some ⟨bG, oG, none⟩) M.G.length cG M.cl)) := HL0
      have HL1 : Hid (Lies (w1.drewN nq) (w.heap.size + 1) 34 m4Z) := HL1
      have HB1 : Hid (Below w.heap.size w (w1.drewN nq)) := below_drewN HB1.out nq
      clear c0 c1 c2 c3 d0 d1 d2 d3 f0 f1 f2 f3 hlt1 dk dl
      generalize w1.drewN nq = w2 at *
      have hwz : w.heap.size + 2 ≤ w2.heap.size := HL1.out.lt
      have hoE := owned_empty (w := w2) (B := w2.heap.size) 3 1 (Nat.le_refl _)
      have hbA := (Below.refl w2.heap.size w2).alloc (Nat.le_refl _) (.cells #[] 3)
      have HG2 := HG.out.later_ (HB1.out.trans (hbA.mono HB1.out.size))
      obtain ⟨A'', c'', e'', _, _, hget⟩ := HG2
      rw [cellsI_length] at e''
      simp only [Value.slice.injEq, true_and] at e''
      obtain ⟨rfl, rfl⟩ := e''
      have HGET := Lib.hid hget
      have HOE := Lib.hid hoE
      have HLL := Lib.hid (cellsI_length M.G)
      have L0A := Lib.hid (HL0.out.alloc (.cells #[] 3))
      have L1A := Lib.hid (HL1.out.alloc (.cells #[] 3))
      have HBA := Lib.hid (HB1.out.trans (hbA.mono HB1.out.size))
      have ca2 := (L0A.out.cell 2).trans (show _ = some (Value.slice (some ⟨bG, oG, none⟩) M.G.length cG) from rfl)
      clear hoE hbA hget HL0 HL1 HB1
      go_wp2_with (at_builtin; refine append_arg _ rfl (.tmp 30) (.tmp 32) 32 rfl w2.heap.size 3 _ 8 Try.underlying32 Try.infoI64 rfl _ 0 [] rfl HOE.out (some ⟨bG, oG, none⟩) M.G.length cG rfl (cellsI M.G) HLL.out (fun e => by cases e) HGET.out (cellsI_one _) (by unfold maxLen; omega) (by omega) (by simp) ?_)
      intro v' w3 ho3 hb3 _
      obtain ⟨hq, cq, rfl, hqb, hql, _⟩ := ownsRow_open ho3 (by omega)
      have l0 := L0A.out.below hb3 (by omega)
      have l1 := L1A.out.below hb3 (by omega)
      have hb := HBA.out.trans (hb3.mono (by omega))
      have k2 : Kept (oneRow w.heap.size) w3 (w3.setCell ⟨w.heap.size, 2, none⟩ (.slice (some ⟨hq, 0, none⟩) M.G.length cq)) := Kept.put _ _ _ _
      have g2f := l0.free 2
      have g2c := (l0.cell 2).trans (show _ = some (Value.slice (some ⟨bG, oG, none⟩) M.G.length cG) from rfl)
      have hw3 := l0.lt
      have HL0 : Hid (Lies (w3.setCell ⟨w.heap.size, 2, none⟩ (.slice (some ⟨hq, 0, none⟩) M.G.length cq)) w.heap.size 34 (m4V M.cap (some ⟨bL, oL, none⟩) L.length cL (some ⟨hq, 0, none⟩) M.G.length cq M.cl)) := l0.put 2 _
      have HL1 := Lib.hid (l1.kept k2 (fun (e : w.heap.size + 1 = w.heap.size) => by omega))
      have HB1 := Lib.hid (hb.trans (k2.below hb.size (fun j hj (e : j = w.heap.size) => by omega)))
      have HO := Lib.hid (owns_kept ho3 k2 (fun r cur e _ (e2 : r = w.heap.size) => by
        simp only [Value.ownBlock, Option.some.injEq] at e
        omega))
      clear ho3 hb3 l0 l1 hb k2 L0A L1A HBA ca2 HGET HOE hql
      go_upto_region 8 with (fail)
      clear g2f g2c hw3
      generalize w3.setCell ⟨w.heap.size, 2, none⟩ (.slice (some ⟨hq, 0, none⟩) M.G.length cq) = w4 at *
      have k1 := owns_cell HO.out (cellsI_get HG1.out)
      have k2 := owns_free HO.out (show m < M.G.length from g2)
      have hso := owns_set (u := .int .i64 ((N : Int) + 1)) HO.out (show m < M.G.length from g2)
      have hqlt := World.block_lt_of_cell? w4 _ k1
      have hk : Kept (oneRow hq) w4 (w4.setCell ⟨hq, m, none⟩ (.int .i64 ((N : Int) + 1))) := Kept.put _ _ _ _
      have L0B := Lib.hid (HL0.out.kept hk (fun (e : w.heap.size = hq) => by omega))
      have L1B := Lib.hid (HL1.out.kept hk (fun (e : w.heap.size + 1 = hq) => by omega))
      have HBB := Lib.hid (HB1.out.trans (hk.below HB1.out.size (fun j hj (e : j = hq) => by omega)))
      rw [← HGE.out] at hso
      have HOB := Lib.hid hso
      have c0 := HL0.out.cell 0
      have c1 := HL0.out.cell 1
      have c2 := HL0.out.cell 2
      have c3 := HL0.out.cell 3
      simp only [List.getElem?_toArray, List.getElem?_cons_zero, List.getElem?_cons_succ] at c0 c1 c2 c3
      have d0 := HL1.out.cell 0
      have d1 := HL1.out.cell 1
      have d2 := HL1.out.cell 2
      have d3 := HL1.out.cell 3
      simp only [List.getElem?_toArray, List.getElem?_cons_zero, List.getElem?_cons_succ] at d0 d1 d2 d3
      have f0 := HL1.out.free 0
      have f1 := HL1.out.free 1
      have f2 := HL1.out.free 2
      have f3 := HL1.out.free 3
      have hlt1 := HL1.out.lt
      clear hso hk HO HL0 HL1 HB1 d0 d1 d2 d3 f0 f1 f2 f3
      go_upto_region 9 with (fail)
      clear c0 c1 c2 c3 k1 k2 hqlt hlt1
      generalize w4.setCell ⟨hq, m, none⟩ (.int .i64 ((N : Int) + 1)) = w5 at *
      have hgm : (cellsI (mgetM M m).G)[m]? = some (.int .i64 ((N : Int) + 1)) := by
        rw [HGE.out, List.getElem?_set_self (by rw [cellsI_length]; exact g2)]
      have k1 := owns_cell HOB.out hgm
      obtain ⟨bL', oL', eL, _, dl⟩ := HSL.out.get HBB.out (k := N) (u := .int .u64 V) HVL.out
      simp only [Option.some.injEq, Addr.mk.injEq, and_true] at eL
      obtain ⟨rfl, rfl⟩ := eL
      have HL1 := L1B
      have HB1 := HBB
      have hqz := (HOB.out.lt hq rfl).2
      have c0 := L0B.out.cell 0
      have c1 := L0B.out.cell 1
      have c2 := L0B.out.cell 2
      have c3 := L0B.out.cell 3
      simp only [List.getElem?_toArray, List.getElem?_cons_zero, List.getElem?_cons_succ] at c0 c1 c2 c3
      have d0 := L1B.out.cell 0
      have d1 := L1B.out.cell 1
      have d2 := L1B.out.cell 2
      have d3 := L1B.out.cell 3
      simp only [List.getElem?_toArray, List.getElem?_cons_zero, List.getElem?_cons_succ] at d0 d1 d2 d3
      have f0 := L1B.out.free 0
      have f1 := L1B.out.free 1
      have f2 := L1B.out.free 2
      have f3 := L1B.out.free 3
      have hlt1 := L1B.out.lt
      clear hgm
      obtain ⟨q0, q1, q2, q3⟩ := stf_cells (w := w5) (a0 := .int .i64 (M.cap : Int)) (a1 := (.slice (some ⟨bL, oL, none⟩) L.length cL)) (a2 := (.slice (some ⟨hq, 0, none⟩) M.G.length cq)) (a3 := .bool M.cl) HL1.out rfl
      have HBE := Lib.hid (stf_below (b := w.heap.size + 1) (.int .i64 (M.cap : Int)) (.slice (some ⟨bL, oL, none⟩) L.length cL) (.slice (some ⟨hq, 0, none⟩) M.G.length cq) (.bool M.cl) HB1.out (by omega))
      have HKE := Lib.hid (stf_kept w5 (w.heap.size + 1) (.int .i64 (M.cap : Int)) (.slice (some ⟨bL, oL, none⟩) L.length cL) (.slice (some ⟨hq, 0, none⟩) M.G.length cq) (.bool M.cl))
      go_region
      all_goals
        go_wp2
        refine bodyPost_ret (v := .tuple #[.int .u64 V, .int .i64 0, .agg #[.int .i64 (M.cap : Int), (.slice (some ⟨bL, oL, none⟩) L.length cL), (.slice (some ⟨hq, 0, none⟩) M.G.length cq), .bool M.cl]]) (by simp [results, Try.results16, go_sem, q0, q1, q2, q3]) rfl ?_
        exact (⟨some ⟨hq, 0, none⟩, cq, by rw [HE.out, HV.out, HGL.out]; rfl, by rw [HGL.out]; exact SeqAt.of_owns (owns_drew (owns_kept HOB.out HKE.out (fun r cur e _ (e2 : r = w.heap.size + 1) => by simp only [Value.ownBlock, Option.some.injEq] at e; omega))), .inr (fun b o e => by simp only [Option.some.injEq, Addr.mk.injEq] at e; obtain ⟨rfl, _⟩ := e; exact ⟨by omega, Nat.lt_of_lt_of_le hqz HKE.out.size⟩), below_drewN HBE.out 1⟩)
end
end Go.Proofs.Ytflaaogopcgdaaa
