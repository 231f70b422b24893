/-
  Which events meet what a thread asks for (layer 16): thread.matches, its walk.
-/
import Derived.Test.YtiegmpjoiekekaaThm
namespace Go.Proofs.Ytiegmpjoiekekaa
open Go.RowKit
set_option linter.unusedVariables false
set_option linter.unusedSimpArgs false
theorem ev_lies (w : World) (e : Ev) (a : Ak) : Lies ((w.alloc (.cells (evC e) 42)).alloc (.cells (akC a) 31)) w.heap.size 42 (evC e) := (Lies.made w 42 (evC e)).alloc _
theorem ak_lies (w : World) (e : Ev) (a : Ak) : Lies ((w.alloc (.cells (evC e) 42)).alloc (.cells (akC a) 31)) (w.heap.size + 1) 31 (akC a) := by
  have := Lies.made (w.alloc (.cells (evC e) 42)) 31 (akC a)
  rwa [show (w.alloc (.cells (evC e) 42)).heap.size = w.heap.size + 1 by simp] at this
theorem below2 (w : World) (o1 o2 : Obj) : Below w.heap.size w ((w.alloc o1).alloc o2) := ((Below.refl w.heap.size w).alloc (Nat.le_refl _) o1).alloc (by simp) o2
set_option maxHeartbeats 4000000 in
set_option maxRecDepth 100000 in
theorem mat1 (a : Ak) (e : Ev) (w : World) (hk : e.kd = 1) : Calls Try.prog 34 #[.agg (evC e), .agg (akC a)] w fun q w' => q = .returned (.bool (fitB a e)) ∧ Below w.heap.size w w' := by
  have HB := Lib.hid (below2 w (.cells (evC e) 42) (.cells (akC a) 31))
  have HD : Hid (fitB a e = ((a.kd == 1) && (a.rg == e.rg))) := by show _ = _; unfold fitB; simp [hk]
  obtain ⟨eth, ekd, erg, etk, evl⟩ := e
  have hk : ekd = 1 := hk
  subst hk
  obtain ⟨b0, hb0⟩ : ∃ b, (a.kd == 1) = b := ⟨_, rfl⟩
  rw [hb0] at HD
  obtain ⟨brg, hbrg⟩ : ∃ b, (a.rg == erg) = b := ⟨_, rfl⟩
  try dsimp only at HD
  rw [hbrg] at HD
  cases b0 <;> cases brg
  all_goals
    have HE := HD.out
    simp only [Bool.true_and, Bool.false_and, Bool.and_false, Bool.and_true] at HE
    have HE2 := Lib.hid HE
    clear HE HD
    go_enter Try.func34, Try.ntmps34
    go_wp2
    go_ret
    exact ⟨ret_bool HE2.out.symm, HB.out⟩
set_option maxHeartbeats 4000000 in
set_option maxRecDepth 100000 in
theorem mat3 (a : Ak) (e : Ev) (w : World) (hk : e.kd = 3) : Calls Try.prog 34 #[.agg (evC e), .agg (akC a)] w fun q w' => q = .returned (.bool (fitB a e)) ∧ Below w.heap.size w w' := by
  have HB := Lib.hid (below2 w (.cells (evC e) 42) (.cells (akC a) 31))
  have HD : Hid (fitB a e = ((a.kd == 2) && (a.rg == e.rg))) := by show _ = _; unfold fitB; simp [hk]
  obtain ⟨eth, ekd, erg, etk, evl⟩ := e
  have hk : ekd = 3 := hk
  subst hk
  obtain ⟨b0, hb0⟩ : ∃ b, (a.kd == 2) = b := ⟨_, rfl⟩
  rw [hb0] at HD
  obtain ⟨brg, hbrg⟩ : ∃ b, (a.rg == erg) = b := ⟨_, rfl⟩
  try dsimp only at HD
  rw [hbrg] at HD
  cases b0 <;> cases brg
  all_goals
    have HE := HD.out
    simp only [Bool.true_and, Bool.false_and, Bool.and_false, Bool.and_true] at HE
    have HE2 := Lib.hid HE
    clear HE HD
    go_enter Try.func34, Try.ntmps34
    go_wp2
    go_ret
    exact ⟨ret_bool HE2.out.symm, HB.out⟩
set_option maxHeartbeats 4000000 in
set_option maxRecDepth 100000 in
theorem mat2 (a : Ak) (e : Ev) (w : World) (hk : e.kd = 2) : Calls Try.prog 34 #[.agg (evC e), .agg (akC a)] w fun q w' => q = .returned (.bool (fitB a e)) ∧ Below w.heap.size w w' := by
  have HB := Lib.hid (below2 w (.cells (evC e) 42) (.cells (akC a) 31))
  have HD : Hid (fitB a e = ((a.kd == 10) && ((a.rg == e.rg) && (a.tk == e.tk)))) := by show _ = _; unfold fitB; simp [hk]
  obtain ⟨eth, ekd, erg, etk, evl⟩ := e
  have hk : ekd = 2 := hk
  subst hk
  obtain ⟨b0, hb0⟩ : ∃ b, (a.kd == 10) = b := ⟨_, rfl⟩
  rw [hb0] at HD
  obtain ⟨brg, hbrg⟩ : ∃ b, (a.rg == erg) = b := ⟨_, rfl⟩
  try dsimp only at HD
  rw [hbrg] at HD
  obtain ⟨btk, hbtk⟩ : ∃ b, (a.tk == etk) = b := ⟨_, rfl⟩
  have ibtk : ((a.tk : Int) == (etk : Int)) = btk := by rw [← hbtk, Bool.eq_iff_iff, beq_iff_eq, beq_iff_eq]; omega
  try dsimp only at HD
  rw [hbtk] at HD
  cases b0 <;> cases brg <;> cases btk
  all_goals
    have HE := HD.out
    simp only [Bool.true_and, Bool.false_and, Bool.and_false, Bool.and_true] at HE
    have HE2 := Lib.hid HE
    clear HE HD
    go_enter Try.func34, Try.ntmps34
    go_wp2
    go_ret
    exact ⟨ret_bool HE2.out.symm, HB.out⟩
set_option maxHeartbeats 4000000 in
set_option maxRecDepth 100000 in
theorem mat4 (a : Ak) (e : Ev) (w : World) (hk : e.kd = 4) : Calls Try.prog 34 #[.agg (evC e), .agg (akC a)] w fun q w' => q = .returned (.bool (fitB a e)) ∧ Below w.heap.size w w' := by
  have HB := Lib.hid (below2 w (.cells (evC e) 42) (.cells (akC a) 31))
  have HD : Hid (fitB a e = ((a.kd == 11) && ((a.rg == e.rg) && (a.tk == e.tk)))) := by show _ = _; unfold fitB; simp [hk]
  obtain ⟨eth, ekd, erg, etk, evl⟩ := e
  have hk : ekd = 4 := hk
  subst hk
  obtain ⟨b0, hb0⟩ : ∃ b, (a.kd == 11) = b := ⟨_, rfl⟩
  rw [hb0] at HD
  obtain ⟨brg, hbrg⟩ : ∃ b, (a.rg == erg) = b := ⟨_, rfl⟩
  try dsimp only at HD
  rw [hbrg] at HD
  obtain ⟨btk, hbtk⟩ : ∃ b, (a.tk == etk) = b := ⟨_, rfl⟩
  have ibtk : ((a.tk : Int) == (etk : Int)) = btk := by rw [← hbtk, Bool.eq_iff_iff, beq_iff_eq, beq_iff_eq]; omega
  try dsimp only at HD
  rw [hbtk] at HD
  cases b0 <;> cases brg <;> cases btk
  all_goals
    have HE := HD.out
    simp only [Bool.true_and, Bool.false_and, Bool.and_false, Bool.and_true] at HE
    have HE2 := Lib.hid HE
    clear HE HD
    go_enter Try.func34, Try.ntmps34
    go_wp2
    go_ret
    exact ⟨ret_bool HE2.out.symm, HB.out⟩
set_option maxHeartbeats 4000000 in
set_option maxRecDepth 100000 in
theorem mat13 (a : Ak) (e : Ev) (w : World) (hk : e.kd = 13) : Calls Try.prog 34 #[.agg (evC e), .agg (akC a)] w fun q w' => q = .returned (.bool (fitB a e)) ∧ Below w.heap.size w w' := by
  have HB := Lib.hid (below2 w (.cells (evC e) 42) (.cells (akC a) 31))
  have HD : Hid (fitB a e = ((a.kd == 3) && (a.rg == e.rg))) := by show _ = _; unfold fitB; simp [hk]
  obtain ⟨eth, ekd, erg, etk, evl⟩ := e
  have hk : ekd = 13 := hk
  subst hk
  obtain ⟨b0, hb0⟩ : ∃ b, (a.kd == 3) = b := ⟨_, rfl⟩
  rw [hb0] at HD
  obtain ⟨brg, hbrg⟩ : ∃ b, (a.rg == erg) = b := ⟨_, rfl⟩
  try dsimp only at HD
  rw [hbrg] at HD
  cases b0 <;> cases brg
  all_goals
    have HE := HD.out
    simp only [Bool.true_and, Bool.false_and, Bool.and_false, Bool.and_true] at HE
    have HE2 := Lib.hid HE
    clear HE HD
    go_enter Try.func34, Try.ntmps34
    go_wp2
    go_ret
    exact ⟨ret_bool HE2.out.symm, HB.out⟩
set_option maxHeartbeats 4000000 in
set_option maxRecDepth 100000 in
theorem mat5 (a : Ak) (e : Ev) (w : World) (hk : e.kd = 5) : Calls Try.prog 34 #[.agg (evC e), .agg (akC a)] w fun q w' => q = .returned (.bool (fitB a e)) ∧ Below w.heap.size w w' := by
  have HB := Lib.hid (below2 w (.cells (evC e) 42) (.cells (akC a) 31))
  have HD : Hid (fitB a e = (mvB a && ((a.rg == e.rg) && (a.md == 0)))) := by show _ = _; unfold fitB; simp [hk]
  obtain ⟨eth, ekd, erg, etk, evl⟩ := e
  have hk : ekd = 5 := hk
  subst hk
  have HM := Lib.hid (fun q => moves16 a q)
  have HL0 := Lib.hid (ev_lies w ⟨eth, 5, erg, etk, evl⟩ a)
  have HL1 := Lib.hid (ak_lies w ⟨eth, 5, erg, etk, evl⟩ a)
  generalize mvB a = b0 at *
  obtain ⟨brg, hbrg⟩ : ∃ b, (a.rg == erg) = b := ⟨_, rfl⟩
  try dsimp only at HD
  rw [hbrg] at HD
  obtain ⟨bm0, hbm0⟩ : ∃ b, (a.md == 0) = b := ⟨_, rfl⟩
  try dsimp only at HD
  rw [hbm0] at HD
  cases b0 <;> cases brg <;> cases bm0
  all_goals
    have HE := HD.out
    simp only [Bool.true_and, Bool.false_and, Bool.and_false, Bool.and_true] at HE
    have HE2 := Lib.hid HE
    clear HE HD
    go_enter Try.func34, Try.ntmps34
    go_wp2_with fail
    refine (HM.out _).mono ?_
    rintro q w3 ⟨rfl, hbm⟩
    have l0 := HL0.out.below hbm HL0.out.lt
    have l1 := HL1.out.below hbm HL1.out.lt
    have HB3 := Lib.hid (HB.out.trans (hbm.mono HB.out.size))
    have c2 := (l0.cell 2).trans (show _ = some (Value.int .i64 erg) from rfl)
    have d1 := (l1.cell 1).trans (show _ = some (Value.int .i64 a.rg) from rfl)
    have d2 := (l1.cell 2).trans (show _ = some (Value.int .i64 a.md) from rfl)
    have cl := l0.lt
    have dl := l1.lt
    clear hbm l0 l1 HL0 HL1 HM HB
    go_wp2
    go_ret
    exact ⟨ret_bool HE2.out.symm, HB3.out⟩
set_option maxHeartbeats 4000000 in
set_option maxRecDepth 100000 in
theorem mat6 (a : Ak) (e : Ev) (w : World) (hk : e.kd = 6) : Calls Try.prog 34 #[.agg (evC e), .agg (akC a)] w fun q w' => q = .returned (.bool (fitB a e)) ∧ Below w.heap.size w w' := by
  have HB := Lib.hid (below2 w (.cells (evC e) 42) (.cells (akC a) 31))
  have HD : Hid (fitB a e = (mvB a && (a.rg == e.rg))) := by show _ = _; unfold fitB; simp [hk]
  obtain ⟨eth, ekd, erg, etk, evl⟩ := e
  have hk : ekd = 6 := hk
  subst hk
  have HM := Lib.hid (fun q => moves16 a q)
  have HL0 := Lib.hid (ev_lies w ⟨eth, 6, erg, etk, evl⟩ a)
  have HL1 := Lib.hid (ak_lies w ⟨eth, 6, erg, etk, evl⟩ a)
  generalize mvB a = b0 at *
  obtain ⟨brg, hbrg⟩ : ∃ b, (a.rg == erg) = b := ⟨_, rfl⟩
  try dsimp only at HD
  rw [hbrg] at HD
  cases b0 <;> cases brg
  all_goals
    have HE := HD.out
    simp only [Bool.true_and, Bool.false_and, Bool.and_false, Bool.and_true] at HE
    have HE2 := Lib.hid HE
    clear HE HD
    go_enter Try.func34, Try.ntmps34
    go_wp2_with fail
    refine (HM.out _).mono ?_
    rintro q w3 ⟨rfl, hbm⟩
    have l0 := HL0.out.below hbm HL0.out.lt
    have l1 := HL1.out.below hbm HL1.out.lt
    have HB3 := Lib.hid (HB.out.trans (hbm.mono HB.out.size))
    have c2 := (l0.cell 2).trans (show _ = some (Value.int .i64 erg) from rfl)
    have d1 := (l1.cell 1).trans (show _ = some (Value.int .i64 a.rg) from rfl)
    have d2 := (l1.cell 2).trans (show _ = some (Value.int .i64 a.md) from rfl)
    have cl := l0.lt
    have dl := l1.lt
    clear hbm l0 l1 HL0 HL1 HM HB
    go_wp2
    go_ret
    exact ⟨ret_bool HE2.out.symm, HB3.out⟩
set_option maxHeartbeats 4000000 in
set_option maxRecDepth 100000 in
theorem mat7 (a : Ak) (e : Ev) (w : World) (hk : e.kd = 7) : Calls Try.prog 34 #[.agg (evC e), .agg (akC a)] w fun q w' => q = .returned (.bool (fitB a e)) ∧ Below w.heap.size w w' := by
  have HB := Lib.hid (below2 w (.cells (evC e) 42) (.cells (akC a) 31))
  have HD : Hid (fitB a e = (mvB a && ((a.rg == e.rg) && (a.md == 2)))) := by show _ = _; unfold fitB; simp [hk]
  obtain ⟨eth, ekd, erg, etk, evl⟩ := e
  have hk : ekd = 7 := hk
  subst hk
  have HM := Lib.hid (fun q => moves16 a q)
  have HL0 := Lib.hid (ev_lies w ⟨eth, 7, erg, etk, evl⟩ a)
  have HL1 := Lib.hid (ak_lies w ⟨eth, 7, erg, etk, evl⟩ a)
  generalize mvB a = b0 at *
  obtain ⟨brg, hbrg⟩ : ∃ b, (a.rg == erg) = b := ⟨_, rfl⟩
  try dsimp only at HD
  rw [hbrg] at HD
  obtain ⟨bm2, hbm2⟩ : ∃ b, (a.md == 2) = b := ⟨_, rfl⟩
  try dsimp only at HD
  rw [hbm2] at HD
  cases b0 <;> cases brg <;> cases bm2
  all_goals
    have HE := HD.out
    simp only [Bool.true_and, Bool.false_and, Bool.and_false, Bool.and_true] at HE
    have HE2 := Lib.hid HE
    clear HE HD
    go_enter Try.func34, Try.ntmps34
    go_wp2_with fail
    refine (HM.out _).mono ?_
    rintro q w3 ⟨rfl, hbm⟩
    have l0 := HL0.out.below hbm HL0.out.lt
    have l1 := HL1.out.below hbm HL1.out.lt
    have HB3 := Lib.hid (HB.out.trans (hbm.mono HB.out.size))
    have c2 := (l0.cell 2).trans (show _ = some (Value.int .i64 erg) from rfl)
    have d1 := (l1.cell 1).trans (show _ = some (Value.int .i64 a.rg) from rfl)
    have d2 := (l1.cell 2).trans (show _ = some (Value.int .i64 a.md) from rfl)
    have cl := l0.lt
    have dl := l1.lt
    clear hbm l0 l1 HL0 HL1 HM HB
    go_wp2
    go_ret
    exact ⟨ret_bool HE2.out.symm, HB3.out⟩
set_option maxHeartbeats 4000000 in
set_option maxRecDepth 100000 in
theorem mat12 (a : Ak) (e : Ev) (w : World) (hk : e.kd = 12) : Calls Try.prog 34 #[.agg (evC e), .agg (akC a)] w fun q w' => q = .returned (.bool (fitB a e)) ∧ Below w.heap.size w w' := by
  have HB := Lib.hid (below2 w (.cells (evC e) 42) (.cells (akC a) 31))
  have HD : Hid (fitB a e = ((a.kd == 7) && (a.vl == e.vl))) := by show _ = _; unfold fitB; simp [hk]
  obtain ⟨eth, ekd, erg, etk, evl⟩ := e
  have hk : ekd = 12 := hk
  subst hk
  obtain ⟨b0, hb0⟩ : ∃ b, (a.kd == 7) = b := ⟨_, rfl⟩
  rw [hb0] at HD
  obtain ⟨bvl, hbvl⟩ : ∃ b, (a.vl == evl) = b := ⟨_, rfl⟩
  have ibvl : ((a.vl : Int) == (evl : Int)) = bvl := by rw [← hbvl, Bool.eq_iff_iff, beq_iff_eq, beq_iff_eq]; omega
  try dsimp only at HD
  rw [hbvl] at HD
  cases b0 <;> cases bvl
  all_goals
    have HE := HD.out
    simp only [Bool.true_and, Bool.false_and, Bool.and_false, Bool.and_true] at HE
    have HE2 := Lib.hid HE
    clear HE HD
    go_enter Try.func34, Try.ntmps34
    go_wp2
    go_ret
    exact ⟨ret_bool HE2.out.symm, HB.out⟩
theorem fitB_alone {a : Ak} {e : Ev} (h : e.kd ≠ 1 ∧ e.kd ≠ 2 ∧ e.kd ≠ 3 ∧ e.kd ≠ 4 ∧ e.kd ≠ 5 ∧ e.kd ≠ 6 ∧ e.kd ≠ 7 ∧ e.kd ≠ 12 ∧ e.kd ≠ 13) : fitB a e = (a.kd == aloneV e.kd) := by
  obtain ⟨n1, n2, n3, n4, n5, n6, n7, n12, n13⟩ := h
  unfold fitB aloneV
  rw [if_neg n1, if_neg n3, if_neg n2, if_neg n4, if_neg n13, if_neg n5, if_neg n6, if_neg n7, if_neg n12]
  by_cases k8 : e.kd = 8
  · rw [if_pos k8, if_pos k8]
  rw [if_neg k8, if_neg k8]
  by_cases k9 : e.kd = 9
  · rw [if_pos k9, if_pos k9]
  rw [if_neg k9, if_neg k9]
  by_cases k10 : e.kd = 10
  · rw [if_pos k10, if_pos (.inl k10)]
  rw [if_neg k10]
  by_cases k11 : e.kd = 11
  · rw [if_pos k11, if_pos (.inr k11)]
  rw [if_neg k11, if_neg (show ¬ (e.kd = 10 ∨ e.kd = 11) from fun h => h.elim k10 k11)]
  by_cases k14 : e.kd = 14
  · rw [if_pos k14, if_pos k14]
  rw [if_neg k14, if_neg k14]
set_option maxHeartbeats 4000000 in
set_option maxRecDepth 100000 in
theorem mat0 (a : Ak) (e : Ev) (w : World) (hk : e.kd ≠ 1 ∧ e.kd ≠ 2 ∧ e.kd ≠ 3 ∧ e.kd ≠ 4 ∧ e.kd ≠ 5 ∧ e.kd ≠ 6 ∧ e.kd ≠ 7 ∧ e.kd ≠ 12 ∧ e.kd ≠ 13) : Calls Try.prog 34 #[.agg (evC e), .agg (akC a)] w fun q w' => q = .returned (.bool (fitB a e)) ∧ Below w.heap.size w w' := by
  have HB := Lib.hid (below2 w (.cells (evC e) 42) (.cells (akC a) 31))
  have HE := Lib.hid (fitB_alone (a := a) hk)
  obtain ⟨n1, n2, n3, n4, n5, n6, n7, n12, n13⟩ := hk
  have e1 : (e.kd == 1) = false := by rw [beq_eq_false_iff_ne]; exact n1
  have e2 : (e.kd == 2) = false := by rw [beq_eq_false_iff_ne]; exact n2
  have e3 : (e.kd == 3) = false := by rw [beq_eq_false_iff_ne]; exact n3
  have e4 : (e.kd == 4) = false := by rw [beq_eq_false_iff_ne]; exact n4
  have e5 : (e.kd == 5) = false := by rw [beq_eq_false_iff_ne]; exact n5
  have e6 : (e.kd == 6) = false := by rw [beq_eq_false_iff_ne]; exact n6
  have e7 : (e.kd == 7) = false := by rw [beq_eq_false_iff_ne]; exact n7
  have e12 : (e.kd == 12) = false := by rw [beq_eq_false_iff_ne]; exact n12
  have e13 : (e.kd == 13) = false := by rw [beq_eq_false_iff_ne]; exact n13
  have HAL := Lib.hid (fun q => alone16 e.kd q)
  clear n1 n2 n3 n4 n5 n6 n7 n12 n13
  go_enter Try.func34, Try.ntmps34
  go_upto_region 20 with (fail)
  go_quiet ((go_at_call 54; exact quiet_same3 ((HAL.out _)) ⟨_, rfl⟩))
  have HB2 := Lib.hid (below_drewN HB.out nq)
  go_wp2
  go_ret
  exact ⟨ret_bool HE.out.symm, HB2.out⟩
theorem matches16 (a : Ak) (e : Ev) (w : World) : Calls Try.prog 34 #[.agg (evC e), .agg (akC a)] w fun q w' => q = .returned (.bool (fitB a e)) ∧ Below w.heap.size w w' := by
  by_cases h1 : e.kd = 1
  · exact mat1 a e w h1
  by_cases h2 : e.kd = 2
  · exact mat2 a e w h2
  by_cases h3 : e.kd = 3
  · exact mat3 a e w h3
  by_cases h4 : e.kd = 4
  · exact mat4 a e w h4
  by_cases h5 : e.kd = 5
  · exact mat5 a e w h5
  by_cases h6 : e.kd = 6
  · exact mat6 a e w h6
  by_cases h7 : e.kd = 7
  · exact mat7 a e w h7
  by_cases h12 : e.kd = 12
  · exact mat12 a e w h12
  by_cases h13 : e.kd = 13
  · exact mat13 a e w h13
  exact mat0 a e w ⟨h1, h2, h3, h4, h5, h6, h7, h12, h13⟩
end Go.Proofs.Ytiegmpjoiekekaa
