import Derived.Test.YtiegmpjoiekekaaThm2
/-
  Which events meet what a thread asks for (layer 16): the document's Fits, first half.
-/
namespace Go.Proofs.Ytiegmpjoiekekaa
open Go.RowKit
set_option linter.unusedVariables false
set_option linter.unusedSimpArgs false
set_option maxHeartbeats 4000000 in
set_option maxRecDepth 100000 in
theorem fits1 (a : Ak) (e : Ev) (w : World) (hk : e.kd = 1) : Calls Try.prog 21 #[.agg (akC a), .agg (evC e)] w fun q w' => q = .returned (.bool (fitB a e)) ∧ Below w.heap.size w w' := by
  have HB := Lib.hid (below2 w (.cells (akC a) 37) (.cells (evC e) 42))
  obtain ⟨eth, ekd, erg, etk, evl⟩ := e
  have hk : ekd = 1 := hk
  subst hk
  have HD : Hid (fitB a ⟨eth, 1, erg, etk, evl⟩ = ((a.kd == 1) && (a.rg == erg))) := by
    show _ = _
    unfold fitB
    simp
  obtain ⟨b1, hb1⟩ : ∃ b, (a.kd == 1) = b := ⟨_, rfl⟩
  try rw [hb1] at HD
  obtain ⟨b2, hb2⟩ : ∃ b, (a.kd == 2) = b := ⟨_, rfl⟩
  try rw [hb2] at HD
  obtain ⟨brg, hbrg⟩ : ∃ b, (a.rg == erg) = b := ⟨_, rfl⟩
  try rw [hbrg] at HD
  have hc : (b1 = true) ∨ (b1 = false ∧ b2 = true) ∨ (b1 = false ∧ b2 = false) := by cases b1 <;> cases b2 <;> simp
  rcases hc with rfl | ⟨rfl, rfl⟩ | ⟨rfl, rfl⟩
  all_goals
    have HE := HD.out
    try simp only [Bool.true_and, Bool.false_and, Bool.and_false, Bool.and_true, Bool.true_or, Bool.false_or] at HE
    have HE2 := Lib.hid HE
    clear HE HD
    go_enter Try.func21, Try.ntmps21
    go_wp2
    go_ret
    exact ⟨ret_bool HE2.out.symm, HB.out⟩
set_option maxHeartbeats 4000000 in
set_option maxRecDepth 100000 in
theorem fits3 (a : Ak) (e : Ev) (w : World) (hk : e.kd = 3) : Calls Try.prog 21 #[.agg (akC a), .agg (evC e)] w fun q w' => q = .returned (.bool (fitB a e)) ∧ Below w.heap.size w w' := by
  have HB := Lib.hid (below2 w (.cells (akC a) 37) (.cells (evC e) 42))
  obtain ⟨eth, ekd, erg, etk, evl⟩ := e
  have hk : ekd = 3 := hk
  subst hk
  have HD : Hid (fitB a ⟨eth, 3, erg, etk, evl⟩ = ((a.kd == 2) && (a.rg == erg))) := by
    show _ = _
    unfold fitB
    simp
  obtain ⟨b1, hb1⟩ : ∃ b, (a.kd == 1) = b := ⟨_, rfl⟩
  try rw [hb1] at HD
  obtain ⟨b2, hb2⟩ : ∃ b, (a.kd == 2) = b := ⟨_, rfl⟩
  try rw [hb2] at HD
  obtain ⟨brg, hbrg⟩ : ∃ b, (a.rg == erg) = b := ⟨_, rfl⟩
  try rw [hbrg] at HD
  have hc : (b1 = true ∧ b2 = true) ∨ (b1 = true ∧ b2 = false) ∨ (b1 = false ∧ b2 = true) ∨ (b1 = false ∧ b2 = false) := by cases b1 <;> cases b2 <;> simp
  rcases hc with ⟨rfl, rfl⟩ | ⟨rfl, rfl⟩ | ⟨rfl, rfl⟩ | ⟨rfl, rfl⟩
  all_goals
    have HE := HD.out
    try simp only [Bool.true_and, Bool.false_and, Bool.and_false, Bool.and_true, Bool.true_or, Bool.false_or] at HE
    have HE2 := Lib.hid HE
    clear HE HD
    go_enter Try.func21, Try.ntmps21
    go_wp2
    go_ret
    exact ⟨ret_bool HE2.out.symm, HB.out⟩
set_option maxHeartbeats 4000000 in
set_option maxRecDepth 100000 in
theorem fits2 (a : Ak) (e : Ev) (w : World) (hk : e.kd = 2) : Calls Try.prog 21 #[.agg (akC a), .agg (evC e)] w fun q w' => q = .returned (.bool (fitB a e)) ∧ Below w.heap.size w w' := by
  have HB := Lib.hid (below2 w (.cells (akC a) 37) (.cells (evC e) 42))
  obtain ⟨eth, ekd, erg, etk, evl⟩ := e
  have hk : ekd = 2 := hk
  subst hk
  have HD : Hid (fitB a ⟨eth, 2, erg, etk, evl⟩ = ((a.kd == 10) && ((a.rg == erg) && (a.tk == etk)))) := by
    show _ = _
    unfold fitB
    simp
  obtain ⟨b1, hb1⟩ : ∃ b, (a.kd == 1) = b := ⟨_, rfl⟩
  try rw [hb1] at HD
  obtain ⟨b2, hb2⟩ : ∃ b, (a.kd == 2) = b := ⟨_, rfl⟩
  try rw [hb2] at HD
  obtain ⟨b0, hb0⟩ : ∃ b, (a.kd == 10) = b := ⟨_, rfl⟩
  try rw [hb0] at HD
  obtain ⟨brg, hbrg⟩ : ∃ b, (a.rg == erg) = b := ⟨_, rfl⟩
  try rw [hbrg] at HD
  obtain ⟨btk, hbtk⟩ : ∃ b, (a.tk == etk) = b := ⟨_, rfl⟩
  try rw [hbtk] at HD
  have ibtk : ((a.tk : Int) == (etk : Int)) = btk := by rw [← hbtk, Bool.eq_iff_iff, beq_iff_eq, beq_iff_eq]; omega
  have hc : (b1 = true) ∨ (b1 = false ∧ b2 = true) ∨ (b1 = false ∧ b2 = false) := by cases b1 <;> cases b2 <;> simp
  rcases hc with rfl | ⟨rfl, rfl⟩ | ⟨rfl, rfl⟩
  all_goals cases b0 <;> cases brg
  all_goals
    have HE := HD.out
    try simp only [Bool.true_and, Bool.false_and, Bool.and_false, Bool.and_true, Bool.true_or, Bool.false_or] at HE
    have HE2 := Lib.hid HE
    clear HE HD
    go_enter Try.func21, Try.ntmps21
    go_wp2
    go_ret
    exact ⟨ret_bool HE2.out.symm, HB.out⟩
set_option maxHeartbeats 4000000 in
set_option maxRecDepth 100000 in
theorem fits4 (a : Ak) (e : Ev) (w : World) (hk : e.kd = 4) : Calls Try.prog 21 #[.agg (akC a), .agg (evC e)] w fun q w' => q = .returned (.bool (fitB a e)) ∧ Below w.heap.size w w' := by
  have HB := Lib.hid (below2 w (.cells (akC a) 37) (.cells (evC e) 42))
  obtain ⟨eth, ekd, erg, etk, evl⟩ := e
  have hk : ekd = 4 := hk
  subst hk
  have HD : Hid (fitB a ⟨eth, 4, erg, etk, evl⟩ = ((a.kd == 11) && ((a.rg == erg) && (a.tk == etk)))) := by
    show _ = _
    unfold fitB
    simp
  obtain ⟨b1, hb1⟩ : ∃ b, (a.kd == 1) = b := ⟨_, rfl⟩
  try rw [hb1] at HD
  obtain ⟨b2, hb2⟩ : ∃ b, (a.kd == 2) = b := ⟨_, rfl⟩
  try rw [hb2] at HD
  obtain ⟨b0, hb0⟩ : ∃ b, (a.kd == 11) = b := ⟨_, rfl⟩
  try rw [hb0] at HD
  obtain ⟨brg, hbrg⟩ : ∃ b, (a.rg == erg) = b := ⟨_, rfl⟩
  try rw [hbrg] at HD
  obtain ⟨btk, hbtk⟩ : ∃ b, (a.tk == etk) = b := ⟨_, rfl⟩
  try rw [hbtk] at HD
  have ibtk : ((a.tk : Int) == (etk : Int)) = btk := by rw [← hbtk, Bool.eq_iff_iff, beq_iff_eq, beq_iff_eq]; omega
  have hc : (b1 = true) ∨ (b1 = false ∧ b2 = true) ∨ (b1 = false ∧ b2 = false) := by cases b1 <;> cases b2 <;> simp
  rcases hc with rfl | ⟨rfl, rfl⟩ | ⟨rfl, rfl⟩
  all_goals cases b0 <;> cases brg
  all_goals
    have HE := HD.out
    try simp only [Bool.true_and, Bool.false_and, Bool.and_false, Bool.and_true, Bool.true_or, Bool.false_or] at HE
    have HE2 := Lib.hid HE
    clear HE HD
    go_enter Try.func21, Try.ntmps21
    go_wp2
    go_ret
    exact ⟨ret_bool HE2.out.symm, HB.out⟩
set_option maxHeartbeats 4000000 in
set_option maxRecDepth 100000 in
theorem fits13 (a : Ak) (e : Ev) (w : World) (hk : e.kd = 13) : Calls Try.prog 21 #[.agg (akC a), .agg (evC e)] w fun q w' => q = .returned (.bool (fitB a e)) ∧ Below w.heap.size w w' := by
  have HB := Lib.hid (below2 w (.cells (akC a) 37) (.cells (evC e) 42))
  obtain ⟨eth, ekd, erg, etk, evl⟩ := e
  have hk : ekd = 13 := hk
  subst hk
  have HD : Hid (fitB a ⟨eth, 13, erg, etk, evl⟩ = ((a.kd == 3) && (a.rg == erg))) := by
    show _ = _
    unfold fitB
    simp
  obtain ⟨b1, hb1⟩ : ∃ b, (a.kd == 1) = b := ⟨_, rfl⟩
  try rw [hb1] at HD
  obtain ⟨b2, hb2⟩ : ∃ b, (a.kd == 2) = b := ⟨_, rfl⟩
  try rw [hb2] at HD
  obtain ⟨b0, hb0⟩ : ∃ b, (a.kd == 3) = b := ⟨_, rfl⟩
  try rw [hb0] at HD
  obtain ⟨brg, hbrg⟩ : ∃ b, (a.rg == erg) = b := ⟨_, rfl⟩
  try rw [hbrg] at HD
  have hc : (b1 = true) ∨ (b1 = false ∧ b2 = true) ∨ (b1 = false ∧ b2 = false) := by cases b1 <;> cases b2 <;> simp
  rcases hc with rfl | ⟨rfl, rfl⟩ | ⟨rfl, rfl⟩
  all_goals cases b0
  all_goals
    have HE := HD.out
    try simp only [Bool.true_and, Bool.false_and, Bool.and_false, Bool.and_true, Bool.true_or, Bool.false_or] at HE
    have HE2 := Lib.hid HE
    clear HE HD
    go_enter Try.func21, Try.ntmps21
    go_wp2
    go_ret
    exact ⟨ret_bool HE2.out.symm, HB.out⟩
end Go.Proofs.Ytiegmpjoiekekaa
/-
  Which events meet what a thread asks for (layer 16): the document's Fits, second half.
-/
namespace Go.Proofs.Ytiegmpjoiekekaa
open Go.RowKit
set_option linter.unusedVariables false
set_option linter.unusedSimpArgs false
set_option maxHeartbeats 4000000 in
set_option maxRecDepth 100000 in
theorem fits5 (a : Ak) (e : Ev) (w : World) (hk : e.kd = 5) : Calls Try.prog 21 #[.agg (akC a), .agg (evC e)] w fun q w' => q = .returned (.bool (fitB a e)) ∧ Below w.heap.size w w' := by
  have HB := Lib.hid (below2 w (.cells (akC a) 37) (.cells (evC e) 42))
  obtain ⟨eth, ekd, erg, etk, evl⟩ := e
  have hk : ekd = 5 := hk
  subst hk
  have HD : Hid (fitB a ⟨eth, 5, erg, etk, evl⟩ = (((a.kd == 1) || (a.kd == 2)) && ((a.md == 0) && (a.rg == erg)))) := by
    show _ = _
    unfold fitB
    simp only [mvB]
    show (if (5 : Int) = 1 then _ else _) = _
    simp
    cases (a.kd == 1) <;> cases (a.kd == 2) <;> cases (a.rg == erg) <;> cases (a.md == 0) <;> rfl
  obtain ⟨b1, hb1⟩ : ∃ b, (a.kd == 1) = b := ⟨_, rfl⟩
  try rw [hb1] at HD
  obtain ⟨b2, hb2⟩ : ∃ b, (a.kd == 2) = b := ⟨_, rfl⟩
  try rw [hb2] at HD
  obtain ⟨bm0, hbm0⟩ : ∃ b, (a.md == 0) = b := ⟨_, rfl⟩
  try rw [hbm0] at HD
  obtain ⟨brg, hbrg⟩ : ∃ b, (a.rg == erg) = b := ⟨_, rfl⟩
  try rw [hbrg] at HD
  have hc : (b1 = true) ∨ (b1 = false ∧ b2 = true) ∨ (b1 = false ∧ b2 = false) := by cases b1 <;> cases b2 <;> simp
  rcases hc with rfl | ⟨rfl, rfl⟩ | ⟨rfl, rfl⟩
  all_goals cases bm0
  all_goals
    have HE := HD.out
    try simp only [Bool.true_and, Bool.false_and, Bool.and_false, Bool.and_true, Bool.true_or, Bool.false_or] at HE
    have HE2 := Lib.hid HE
    clear HE HD
    go_enter Try.func21, Try.ntmps21
    go_wp2
    go_ret
    exact ⟨ret_bool HE2.out.symm, HB.out⟩
set_option maxHeartbeats 4000000 in
set_option maxRecDepth 100000 in
theorem fits6 (a : Ak) (e : Ev) (w : World) (hk : e.kd = 6) : Calls Try.prog 21 #[.agg (akC a), .agg (evC e)] w fun q w' => q = .returned (.bool (fitB a e)) ∧ Below w.heap.size w w' := by
  have HB := Lib.hid (below2 w (.cells (akC a) 37) (.cells (evC e) 42))
  obtain ⟨eth, ekd, erg, etk, evl⟩ := e
  have hk : ekd = 6 := hk
  subst hk
  have HD : Hid (fitB a ⟨eth, 6, erg, etk, evl⟩ = (((a.kd == 1) || (a.kd == 2)) && (a.rg == erg))) := by
    show _ = _
    unfold fitB
    simp [mvB]
  obtain ⟨b1, hb1⟩ : ∃ b, (a.kd == 1) = b := ⟨_, rfl⟩
  try rw [hb1] at HD
  obtain ⟨b2, hb2⟩ : ∃ b, (a.kd == 2) = b := ⟨_, rfl⟩
  try rw [hb2] at HD
  obtain ⟨brg, hbrg⟩ : ∃ b, (a.rg == erg) = b := ⟨_, rfl⟩
  try rw [hbrg] at HD
  have hc : (b1 = true) ∨ (b1 = false ∧ b2 = true) ∨ (b1 = false ∧ b2 = false) := by cases b1 <;> cases b2 <;> simp
  rcases hc with rfl | ⟨rfl, rfl⟩ | ⟨rfl, rfl⟩
  all_goals
    have HE := HD.out
    try simp only [Bool.true_and, Bool.false_and, Bool.and_false, Bool.and_true, Bool.true_or, Bool.false_or] at HE
    have HE2 := Lib.hid HE
    clear HE HD
    go_enter Try.func21, Try.ntmps21
    go_wp2
    go_ret
    exact ⟨ret_bool HE2.out.symm, HB.out⟩
set_option maxHeartbeats 4000000 in
set_option maxRecDepth 100000 in
theorem fits7 (a : Ak) (e : Ev) (w : World) (hk : e.kd = 7) : Calls Try.prog 21 #[.agg (akC a), .agg (evC e)] w fun q w' => q = .returned (.bool (fitB a e)) ∧ Below w.heap.size w w' := by
  have HB := Lib.hid (below2 w (.cells (akC a) 37) (.cells (evC e) 42))
  obtain ⟨eth, ekd, erg, etk, evl⟩ := e
  have hk : ekd = 7 := hk
  subst hk
  have HD : Hid (fitB a ⟨eth, 7, erg, etk, evl⟩ = (((a.kd == 1) || (a.kd == 2)) && ((a.md == 2) && (a.rg == erg)))) := by
    show _ = _
    unfold fitB
    simp only [mvB]
    show (if (7 : Int) = 1 then _ else _) = _
    simp
    cases (a.kd == 1) <;> cases (a.kd == 2) <;> cases (a.rg == erg) <;> cases (a.md == 2) <;> rfl
  obtain ⟨b1, hb1⟩ : ∃ b, (a.kd == 1) = b := ⟨_, rfl⟩
  try rw [hb1] at HD
  obtain ⟨b2, hb2⟩ : ∃ b, (a.kd == 2) = b := ⟨_, rfl⟩
  try rw [hb2] at HD
  obtain ⟨bm2, hbm2⟩ : ∃ b, (a.md == 2) = b := ⟨_, rfl⟩
  try rw [hbm2] at HD
  obtain ⟨brg, hbrg⟩ : ∃ b, (a.rg == erg) = b := ⟨_, rfl⟩
  try rw [hbrg] at HD
  have hc : (b1 = true) ∨ (b1 = false ∧ b2 = true) ∨ (b1 = false ∧ b2 = false) := by cases b1 <;> cases b2 <;> simp
  rcases hc with rfl | ⟨rfl, rfl⟩ | ⟨rfl, rfl⟩
  all_goals cases bm2
  all_goals
    have HE := HD.out
    try simp only [Bool.true_and, Bool.false_and, Bool.and_false, Bool.and_true, Bool.true_or, Bool.false_or] at HE
    have HE2 := Lib.hid HE
    clear HE HD
    go_enter Try.func21, Try.ntmps21
    go_wp2
    go_ret
    exact ⟨ret_bool HE2.out.symm, HB.out⟩
set_option maxHeartbeats 4000000 in
set_option maxRecDepth 100000 in
theorem fits12 (a : Ak) (e : Ev) (w : World) (hk : e.kd = 12) : Calls Try.prog 21 #[.agg (akC a), .agg (evC e)] w fun q w' => q = .returned (.bool (fitB a e)) ∧ Below w.heap.size w w' := by
  have HB := Lib.hid (below2 w (.cells (akC a) 37) (.cells (evC e) 42))
  obtain ⟨eth, ekd, erg, etk, evl⟩ := e
  have hk : ekd = 12 := hk
  subst hk
  have HD : Hid (fitB a ⟨eth, 12, erg, etk, evl⟩ = ((a.kd == 7) && (a.vl == evl))) := by
    show _ = _
    unfold fitB
    simp
  obtain ⟨b1, hb1⟩ : ∃ b, (a.kd == 1) = b := ⟨_, rfl⟩
  try rw [hb1] at HD
  obtain ⟨b2, hb2⟩ : ∃ b, (a.kd == 2) = b := ⟨_, rfl⟩
  try rw [hb2] at HD
  obtain ⟨b0, hb0⟩ : ∃ b, (a.kd == 7) = b := ⟨_, rfl⟩
  try rw [hb0] at HD
  obtain ⟨bvl, hbvl⟩ : ∃ b, (a.vl == evl) = b := ⟨_, rfl⟩
  try rw [hbvl] at HD
  have ibvl : ((a.vl : Int) == (evl : Int)) = bvl := by rw [← hbvl, Bool.eq_iff_iff, beq_iff_eq, beq_iff_eq]; omega
  have hc : (b1 = true) ∨ (b1 = false ∧ b2 = true) ∨ (b1 = false ∧ b2 = false) := by cases b1 <;> cases b2 <;> simp
  rcases hc with rfl | ⟨rfl, rfl⟩ | ⟨rfl, rfl⟩
  all_goals cases b0
  all_goals
    have HE := HD.out
    try simp only [Bool.true_and, Bool.false_and, Bool.and_false, Bool.and_true, Bool.true_or, Bool.false_or] at HE
    have HE2 := Lib.hid HE
    clear HE HD
    go_enter Try.func21, Try.ntmps21
    go_wp2
    go_ret
    exact ⟨ret_bool HE2.out.symm, HB.out⟩
set_option maxHeartbeats 4000000 in
set_option maxRecDepth 100000 in
theorem fits8 (a : Ak) (e : Ev) (w : World) (hk : e.kd = 8) : Calls Try.prog 21 #[.agg (akC a), .agg (evC e)] w fun q w' => q = .returned (.bool (fitB a e)) ∧ Below w.heap.size w w' := by
  have HB := Lib.hid (below2 w (.cells (akC a) 37) (.cells (evC e) 42))
  obtain ⟨eth, ekd, erg, etk, evl⟩ := e
  have hk : ekd = 8 := hk
  subst hk
  have HD : Hid (fitB a ⟨eth, 8, erg, etk, evl⟩ = (a.kd == 4)) := by
    show _ = _
    unfold fitB
    simp
  obtain ⟨b1, hb1⟩ : ∃ b, (a.kd == 1) = b := ⟨_, rfl⟩
  try rw [hb1] at HD
  obtain ⟨b2, hb2⟩ : ∃ b, (a.kd == 2) = b := ⟨_, rfl⟩
  try rw [hb2] at HD
  obtain ⟨b0, hb0⟩ : ∃ b, (a.kd == 4) = b := ⟨_, rfl⟩
  try rw [hb0] at HD
  have hc : (b1 = true) ∨ (b1 = false ∧ b2 = true) ∨ (b1 = false ∧ b2 = false) := by cases b1 <;> cases b2 <;> simp
  rcases hc with rfl | ⟨rfl, rfl⟩ | ⟨rfl, rfl⟩
  all_goals
    have HE := HD.out
    try simp only [Bool.true_and, Bool.false_and, Bool.and_false, Bool.and_true, Bool.true_or, Bool.false_or] at HE
    have HE2 := Lib.hid HE
    clear HE HD
    go_enter Try.func21, Try.ntmps21
    go_wp2
    go_ret
    exact ⟨ret_bool HE2.out.symm, HB.out⟩
set_option maxHeartbeats 4000000 in
set_option maxRecDepth 100000 in
theorem fits9 (a : Ak) (e : Ev) (w : World) (hk : e.kd = 9) : Calls Try.prog 21 #[.agg (akC a), .agg (evC e)] w fun q w' => q = .returned (.bool (fitB a e)) ∧ Below w.heap.size w w' := by
  have HB := Lib.hid (below2 w (.cells (akC a) 37) (.cells (evC e) 42))
  obtain ⟨eth, ekd, erg, etk, evl⟩ := e
  have hk : ekd = 9 := hk
  subst hk
  have HD : Hid (fitB a ⟨eth, 9, erg, etk, evl⟩ = (a.kd == 5)) := by
    show _ = _
    unfold fitB
    simp
  obtain ⟨b1, hb1⟩ : ∃ b, (a.kd == 1) = b := ⟨_, rfl⟩
  try rw [hb1] at HD
  obtain ⟨b2, hb2⟩ : ∃ b, (a.kd == 2) = b := ⟨_, rfl⟩
  try rw [hb2] at HD
  obtain ⟨b0, hb0⟩ : ∃ b, (a.kd == 5) = b := ⟨_, rfl⟩
  try rw [hb0] at HD
  have hc : (b1 = true) ∨ (b1 = false ∧ b2 = true) ∨ (b1 = false ∧ b2 = false) := by cases b1 <;> cases b2 <;> simp
  rcases hc with rfl | ⟨rfl, rfl⟩ | ⟨rfl, rfl⟩
  all_goals
    have HE := HD.out
    try simp only [Bool.true_and, Bool.false_and, Bool.and_false, Bool.and_true, Bool.true_or, Bool.false_or] at HE
    have HE2 := Lib.hid HE
    clear HE HD
    go_enter Try.func21, Try.ntmps21
    go_wp2
    go_ret
    exact ⟨ret_bool HE2.out.symm, HB.out⟩
set_option maxHeartbeats 4000000 in
set_option maxRecDepth 100000 in
theorem fits10 (a : Ak) (e : Ev) (w : World) (hk : e.kd = 10) : Calls Try.prog 21 #[.agg (akC a), .agg (evC e)] w fun q w' => q = .returned (.bool (fitB a e)) ∧ Below w.heap.size w w' := by
  have HB := Lib.hid (below2 w (.cells (akC a) 37) (.cells (evC e) 42))
  obtain ⟨eth, ekd, erg, etk, evl⟩ := e
  have hk : ekd = 10 := hk
  subst hk
  have HD : Hid (fitB a ⟨eth, 10, erg, etk, evl⟩ = (a.kd == 6)) := by
    show _ = _
    unfold fitB
    simp
  obtain ⟨b1, hb1⟩ : ∃ b, (a.kd == 1) = b := ⟨_, rfl⟩
  try rw [hb1] at HD
  obtain ⟨b2, hb2⟩ : ∃ b, (a.kd == 2) = b := ⟨_, rfl⟩
  try rw [hb2] at HD
  obtain ⟨b0, hb0⟩ : ∃ b, (a.kd == 6) = b := ⟨_, rfl⟩
  try rw [hb0] at HD
  have hc : (b1 = true) ∨ (b1 = false ∧ b2 = true) ∨ (b1 = false ∧ b2 = false) := by cases b1 <;> cases b2 <;> simp
  rcases hc with rfl | ⟨rfl, rfl⟩ | ⟨rfl, rfl⟩
  all_goals
    have HE := HD.out
    try simp only [Bool.true_and, Bool.false_and, Bool.and_false, Bool.and_true, Bool.true_or, Bool.false_or] at HE
    have HE2 := Lib.hid HE
    clear HE HD
    go_enter Try.func21, Try.ntmps21
    go_wp2
    go_ret
    exact ⟨ret_bool HE2.out.symm, HB.out⟩
set_option maxHeartbeats 4000000 in
set_option maxRecDepth 100000 in
theorem fits11 (a : Ak) (e : Ev) (w : World) (hk : e.kd = 11) : Calls Try.prog 21 #[.agg (akC a), .agg (evC e)] w fun q w' => q = .returned (.bool (fitB a e)) ∧ Below w.heap.size w w' := by
  have HB := Lib.hid (below2 w (.cells (akC a) 37) (.cells (evC e) 42))
  obtain ⟨eth, ekd, erg, etk, evl⟩ := e
  have hk : ekd = 11 := hk
  subst hk
  have HD : Hid (fitB a ⟨eth, 11, erg, etk, evl⟩ = (a.kd == 6)) := by
    show _ = _
    unfold fitB
    simp
  obtain ⟨b1, hb1⟩ : ∃ b, (a.kd == 1) = b := ⟨_, rfl⟩
  try rw [hb1] at HD
  obtain ⟨b2, hb2⟩ : ∃ b, (a.kd == 2) = b := ⟨_, rfl⟩
  try rw [hb2] at HD
  obtain ⟨b0, hb0⟩ : ∃ b, (a.kd == 6) = b := ⟨_, rfl⟩
  try rw [hb0] at HD
  have hc : (b1 = true) ∨ (b1 = false ∧ b2 = true) ∨ (b1 = false ∧ b2 = false) := by cases b1 <;> cases b2 <;> simp
  rcases hc with rfl | ⟨rfl, rfl⟩ | ⟨rfl, rfl⟩
  all_goals
    have HE := HD.out
    try simp only [Bool.true_and, Bool.false_and, Bool.and_false, Bool.and_true, Bool.true_or, Bool.false_or] at HE
    have HE2 := Lib.hid HE
    clear HE HD
    go_enter Try.func21, Try.ntmps21
    go_wp2
    go_ret
    exact ⟨ret_bool HE2.out.symm, HB.out⟩
set_option maxHeartbeats 4000000 in
set_option maxRecDepth 100000 in
theorem fits14 (a : Ak) (e : Ev) (w : World) (hk : e.kd = 14) : Calls Try.prog 21 #[.agg (akC a), .agg (evC e)] w fun q w' => q = .returned (.bool (fitB a e)) ∧ Below w.heap.size w w' := by
  have HB := Lib.hid (below2 w (.cells (akC a) 37) (.cells (evC e) 42))
  obtain ⟨eth, ekd, erg, etk, evl⟩ := e
  have hk : ekd = 14 := hk
  subst hk
  have HD : Hid (fitB a ⟨eth, 14, erg, etk, evl⟩ = (a.kd == 8)) := by
    show _ = _
    unfold fitB
    simp
  obtain ⟨b1, hb1⟩ : ∃ b, (a.kd == 1) = b := ⟨_, rfl⟩
  try rw [hb1] at HD
  obtain ⟨b2, hb2⟩ : ∃ b, (a.kd == 2) = b := ⟨_, rfl⟩
  try rw [hb2] at HD
  obtain ⟨b0, hb0⟩ : ∃ b, (a.kd == 8) = b := ⟨_, rfl⟩
  try rw [hb0] at HD
  have hc : (b1 = true) ∨ (b1 = false ∧ b2 = true) ∨ (b1 = false ∧ b2 = false) := by cases b1 <;> cases b2 <;> simp
  rcases hc with rfl | ⟨rfl, rfl⟩ | ⟨rfl, rfl⟩
  all_goals
    have HE := HD.out
    try simp only [Bool.true_and, Bool.false_and, Bool.and_false, Bool.and_true, Bool.true_or, Bool.false_or] at HE
    have HE2 := Lib.hid HE
    clear HE HD
    go_enter Try.func21, Try.ntmps21
    go_wp2
    go_ret
    exact ⟨ret_bool HE2.out.symm, HB.out⟩
set_option maxHeartbeats 4000000 in
set_option maxRecDepth 100000 in
theorem fits0 (a : Ak) (e : Ev) (w : World) (hk : e.kd ≠ 1 ∧ e.kd ≠ 2 ∧ e.kd ≠ 3 ∧ e.kd ≠ 4 ∧ e.kd ≠ 5 ∧ e.kd ≠ 6 ∧ e.kd ≠ 7 ∧ e.kd ≠ 8 ∧ e.kd ≠ 9 ∧ e.kd ≠ 10 ∧ e.kd ≠ 11 ∧ e.kd ≠ 12 ∧ e.kd ≠ 13 ∧ e.kd ≠ 14) : Calls Try.prog 21 #[.agg (akC a), .agg (evC e)] w fun q w' => q = .returned (.bool (fitB a e)) ∧ Below w.heap.size w w' := by
  have HB := Lib.hid (below2 w (.cells (akC a) 37) (.cells (evC e) 42))
  obtain ⟨eth, ekd, erg, etk, evl⟩ := e
  obtain ⟨n1, n2, n3, n4, n5, n6, n7, n8, n9, n10, n11, n12, n13, n14⟩ := hk
  replace n1 : ekd ≠ 1 := n1
  replace n2 : ekd ≠ 2 := n2
  replace n3 : ekd ≠ 3 := n3
  replace n4 : ekd ≠ 4 := n4
  replace n5 : ekd ≠ 5 := n5
  replace n6 : ekd ≠ 6 := n6
  replace n7 : ekd ≠ 7 := n7
  replace n8 : ekd ≠ 8 := n8
  replace n9 : ekd ≠ 9 := n9
  replace n10 : ekd ≠ 10 := n10
  replace n11 : ekd ≠ 11 := n11
  replace n12 : ekd ≠ 12 := n12
  replace n13 : ekd ≠ 13 := n13
  replace n14 : ekd ≠ 14 := n14
  have HD : Hid (fitB a ⟨eth, ekd, erg, etk, evl⟩ = (a.kd == 9)) := by show _ = _; unfold fitB; simp [n1, n2, n3, n4, n5, n6, n7, n8, n9, n10, n11, n12, n13, n14]
  have e1 : (ekd == 1) = false := by rw [beq_eq_false_iff_ne]; exact n1
  have e2 : (ekd == 2) = false := by rw [beq_eq_false_iff_ne]; exact n2
  have e3 : (ekd == 3) = false := by rw [beq_eq_false_iff_ne]; exact n3
  have e4 : (ekd == 4) = false := by rw [beq_eq_false_iff_ne]; exact n4
  have e5 : (ekd == 5) = false := by rw [beq_eq_false_iff_ne]; exact n5
  have e6 : (ekd == 6) = false := by rw [beq_eq_false_iff_ne]; exact n6
  have e7 : (ekd == 7) = false := by rw [beq_eq_false_iff_ne]; exact n7
  have e8 : (ekd == 8) = false := by rw [beq_eq_false_iff_ne]; exact n8
  have e9 : (ekd == 9) = false := by rw [beq_eq_false_iff_ne]; exact n9
  have e10 : (ekd == 10) = false := by rw [beq_eq_false_iff_ne]; exact n10
  have e11 : (ekd == 11) = false := by rw [beq_eq_false_iff_ne]; exact n11
  have e12 : (ekd == 12) = false := by rw [beq_eq_false_iff_ne]; exact n12
  have e13 : (ekd == 13) = false := by rw [beq_eq_false_iff_ne]; exact n13
  have e14 : (ekd == 14) = false := by rw [beq_eq_false_iff_ne]; exact n14
  clear n1 n2 n3 n4 n5 n6 n7 n8 n9 n10 n11 n12 n13 n14
  obtain ⟨b1, hb1⟩ : ∃ b, (a.kd == 1) = b := ⟨_, rfl⟩
  try rw [hb1] at HD
  obtain ⟨b2, hb2⟩ : ∃ b, (a.kd == 2) = b := ⟨_, rfl⟩
  try rw [hb2] at HD
  obtain ⟨b0, hb0⟩ : ∃ b, (a.kd == 9) = b := ⟨_, rfl⟩
  try rw [hb0] at HD
  have hc : (b1 = true) ∨ (b1 = false ∧ b2 = true) ∨ (b1 = false ∧ b2 = false) := by cases b1 <;> cases b2 <;> simp
  rcases hc with rfl | ⟨rfl, rfl⟩ | ⟨rfl, rfl⟩
  all_goals
    have HE := HD.out
    try simp only [Bool.true_and, Bool.false_and, Bool.and_false, Bool.and_true, Bool.true_or, Bool.false_or] at HE
    have HE2 := Lib.hid HE
    clear HE HD
    go_enter Try.func21, Try.ntmps21
    go_wp2
    go_ret
    exact ⟨ret_bool HE2.out.symm, HB.out⟩
end Go.Proofs.Ytiegmpjoiekekaa
/-
  Which events meet what a thread asks for (layer 16): the document's Fits.
-/
namespace Go.Proofs.Ytiegmpjoiekekaa
open Go.RowKit
set_option linter.unusedVariables false
set_option linter.unusedSimpArgs false
theorem fits16 (a : Ak) (e : Ev) (w : World) : Calls Try.prog 21 #[.agg (akC a), .agg (evC e)] w fun q w' => q = .returned (.bool (fitB a e)) ∧ Below w.heap.size w w' := by
  by_cases h1 : e.kd = 1
  · exact fits1 a e w h1
  by_cases h2 : e.kd = 2
  · exact fits2 a e w h2
  by_cases h3 : e.kd = 3
  · exact fits3 a e w h3
  by_cases h4 : e.kd = 4
  · exact fits4 a e w h4
  by_cases h5 : e.kd = 5
  · exact fits5 a e w h5
  by_cases h6 : e.kd = 6
  · exact fits6 a e w h6
  by_cases h7 : e.kd = 7
  · exact fits7 a e w h7
  by_cases h8 : e.kd = 8
  · exact fits8 a e w h8
  by_cases h9 : e.kd = 9
  · exact fits9 a e w h9
  by_cases h10 : e.kd = 10
  · exact fits10 a e w h10
  by_cases h11 : e.kd = 11
  · exact fits11 a e w h11
  by_cases h12 : e.kd = 12
  · exact fits12 a e w h12
  by_cases h13 : e.kd = 13
  · exact fits13 a e w h13
  by_cases h14 : e.kd = 14
  · exact fits14 a e w h14
  exact fits0 a e w ⟨h1, h2, h3, h4, h5, h6, h7, h8, h9, h10, h11, h12, h13, h14⟩
end Go.Proofs.Ytiegmpjoiekekaa
