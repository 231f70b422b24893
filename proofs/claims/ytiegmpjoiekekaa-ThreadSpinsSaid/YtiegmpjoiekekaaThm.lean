/-
  Which events meet what a thread asks for (layer 16): thread.matches.
-/
import Derived.Test.YtiegmpjoiekekaaThv
import Derived.Test.YtiegmpjoiekekaaEv
namespace Go.Proofs.Ytiegmpjoiekekaa
open Go.RowKit
set_option linter.unusedVariables false
set_option linter.unusedSimpArgs false
def mvB (a : Ak) : Bool := (a.kd == 1) || (a.kd == 2)
def fitB (a : Ak) (e : Ev) : Bool :=
  if e.kd = 1 then ((a.kd == 1) && (a.rg == e.rg))
  else if e.kd = 3 then ((a.kd == 2) && (a.rg == e.rg))
  else if e.kd = 2 then ((a.kd == 10) && ((a.rg == e.rg) && (a.tk == e.tk)))
  else if e.kd = 4 then ((a.kd == 11) && ((a.rg == e.rg) && (a.tk == e.tk)))
  else if e.kd = 13 then ((a.kd == 3) && (a.rg == e.rg))
  else if e.kd = 5 then (mvB a && ((a.rg == e.rg) && (a.md == 0)))
  else if e.kd = 6 then (mvB a && (a.rg == e.rg))
  else if e.kd = 7 then (mvB a && ((a.rg == e.rg) && (a.md == 2)))
  else if e.kd = 12 then ((a.kd == 7) && (a.vl == e.vl))
  else if e.kd = 8 then (a.kd == 4)
  else if e.kd = 9 then (a.kd == 5)
  else if e.kd = 10 then (a.kd == 6)
  else if e.kd = 11 then (a.kd == 6)
  else if e.kd = 14 then (a.kd == 8)
  else a.kd == 9
def aloneV (k : Int) : Int := if k = 8 then 4 else if k = 9 then 5 else if k = 10 ∨ k = 11 then 6 else if k = 14 then 8 else 9
set_option maxHeartbeats 2000000 in
set_option maxRecDepth 100000 in
theorem moves16 (a : Ak) (w : World) : Calls Try.prog 53 #[.agg (akC a)] w fun e w' => e = .returned (.bool (mvB a)) ∧ Below w.heap.size w w' := by
  have HB := Lib.hid ((Below.refl w.heap.size w).alloc (Nat.le_refl _) (.cells (akC a) 31))
  have HD : Hid (mvB a = ((a.kd == 1) || (a.kd == 2))) := rfl
  obtain ⟨b1, hb1⟩ : ∃ b, (a.kd == 1) = b := ⟨_, rfl⟩
  obtain ⟨b2, hb2⟩ : ∃ b, (a.kd == 2) = b := ⟨_, rfl⟩
  rw [hb1, hb2] at HD
  cases b1 <;> cases b2
  all_goals
    have HE := Lib.hid HD.out
    clear HD
    go_enter Try.func53, Try.ntmps53
    go_wp2
    go_ret
    exact ⟨ret_bool HE.out.symm, HB.out⟩
set_option maxHeartbeats 4000000 in
set_option maxRecDepth 100000 in
theorem alone16 (k : Int) (w : World) : Calls Try.prog 54 #[.int .i64 k] w fun e w' => e = .returned (.int .i64 (aloneV k)) ∧ w = w' := by
  have HD : Hid (aloneV k = if k = 8 then 4 else if k = 9 then 5 else if k = 10 ∨ k = 11 then 6 else if k = 14 then 8 else 9) := rfl
  by_cases k8 : k = 8
  · subst k8
    go_enter Try.func54, Try.ntmps54
    go_wp2
    go_ret
    exact ⟨rfl, rfl⟩
  by_cases k9 : k = 9
  · subst k9
    go_enter Try.func54, Try.ntmps54
    go_wp2
    go_ret
    exact ⟨rfl, rfl⟩
  by_cases k10 : k = 10
  · subst k10
    go_enter Try.func54, Try.ntmps54
    go_wp2
    go_ret
    exact ⟨rfl, rfl⟩
  by_cases k11 : k = 11
  · subst k11
    go_enter Try.func54, Try.ntmps54
    go_wp2
    go_ret
    exact ⟨rfl, rfl⟩
  by_cases k14 : k = 14
  · subst k14
    go_enter Try.func54, Try.ntmps54
    go_wp2
    go_ret
    exact ⟨rfl, rfl⟩
  have HE : Hid (aloneV k = 9) := by show _ = _; rw [HD.out, if_neg k8, if_neg k9, if_neg (by omega), if_neg k14]
  have e8 : (k == 8) = false := by rw [beq_eq_false_iff_ne]; exact k8
  have e9 : (k == 9) = false := by rw [beq_eq_false_iff_ne]; exact k9
  have e10 : (k == 10) = false := by rw [beq_eq_false_iff_ne]; exact k10
  have e11 : (k == 11) = false := by rw [beq_eq_false_iff_ne]; exact k11
  have e14 : (k == 14) = false := by rw [beq_eq_false_iff_ne]; exact k14
  clear HD k8 k9 k10 k11 k14
  go_enter Try.func54, Try.ntmps54
  go_wp2
  go_ret
  exact ⟨by rw [HE.out]; rfl, rfl⟩
end Go.Proofs.Ytiegmpjoiekekaa
