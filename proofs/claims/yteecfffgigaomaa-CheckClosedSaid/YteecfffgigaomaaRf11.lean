/-
  The document's ring and instr (layer 11).
-/
import Derived.Test.YteecfffgigaomaaChk
import Derived.Test.YteecfffgigaomaaRfn2
namespace Go.Proofs.Yteecfffgigaomaa
open Go.RowKit
set_option linter.unusedVariables false
set_option linter.unusedSimpArgs false
set_option maxHeartbeats 4000000 in
set_option maxRecDepth 100000 in
theorem r11Ring (x : Ri) (w : World) : Calls Try.prog 25 #[.agg (riC x)] w fun e w' => e = .returned (.bool (ringB x)) ∧ Below w.heap.size w w' := by
  have hb : Below w.heap.size w (w.alloc (.cells (riC x) 55)) := (Below.refl _ _).alloc (Nat.le_refl _) _
  have hr : ringB x = decide (1 ≤ x.c ∧ x.c ≤ 64 ∧ (x.k = 1 ∧ x.r = 1 ∨ x.k = 2 ∧ 1 ≤ x.r ∧ x.r ≤ 8)) := rfl
  have HR := Lib.hid hr
  clear hr
  obtain ⟨a1, h1⟩ : ∃ a, decide ((1 : Int) ≤ x.c) = a := ⟨_, rfl⟩
  obtain ⟨a2, h2⟩ : ∃ a, decide (x.c ≤ 64) = a := ⟨_, rfl⟩
  obtain ⟨a3, h3⟩ : ∃ a, (x.k == 1) = a := ⟨_, rfl⟩
  obtain ⟨a4, h4⟩ : ∃ a, (x.r == 1) = a := ⟨_, rfl⟩
  obtain ⟨a5, h5⟩ : ∃ a, (x.k == 2) = a := ⟨_, rfl⟩
  obtain ⟨a6, h6⟩ : ∃ a, decide ((1 : Int) ≤ x.r) = a := ⟨_, rfl⟩
  obtain ⟨a7, h7⟩ : ∃ a, decide (x.r ≤ 8) = a := ⟨_, rfl⟩
  have HF : Hid (ringB x = (a1 && a2 && ((a3 && a4) || (a5 && a6 && a7)))) := by
    show _ = _
    rw [HR.out, ← h1, ← h2, ← h3, ← h4, ← h5, ← h6, ← h7, Bool.eq_iff_iff]
    simp only [decide_eq_true_eq, Bool.and_eq_true, Bool.or_eq_true, beq_iff_eq]
    omega
  clear HR
  cases a1
  case false =>
    go_enter Try.func25, Try.ntmps25
    go_wp2
    go_ret
    exact ⟨ret_bool (by rw [HF.out]; rfl), hb⟩
  cases a2
  case false =>
    go_enter Try.func25, Try.ntmps25
    go_wp2
    go_ret
    exact ⟨ret_bool (by rw [HF.out]; rfl), hb⟩
  cases a3
  case true =>
    cases a4
    case true =>
      go_enter Try.func25, Try.ntmps25
      go_wp2
      go_ret
      exact ⟨ret_bool (by rw [HF.out]; rfl), hb⟩
    cases a5
    case false =>
      go_enter Try.func25, Try.ntmps25
      go_wp2
      go_ret
      exact ⟨ret_bool (by rw [HF.out]; rfl), hb⟩
    cases a6
    case false =>
      go_enter Try.func25, Try.ntmps25
      go_wp2
      go_ret
      exact ⟨ret_bool (by rw [HF.out]; rfl), hb⟩
    cases a7
    all_goals
      go_enter Try.func25, Try.ntmps25
      go_wp2
      go_ret
      exact ⟨ret_bool (by rw [HF.out]; rfl), hb⟩
  cases a5
  case false =>
    go_enter Try.func25, Try.ntmps25
    go_wp2
    go_ret
    exact ⟨ret_bool (by rw [HF.out]; rfl), hb⟩
  cases a6
  case false =>
    go_enter Try.func25, Try.ntmps25
    go_wp2
    go_ret
    exact ⟨ret_bool (by rw [HF.out]; rfl), hb⟩
  cases a7
  all_goals
    go_enter Try.func25, Try.ntmps25
    go_wp2
    go_ret
    exact ⟨ret_bool (by rw [HF.out]; rfl), hb⟩
end Go.Proofs.Yteecfffgigaomaa
