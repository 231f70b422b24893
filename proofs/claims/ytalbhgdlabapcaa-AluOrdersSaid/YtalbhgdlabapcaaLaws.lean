import Derived.Test.YtalbhgdlabapcaaDivides
namespace Go.Proofs.Ytalbhgdlabapcaa
open Go.RowKit
set_option maxHeartbeats 400000 in
theorem orders_walk (a b c : Int) (w : World) (w0 : (Lit.int .u64 a).wf = true) (w1 : (Lit.int .u64 b).wf = true) (w2 : (Lit.int .u64 c).wf = true) :
    Calls Try.prog 7 #[.int .u64 a, .int .u64 b, .int .u64 c] w fun e w' => e = .returned (.bool true) ∧ Below w.heap.size w w' := by
  have ha := u64_of _ w0
  have hb := u64_of _ w1
  have hc := u64_of _ w2
  clear w0 w1 w2
  have d1 : ∀ x y, doV 13 x y = if x < y then 1 else 0 := fun x y => by simp [doV]
  have d2 : ∀ x y, doV 14 x y = if x = y then 1 else 0 := fun x y => by simp [doV]
  have e1 : decide (doV 13 a b ≤ 1) = true := by rw [d1]; split <;> simp
  have e2 : decide (doV 14 a b ≤ 1) = true := by rw [d2]; split <;> simp
  have e3 : decide (doV 13 b a ≤ 1) = true := by rw [d1]; split <;> simp
  have e4 : (IntKind.u64.wrap (IntKind.u64.wrap (doV 13 a b + doV 14 a b) + doV 13 b a) == 1) = true := by
    rw [d1, d2, d1]
    rcases Int.lt_trichotomy a b with h | h | h
    · rw [if_pos h, if_neg (by omega), if_neg (by omega)]; rfl
    · rw [if_neg (by omega), if_pos h, if_neg (by omega)]; rfl
    · rw [if_neg (by omega), if_neg (by omega), if_pos h]; rfl
  by_cases h1 : a < b
  · by_cases h2 : b < c
    · have e5 : (doV 13 a b == 0) = false := by rw [d1, if_pos h1]; rfl
      have e6 : (doV 13 b c == 0) = false := by rw [d1, if_pos h2]; rfl
      have e7 : (doV 13 a c == 1) = true := by rw [d1, if_pos (by omega)]; rfl
      clear d1 d2 h1 h2
      go_enter Try.func7, Try.ntmps7
      go_wp2_with (first
        | (go_at_call 13; refine (lawdo_any _ _ _ _ (by assumption) (by assumption)).mono ?_; rintro e w' ⟨rfl, rfl⟩)
        | (go_at_call 11; refine (awake_any _).mono ?_; rintro e w1 ⟨rfl, hbel⟩))
      go_ret
      exact ⟨rfl, hbel⟩
    · have e5 : (doV 13 a b == 0) = false := by rw [d1, if_pos h1]; rfl
      have e6 : (doV 13 b c == 0) = true := by rw [d1, if_neg h2]; rfl
      clear d1 d2 h1 h2
      go_enter Try.func7, Try.ntmps7
      go_wp2_with (first
        | (go_at_call 13; refine (lawdo_any _ _ _ _ (by assumption) (by assumption)).mono ?_; rintro e w' ⟨rfl, rfl⟩)
        | (go_at_call 11; refine (awake_any _).mono ?_; rintro e w1 ⟨rfl, hbel⟩))
      go_ret
      exact ⟨rfl, hbel⟩
  · have e5 : (doV 13 a b == 0) = true := by rw [d1, if_neg h1]; rfl
    clear d1 d2 h1
    go_enter Try.func7, Try.ntmps7
    go_wp2_with (first
      | (go_at_call 13; refine (lawdo_any _ _ _ _ (by assumption) (by assumption)).mono ?_; rintro e w' ⟨rfl, rfl⟩)
      | (go_at_call 11; refine (awake_any _).mono ?_; rintro e w1 ⟨rfl, hbel⟩))
    go_ret
    exact ⟨rfl, hbel⟩
end Go.Proofs.Ytalbhgdlabapcaa
