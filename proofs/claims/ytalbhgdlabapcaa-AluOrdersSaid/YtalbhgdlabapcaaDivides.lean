import Derived.Test.YtalbhgdlabapcaaBase
namespace Go.Proofs.Ytalbhgdlabapcaa
open Go.RowKit
theorem doV_div (a b : Int) : doV 6 a b = if b = 0 then 0 else a / b := by simp [doV]
theorem doV_mod (a b : Int) : doV 7 a b = if b = 0 then 0 else a % b := by simp [doV]
theorem doV_mul (a b : Int) : doV 5 a b = IntKind.u64.wrap (a * b) := by simp [doV]
theorem doV_add (a b : Int) : doV 3 a b = IntKind.u64.wrap (a + b) := by simp [doV]
theorem wrap_u64 (a : Int) : IntKind.u64.wrap a = a % 18446744073709551616 := rfl
theorem wrap_in (a : Int) (h : U64 a) : IntKind.u64.wrap a = a := by rw [wrap_u64]; unfold U64 at h; omega
theorem doV_in (op a b : Int) (ha : U64 a) (hb : U64 b) (ho : op = 5 ∨ op = 6 ∨ op = 7 ∨ op = 3): U64 (doV op a b) := by
  obtain ⟨h1, h2⟩ := ha
  obtain ⟨h3, h4⟩ := hb
  rcases ho with rfl | rfl | rfl | rfl
  · rw [doV_mul, wrap_u64]; unfold U64; omega
  · rw [doV_div]; unfold U64
    split
    · omega
    · exact ⟨Int.ediv_nonneg h1 h3, Int.le_trans (Int.ediv_le_self _ h1) h2⟩
  · rw [doV_mod]; unfold U64
    split
    · omega
    · exact ⟨Int.emod_nonneg _ (by omega), Int.le_trans (Int.le_of_lt (Int.emod_lt_of_pos _ (by omega))) (by omega)⟩
  · rw [doV_add, wrap_u64]; unfold U64; omega
set_option maxHeartbeats 400000 in
theorem divides_walk (a b : Int) (w : World) (w0 : (Lit.int .u64 a).wf = true) (w1 : (Lit.int .u64 b).wf = true) :
    Calls Try.prog 6 #[.int .u64 a, .int .u64 b] w fun e w' => e = .returned (.bool true) ∧ Below w.heap.size w w' := by
  have ha := u64_of _ w0
  have hb := u64_of _ w1
  clear w0 w1
  have hq := doV_in 6 a b ha hb (by omega)
  have hr := doV_in 7 a b ha hb (by omega)
  have hm := doV_in 5 (doV 6 a b) b hq hb (by omega)
  by_cases hz : b = 0
  · subst hz
    have e1 : (doV 6 a 0 == 0) = true := by simp [doV_div]
    have e2 : (doV 7 a 0 == 0) = true := by simp [doV_mod]
    go_enter Try.func6, Try.ntmps6
    go_wp2_with (first
      | (go_at_call 13; refine (lawdo_any _ _ _ _ (by assumption) (by assumption)).mono ?_; rintro e w' ⟨rfl, rfl⟩)
      | (go_at_call 11; refine (awake_any _).mono ?_; rintro e w1 ⟨rfl, hbel⟩))
    go_ret
    exact ⟨rfl, hbel⟩
  · obtain ⟨h1, h2⟩ := ha
    obtain ⟨h3, h4⟩ := hb
    have e1 : (b == 0) = false := by simpa using hz
    have e2 : decide (doV 7 a b < b) = true := by
      rw [doV_mod, if_neg hz]; simpa using Int.emod_lt_of_pos a (by omega)
    have hle : a / b ≤ a := Int.ediv_le_self _ h1
    have e4 : decide (doV 6 a b ≤ a) = true := by
      rw [doV_div, if_neg hz]; simpa using hle
    have hmul : a / b * b ≤ a := Int.ediv_mul_le _ hz
    have hmul0 : 0 ≤ a / b * b := Int.mul_nonneg (Int.ediv_nonneg h1 h3) h3
    have hsum : a / b * b + a % b = a := by rw [Int.mul_comm]; exact Int.mul_ediv_add_emod a b
    have e3 : (doV 3 (doV 5 (doV 6 a b) b) (doV 7 a b) == a) = true := by
      rw [doV_mod, if_neg hz, doV_div, if_neg hz, doV_mul, doV_add, wrap_in (a / b * b) (by unfold U64; omega), hsum, wrap_in a ⟨h1, h2⟩]; simp
    have ha : U64 a := ⟨h1, h2⟩
    have hb : U64 b := ⟨h3, h4⟩
    clear hle hmul hmul0 hsum hz
    go_enter Try.func6, Try.ntmps6
    go_wp2_with (first
      | (go_at_call 13; refine (lawdo_any _ _ _ _ (by assumption) (by assumption)).mono ?_; rintro e w' ⟨rfl, rfl⟩)
      | (go_at_call 11; refine (awake_any _).mono ?_; rintro e w1 ⟨rfl, hbel⟩))
    go_ret
    exact ⟨rfl, hbel⟩
end Go.Proofs.Ytalbhgdlabapcaa
