import Derived.Test.YtalbhgdlabapcaaDivides
namespace Go.Proofs.Ytalbhgdlabapcaa
open Go.RowKit
theorem doV_shl (a b : Int) : doV 11 a b = IntKind.u64.wrap (a * 2 ^ (b % 64).toNat) := by simp [doV]
theorem doV_shr (a b : Int) : doV 12 a b = a / 2 ^ (b % 64).toNat := by simp [doV]
theorem pow_pos2 (n : Nat) : (0 : Int) < 2 ^ n := Int.pow_pos (by decide)
theorem doV_in2 (op a b : Int) (ha : U64 a) (ho : op = 11 ∨ op = 12): U64 (doV op a b) := by
  obtain ⟨h1, h2⟩ := ha
  rcases ho with rfl | rfl
  · rw [doV_shl, wrap_u64]; unfold U64; omega
  · rw [doV_shr]; exact ⟨Int.ediv_nonneg h1 (Int.le_of_lt (pow_pos2 _)), Int.le_trans (Int.ediv_le_self _ h1) h2⟩
theorem mod_mul (m k M : Int) : (m % M * k) % M = (m * k) % M := by rw [Int.mul_emod, Int.emod_emod, ← Int.mul_emod]
theorem toNat_sum (x y : Int) (hx : 0 ≤ x) (hy : 0 ≤ y) (h : x + y < 64) : (x % 64).toNat = x.toNat ∧ (y % 64).toNat = y.toNat ∧ ((x + y) % 64).toNat = x.toNat + y.toNat := by omega
theorem shl_shl (a x y : Int) (hx : 0 ≤ x) (hy : 0 ≤ y) (h : x + y < 64) : doV 11 (doV 11 a x) y = doV 11 a (x + y) := by
  obtain ⟨t1, t2, t3⟩ := toNat_sum x y hx hy h
  rw [doV_shl, doV_shl, doV_shl, t1, t2, t3, wrap_u64, wrap_u64, wrap_u64, mod_mul, Int.mul_assoc, ← Int.pow_add]
theorem shr_shr (a x y : Int) (hx : 0 ≤ x) (hy : 0 ≤ y) (h : x + y < 64) : doV 12 (doV 12 a x) y = doV 12 a (x + y) := by
  obtain ⟨t1, t2, t3⟩ := toNat_sum x y hx hy h
  rw [doV_shr, doV_shr, doV_shr, t1, t2, t3, Int.pow_add, Int.ediv_ediv_of_nonneg (Int.le_of_lt (pow_pos2 _))]
set_option maxHeartbeats 400000 in
theorem shifts_walk (a i k : Int) (w : World) (w0 : (Lit.int .u64 a).wf = true) (w1 : (Lit.int .u8 i).wf = true) (w2 : (Lit.int .u8 k).wf = true) :
    Calls Try.prog 5 #[.int .u64 a, .int .u8 i, .int .u8 k] w fun e w' => e = .returned (.bool true) ∧ Below w.heap.size w w' := by
  have ha := u64_of _ w0
  obtain ⟨i1, i2⟩ := Go.bounds_u8 w1
  obtain ⟨k1, k2⟩ := Go.bounds_u8 w2
  clear w0 w1 w2
  have hx : U64 (i % 64) := by unfold U64; omega
  have hy : U64 (k % 64) := by unfold U64; omega
  have hxy : U64 (i % 64 + k % 64) := by unfold U64; omega
  have b1 := doV_in2 11 a (i % 64) ha (by omega)
  have b2 := doV_in2 12 a (i % 64) ha (by omega)
  by_cases hs : i % 64 + k % 64 > 63
  · have e0 : decide (i % 64 + k % 64 > 63) = true := by simpa using hs
    have hbel := Below.refl w.heap.size w
    go_enter Try.func5, Try.ntmps5
    go_wp2_with (first
      | (go_at_call 11; refine (awake_any _).mono ?_; rintro e w1 ⟨rfl, hb⟩; have hbel := then_ hbel hb; clear hb))
    go_ret
    exact ⟨rfl, hbel⟩
  · have e1 : (doV 11 (doV 11 a (i % 64)) (k % 64) == doV 11 a (i % 64 + k % 64)) = true := by rw [shl_shl a _ _ (by omega) (by omega) (by omega)]; simp
    have e2 : (doV 12 (doV 12 a (i % 64)) (k % 64) == doV 12 a (i % 64 + k % 64)) = true := by rw [shr_shr a _ _ (by omega) (by omega) (by omega)]; simp
    have e3 : (doV 12 (doV 11 a (i % 64)) (i % 64) == IntKind.u64.wrap (a * 2 ^ (i % 64).toNat) / 2 ^ (i % 64).toNat) = true := by
      rw [doV_shr, doV_shl, Int.emod_emod]; simp
    go_enter Try.func5, Try.ntmps5
    go_wp2_with (first
      | (go_at_call 13; refine (lawdo_any _ _ _ _ (by assumption) (by assumption)).mono ?_; rintro e w' ⟨rfl, rfl⟩)
      | (go_at_call 11; refine (awake_any _).mono ?_; rintro e w1 ⟨rfl, hbel⟩))
    go_ret
    exact ⟨rfl, hbel⟩
end Go.Proofs.Ytalbhgdlabapcaa
