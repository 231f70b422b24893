/-
  The operations of the arithmetic instructions, and the document's (layer 8).
-/
import Derived.Test.YtiegmpjoiekekaaRows
import Derived.Test.YtiegmpjoiekekaaKit
import Derived.BigQuiet
import Derived.Deep.RegionWith
import Derived.IntWalk
import Derived.Laws.Bits64
import Derived.Laws.Bits64b
import Derived.OpenShut
import Derived.Outline
import Derived.WalkKit
namespace Go.Proofs.Ytiegmpjoiekekaa
open Go.RowKit
set_option linter.unusedVariables false
set_option linter.unusedSimpArgs false
/-- What an operation makes of two numbers, and whether there is one. -/
def doV (op a b : Int) : Int :=
  if op = 3 then IntKind.u64.wrap (a + b) else
  if op = 4 then IntKind.u64.wrap (a - b) else
  if op = 5 then IntKind.u64.wrap (a * b) else
  if op = 6 then (if b = 0 then 0 else a / b) else
  if op = 7 then (if b = 0 then 0 else a % b) else
  if op = 8 then bits BinOp.and IntKind.u64 a b else
  if op = 9 then bits BinOp.or IntKind.u64 a b else
  if op = 10 then bits BinOp.xor IntKind.u64 a b else
  if op = 11 then IntKind.u64.wrap (a * 2 ^ (b % 64).toNat) else
  if op = 12 then a / 2 ^ (b % 64).toNat else
  if op = 13 then (if a < b then 1 else 0) else
  if op = 14 then (if a = b then 1 else 0) else 0
def isOp (op : Int) : Bool := decide (3 ≤ op ∧ op ≤ 14)
theorem ret_pair {a b : Int} {p q : Bool} (h : a = b) (k : p = q) : Ending.returned (.tuple #[.int .u64 a, .bool p]) = .returned (.tuple #[.int .u64 b, .bool q]) := by rw [h, k]
/-- Numbers of 64 bits. -/
def U64 (a : Int) : Prop := 0 ≤ a ∧ a ≤ 18446744073709551615
theorem u64_of (a : Int) (h : (Lit.int .u64 a).wf = true) : U64 a := Go.bounds_u64 h
set_option maxHeartbeats 1000000 in
theorem do_plain (op a b : Int) (w : World) (ho : op = 3 ∨ op = 4 ∨ op = 5 ∨ op = 8 ∨ op = 9 ∨ op = 10 ∨ op = 11 ∨ op = 12) (ha : U64 a) (hb : U64 b) :
    Calls Try.prog 55 #[.int .i64 op, .int .u64 a, .int .u64 b] w fun e w' => e = .returned (.tuple #[.int .u64 (doV op a b), .bool (isOp op)]) ∧ w = w' := by
  obtain ⟨h1, h2⟩ := ha
  obtain ⟨h3, h4⟩ := hb
  rcases ho with rfl | rfl | rfl | rfl | rfl | rfl | rfl | rfl
  all_goals
    go_enter Try.func55, Try.ntmps55
    go_wp2
    go_ret2
    exact ⟨ret_pair rfl rfl, rfl⟩
set_option maxHeartbeats 1000000 in
theorem do_div (op a b : Int) (w : World) (ho : op = 6 ∨ op = 7) (ha : U64 a) (hb : U64 b) :
    Calls Try.prog 55 #[.int .i64 op, .int .u64 a, .int .u64 b] w fun e w' => e = .returned (.tuple #[.int .u64 (doV op a b), .bool (isOp op)]) ∧ w = w' := by
  obtain ⟨h1, h2⟩ := ha
  obtain ⟨h3, h4⟩ := hb
  by_cases hz : b = 0
  · subst hz
    rcases ho with rfl | rfl
    all_goals
      go_enter Try.func55, Try.ntmps55
      go_wp2
      go_ret2
      exact ⟨ret_pair rfl rfl, rfl⟩
  · have hz1 : (b == 0) = false := by simpa using hz
    rcases ho with rfl | rfl
    all_goals
      go_enter Try.func55, Try.ntmps55
      go_wp2
      go_ret2
      exact ⟨ret_pair (by simp [doV, hz]) rfl, rfl⟩
set_option maxHeartbeats 1000000 in
theorem do_less (op a b : Int) (w : World) (ho : op = 13 ∨ op = 14) (ha : U64 a) (hb : U64 b) :
    Calls Try.prog 55 #[.int .i64 op, .int .u64 a, .int .u64 b] w fun e w' => e = .returned (.tuple #[.int .u64 (doV op a b), .bool (isOp op)]) ∧ w = w' := by
  obtain ⟨h1, h2⟩ := ha
  obtain ⟨h3, h4⟩ := hb
  rcases ho with rfl | rfl
  · by_cases hz : a < b
    all_goals
      go_enter Try.func55, Try.ntmps55
      go_wp2
      go_ret2
      exact ⟨ret_pair (by simp [doV, hz]) rfl, rfl⟩
  · by_cases hz : a = b
    · subst hz
      go_enter Try.func55, Try.ntmps55
      go_wp2
      go_ret2
      exact ⟨ret_pair (by simp [doV]) rfl, rfl⟩
    · have hz1 : (a == b) = false := by simpa using hz
      go_enter Try.func55, Try.ntmps55
      go_wp2
      go_ret2
      exact ⟨ret_pair (by simp [doV, hz]) rfl, rfl⟩
set_option maxHeartbeats 1000000 in
theorem do_none (op a b : Int) (w : World) (ho : op < 3 ∨ 14 < op) :
    Calls Try.prog 55 #[.int .i64 op, .int .u64 a, .int .u64 b] w fun e w' => e = .returned (.tuple #[.int .u64 (doV op a b), .bool (isOp op)]) ∧ w = w' := by
  have k3 : (op == 3) = false := by simp; omega
  have k4 : (op == 4) = false := by simp; omega
  have k5 : (op == 5) = false := by simp; omega
  have k6 : (op == 6) = false := by simp; omega
  have k7 : (op == 7) = false := by simp; omega
  have k8 : (op == 8) = false := by simp; omega
  have k9 : (op == 9) = false := by simp; omega
  have k10 : (op == 10) = false := by simp; omega
  have k11 : (op == 11) = false := by simp; omega
  have k12 : (op == 12) = false := by simp; omega
  have k13 : (op == 13) = false := by simp; omega
  have k14 : (op == 14) = false := by simp; omega
  have hv : doV op a b = 0 := by
    simp at k3 k4 k5 k6 k7 k8 k9 k10 k11 k12 k13 k14
    simp [doV, *]
  have hi : isOp op = false := by simp [isOp]; omega
  have HV := Lib.hid hv
  have HI := Lib.hid hi
  clear hv hi
  go_enter Try.func55, Try.ntmps55
  go_wp2
  go_ret2
  exact ⟨ret_pair HV.out.symm HI.out.symm, rfl⟩
theorem do_any (op a b : Int) (w : World) (ha : U64 a) (hb : U64 b) :
    Calls Try.prog 55 #[.int .i64 op, .int .u64 a, .int .u64 b] w fun e w' => e = .returned (.tuple #[.int .u64 (doV op a b), .bool (isOp op)]) ∧ w = w' := by
  by_cases h : op < 3 ∨ 14 < op
  · exact do_none op a b w h
  · by_cases h1 : op = 6 ∨ op = 7
    · exact do_div op a b w h1 ha hb
    · by_cases h2 : op = 13 ∨ op = 14
      · exact do_less op a b w h2 ha hb
      · exact do_plain op a b w (by omega) ha hb
theorem u64_lit (n : Int) (h : 0 ≤ n ∧ n ≤ 18446744073709551615) : U64 n := h
theorem doV_div (a b : Int) : doV 6 a b = if b = 0 then 0 else a / b := by simp [doV]
theorem doV_mod (a b : Int) : doV 7 a b = if b = 0 then 0 else a % b := by simp [doV]
theorem doV_mul (a b : Int) : doV 5 a b = IntKind.u64.wrap (a * b) := by simp [doV]
theorem doV_add (a b : Int) : doV 3 a b = IntKind.u64.wrap (a + b) := by simp [doV]
theorem wrap_u64 (a : Int) : IntKind.u64.wrap a = a % 18446744073709551616 := rfl
theorem wrap_in (a : Int) (h : U64 a) : IntKind.u64.wrap a = a := by rw [wrap_u64]; unfold U64 at h; omega
theorem doV_in (op a b : Int) (ha : U64 a) (hb : U64 b) (ho : op = 5 ∨ op = 6 ∨ op = 7 ∨ op = 3): U64 (doV op a b) := by
  obtain ⟨h1, h2⟩ := ha
  obtain ⟨h3, h4⟩ := hb
  rcases ho with rfl | rfl | rfl | rfl
  · rw [doV_mul, wrap_u64]; unfold U64; omega
  · rw [doV_div]; unfold U64
    split
    · omega
    · exact ⟨Int.ediv_nonneg h1 h3, Int.le_trans (Int.ediv_le_self _ h1) h2⟩
  · rw [doV_mod]; unfold U64
    split
    · omega
    · exact ⟨Int.emod_nonneg _ (by omega), Int.le_trans (Int.le_of_lt (Int.emod_lt_of_pos _ (by omega))) (by omega)⟩
  · rw [doV_add, wrap_u64]; unfold U64; omega
theorem doV_shl (a b : Int) : doV 11 a b = IntKind.u64.wrap (a * 2 ^ (b % 64).toNat) := by simp [doV]
theorem doV_shr (a b : Int) : doV 12 a b = a / 2 ^ (b % 64).toNat := by simp [doV]
theorem pow_pos2 (n : Nat) : (0 : Int) < 2 ^ n := Int.pow_pos (by decide)
theorem doV_in2 (op a b : Int) (ha : U64 a) (ho : op = 11 ∨ op = 12): U64 (doV op a b) := by
  obtain ⟨h1, h2⟩ := ha
  rcases ho with rfl | rfl
  · rw [doV_shl, wrap_u64]; unfold U64; omega
  · rw [doV_shr]; exact ⟨Int.ediv_nonneg h1 (Int.le_of_lt (pow_pos2 _)), Int.le_trans (Int.ediv_le_self _ h1) h2⟩
theorem mod_mul (m k M : Int) : (m % M * k) % M = (m * k) % M := by rw [Int.mul_emod, Int.emod_emod, ← Int.mul_emod]
theorem toNat_sum (x y : Int) (hx : 0 ≤ x) (hy : 0 ≤ y) (h : x + y < 64) : (x % 64).toNat = x.toNat ∧ (y % 64).toNat = y.toNat ∧ ((x + y) % 64).toNat = x.toNat + y.toNat := by omega
theorem shl_shl (a x y : Int) (hx : 0 ≤ x) (hy : 0 ≤ y) (h : x + y < 64) : doV 11 (doV 11 a x) y = doV 11 a (x + y) := by
  obtain ⟨t1, t2, t3⟩ := toNat_sum x y hx hy h
  rw [doV_shl, doV_shl, doV_shl, t1, t2, t3, wrap_u64, wrap_u64, wrap_u64, mod_mul, Int.mul_assoc, ← Int.pow_add]
theorem shr_shr (a x y : Int) (hx : 0 ≤ x) (hy : 0 ≤ y) (h : x + y < 64) : doV 12 (doV 12 a x) y = doV 12 a (x + y) := by
  obtain ⟨t1, t2, t3⟩ := toNat_sum x y hx hy h
  rw [doV_shr, doV_shr, doV_shr, t1, t2, t3, Int.pow_add, Int.ediv_ediv_of_nonneg (Int.le_of_lt (pow_pos2 _))]
theorem doV_and (a b : Int) : doV 8 a b = bits BinOp.and IntKind.u64 a b := by simp [doV]
theorem doV_or (a b : Int) : doV 9 a b = bits BinOp.or IntKind.u64 a b := by simp [doV]
theorem doV_xor (a b : Int) : doV 10 a b = bits BinOp.xor IntKind.u64 a b := by simp [doV]
theorem doV_sub (a b : Int) : doV 4 a b = IntKind.u64.wrap (a - b) := by simp [doV]
/-- Numbers of 64 bits as naturals. -/
theorem u64_nat {a : Int} (h : U64 a) : ∃ n : Nat, a = n ∧ n < 18446744073709551616 := by
  unfold U64 at h; exact ⟨a.toNat, by omega, by omega⟩
theorem u64_cast {n : Nat} (h : n < 18446744073709551616) : U64 (n : Int) := by unfold U64; omega
theorem two64 : (18446744073709551616 : Nat) = 2 ^ 64 := rfl
theorem and_nat {a b : Nat} (ha : a < 18446744073709551616) (hb : b < 18446744073709551616) : doV 8 a b = ((a &&& b : Nat) : Int) := by rw [doV_and, bits_and_u64_nat _ _ ha hb]
theorem or_nat {a b : Nat} (ha : a < 18446744073709551616) (hb : b < 18446744073709551616) : doV 9 a b = ((a ||| b : Nat) : Int) := by rw [doV_or, bits_or_u64_nat _ _ ha hb]
theorem xor_nat {a b : Nat} (ha : a < 18446744073709551616) (hb : b < 18446744073709551616) : doV 10 a b = ((a ^^^ b : Nat) : Int) := by rw [doV_xor, bits_xor_u64_nat _ _ ha hb]
theorem and_lt {a b : Nat} (hb : b < 18446744073709551616) : a &&& b < 18446744073709551616 := by rw [two64] at *; exact Nat.and_lt_two_pow _ hb
theorem or_lt {a b : Nat} (ha : a < 18446744073709551616) (hb : b < 18446744073709551616) : a ||| b < 18446744073709551616 := by rw [two64] at *; exact Nat.or_lt_two_pow ha hb
theorem xor_lt {a b : Nat} (ha : a < 18446744073709551616) (hb : b < 18446744073709551616) : a ^^^ b < 18446744073709551616 := by rw [two64] at *; exact Nat.xor_lt_two_pow ha hb
theorem doV_u64 (op a b : Int) (ha : U64 a) (hb : U64 b) : U64 (doV op a b) := by
  obtain ⟨m, rfl, hm⟩ := u64_nat ha
  obtain ⟨n, rfl, hn⟩ := u64_nat hb
  by_cases h : op = 3 ∨ op = 4 ∨ op = 5 ∨ op = 6 ∨ op = 7 ∨ op = 8 ∨ op = 9 ∨ op = 10 ∨ op = 11 ∨ op = 12
  · rcases h with rfl | rfl | rfl | rfl | rfl | rfl | rfl | rfl | rfl | rfl
    · exact doV_in _ _ _ ha hb (by omega)
    · rw [doV_sub, wrap_u64]; unfold U64; omega
    · exact doV_in _ _ _ ha hb (by omega)
    · exact doV_in _ _ _ ha hb (by omega)
    · exact doV_in _ _ _ ha hb (by omega)
    · rw [and_nat hm hn]; exact u64_cast (and_lt hn)
    · rw [or_nat hm hn]; exact u64_cast (or_lt hm hn)
    · rw [xor_nat hm hn]; exact u64_cast (xor_lt hm hn)
    · exact doV_in2 _ _ _ ha (by omega)
    · exact doV_in2 _ _ _ ha (by omega)
  · have : doV op m n = 0 ∨ doV op m n = 1 := by
      unfold doV
      repeat' split
      all_goals omega
    unfold U64; omega
/-- What the three bitwise operations come to. -/
def bitOp (op : Int) (A B : Nat) : Nat := if op = 8 then A &&& B else if op = 9 then A ||| B else A ^^^ B
def bitOne (op : Int) (x y : Bool) : Bool := if op = 8 then x && y else if op = 9 then x || y else x ^^ y
theorem bitOp_testBit (op : Int) (A B k : Nat) : (bitOp op A B).testBit k = bitOne op (A.testBit k) (B.testBit k) := by
  unfold bitOp bitOne
  split
  · exact Nat.testBit_and ..
  · split
    · exact Nat.testBit_or ..
    · exact Nat.testBit_xor ..
theorem bitOp_lt (op : Int) {A B : Nat} (hA : A < 18446744073709551616) (hB : B < 18446744073709551616) : bitOp op A B < 18446744073709551616 := by
  unfold bitOp
  split
  · exact and_lt hB
  · split
    · exact or_lt hA hB
    · exact xor_lt hA hB
theorem odd_bit (A k : Nat) : A / 2 ^ k % 2 = (A.testBit k).toNat := by rw [Nat.toNat_testBit]
/-- How the loop's five numbers stand behind k rounds. -/
structure BitAt (op : Int) (A B k m n r u : Nat) : Prop where
  hm : m = A / 2 ^ k
  hn : n = B / 2 ^ k
  hr : r = bitOp op A B % 2 ^ k
  hu : u = 2 ^ k % 18446744073709551616
theorem BitAt.start (op : Int) (A B : Nat) : BitAt op A B 0 A B 0 1 := ⟨by simp, by simp, by simp [Nat.mod_one], by decide⟩
theorem BitAt.unit {op : Int} {A B k m n r u : Nat} (h : BitAt op A B k m n r u) (hk : k < 64) : u = 2 ^ k := by
  rw [h.hu]; exact Nat.mod_eq_of_lt (by rw [two64]; exact Nat.pow_lt_pow_right (by decide) hk)
/-- A round: the halves, and the bit. -/
theorem BitAt.step {op : Int} {A B k m n r u : Nat} (h : BitAt op A B k m n r u) (hk : k < 64) (x y : Bool) (hx : m % 2 = x.toNat) (hy : n % 2 = y.toNat) :
    BitAt op A B (k + 1) (m / 2) (n / 2) (if bitOne op x y then r + u else r) (u * 2 % 18446744073709551616) := by
  have ex : A.testBit k = x := by
    have := odd_bit A k; rw [← h.hm, hx] at this
    cases x <;> cases hh : A.testBit k <;> simp_all
  have ey : B.testBit k = y := by
    have := odd_bit B k; rw [← h.hn, hy] at this
    cases y <;> cases hh : B.testBit k <;> simp_all
  have hu := h.unit hk
  refine ⟨by rw [h.hm, Nat.div_div_eq_div_mul, ← Nat.pow_succ], by rw [h.hn, Nat.div_div_eq_div_mul, ← Nat.pow_succ], ?_, by rw [hu, Nat.pow_succ]⟩
  rw [Nat.mod_pow_succ, odd_bit, bitOp_testBit, ex, ey, ← h.hr, hu]
  cases bitOne op x y <;> simp
theorem BitAt.le {op : Int} {A B k m n r u : Nat} (h : BitAt op A B k m n r u) (hA : A < 18446744073709551616) (hB : B < 18446744073709551616) :
    m < 18446744073709551616 ∧ n < 18446744073709551616 ∧ r < 18446744073709551616 ∧ u < 18446744073709551616 := by
  refine ⟨by rw [h.hm]; exact Nat.lt_of_le_of_lt (Nat.div_le_self _ _) hA, by rw [h.hn]; exact Nat.lt_of_le_of_lt (Nat.div_le_self _ _) hB, ?_, by rw [h.hu]; exact Nat.mod_lt _ (by decide)⟩
  rw [h.hr]; exact Nat.lt_of_le_of_lt (Nat.mod_le _ _) (bitOp_lt op hA hB)
theorem BitAt.done {op : Int} {A B m n r u : Nat} (h : BitAt op A B 64 m n r u) (hA : A < 18446744073709551616) (hB : B < 18446744073709551616) : r = bitOp op A B := by
  rw [h.hr]; exact Nat.mod_eq_of_lt (by rw [← two64]; exact bitOp_lt op hA hB)
theorem doV_bit (op : Int) (A B : Nat) (ho : op = 8 ∨ op = 9 ∨ op = 10) (hA : A < 18446744073709551616) (hB : B < 18446744073709551616) : doV op A B = (bitOp op A B : Nat) := by
  rcases ho with rfl | rfl | rfl
  · rw [and_nat hA hB]; simp [bitOp]
  · rw [or_nat hA hB]; simp [bitOp]
  · rw [xor_nat hA hB]; simp [bitOp]
theorem int_u64 {a b : Int} (h : a = b) : Value.int .u64 a = .int .u64 b := by rw [h]
set_option maxHeartbeats 1000000 in
theorem bits_any (op a b : Int) (w : World) (ho : op = 8 ∨ op = 9 ∨ op = 10) (ha : U64 a) (hb : U64 b) :
    Calls Try.prog 56 #[.int .i64 op, .int .u64 a, .int .u64 b] w fun e w' => e = .returned (.int .u64 (doV op a b)) ∧ w = w' := by
  obtain ⟨A, rfl, hA⟩ := u64_nat ha
  obtain ⟨B, rfl, hB⟩ := u64_nat hb
  have HD := Lib.hid (doV_bit op A B ho hA hB)
  have HA := Lib.hid hA
  have HB := Lib.hid hB
  clear hA hB ha hb
  have parity : ∀ m : Nat, ∃ x : Bool, m % 2 = x.toNat := fun m => by
    rcases Nat.mod_two_eq_zero_or_one m with h | h
    · exact ⟨false, h⟩
    · exact ⟨true, h⟩
  have hd : (op = 8 ∧ (op == 8) = true ∧ (op == 9) = false ∧ (op == 10) = false) ∨ (op = 9 ∧ (op == 8) = false ∧ (op == 9) = true ∧ (op == 10) = false) ∨ (op = 10 ∧ (op == 8) = false ∧ (op == 9) = false ∧ (op == 10) = true) := by
    rcases ho with rfl | rfl | rfl <;> simp
  clear ho
  rcases hd with ⟨h, E8, E9, E10⟩ | ⟨h, E8, E9, E10⟩ | ⟨h, E8, E9, E10⟩
  all_goals
    have HO := Lib.hid h
    clear h
    go_enter Try.func56, Try.ntmps56
    go_wp2
    go_loop [1, 2, 7, 8, 9] (fun a b o u i => ∃ k m n r v : Nat, k ≤ 64 ∧ BitAt op A B k m n r v ∧ i = .int .i64 k ∧ a = .int .u64 m ∧ b = .int .u64 n ∧ o = .int .u64 r ∧ u = .int .u64 v)
      (fun _ _ _ _ i => 64 - (intOf i).toNat)
    case atStart => exact ⟨0, A, B, 0, 1, by omega, BitAt.start _ _ _, rfl, rfl, rfl, rfl, rfl⟩
    case round =>
      obtain ⟨k, m, n, r, v, hk, H, rfl, rfl, rfl, rfl, rfl⟩ := hrel
      obtain ⟨b1, b2, b3, b4⟩ := H.le HA.out HB.out
      by_cases hlt : k < 64
      · obtain ⟨x, hx⟩ := parity m
        obtain ⟨y, hy⟩ := parity n
        have S := H.step hlt x y hx hy
        have s3 := (S.le HA.out HB.out).2.2.1
        have hxi : (m : Int) % 2 = x.toNat := by omega
        have hyi : (n : Int) % 2 = y.toNat := by omega
        clear hx hy parity
        cases x <;> cases y
        all_goals
          simp only [Bool.toNat_true, Bool.toNat_false, Int.natCast_zero, Int.natCast_one] at hxi hyi
          have HS := Lib.hid (show BitAt op A B (k + 1) (m / 2) (n / 2) _ _ from S)
          clear S H
          simp [bitOne, HO.out] at s3
          go_wp2
          go_round
          case rel =>
            have HS2 := HS.out
            simp [bitOne, HO.out] at HS2
            rw [← HO.out] at HS2
            exact ⟨k + 1, m / 2, n / 2, _, v * 2 % 18446744073709551616, by omega, HS2, by go_num, by go_num, by go_num, by go_num, int_u64 (by rw [wrap_u64]; omega)⟩
          case measure => simp [intOf]; omega
      · obtain rfl : k = 64 := by omega
        have hr := Lib.hid (H.done HA.out HB.out)
        clear b1 b2 b3 b4
        go_wp2
        go_ret
        exact ⟨ret_int (by rw [HD.out, hr.out]), rfl⟩
theorem shl_step (a x : Int) (k : Nat) (h : x = IntKind.u64.wrap (a * 2 ^ k)) : IntKind.u64.wrap (x * 2) = IntKind.u64.wrap (a * 2 ^ (k + 1)) := by
  rw [h, wrap_u64, wrap_u64, wrap_u64, mod_mul, Int.mul_assoc, Int.pow_succ]
theorem shr_step (a x : Int) (k : Nat) (h : x = a / 2 ^ k) : x / 2 = a / 2 ^ (k + 1) := by
  rw [h, Int.ediv_ediv_of_nonneg (Int.le_of_lt (pow_pos2 _)), Int.pow_succ]
set_option maxHeartbeats 1000000 in
theorem ref_shl (a b : Int) (w : World) (ha : U64 a) (hb : U64 b) :
    Calls Try.prog 48 #[.int .i64 11, .int .u64 a, .int .u64 b] w fun e w' => e = .returned (.tuple #[.int .u64 (doV 11 a b), .bool (isOp 11)]) ∧ w = w' := by
  have HV := Lib.hid (doV_shl a b)
  have ws := Lib.hid (wrap_in a ha)
  obtain ⟨h1, h2⟩ := ha
  obtain ⟨h3, h4⟩ := hb
  go_enter Try.func48, Try.ntmps48
  go_wp2
  go_loop [1, 8] (fun x i => ∃ (k : Nat) (y : Int), (k : Int) ≤ b % 64 ∧ Hid (y = IntKind.u64.wrap (a * 2 ^ k)) ∧ i = .int .u64 k ∧ x = .int .u64 y ∧ 0 ≤ y ∧ y ≤ 18446744073709551615)
    (fun _ i => (b % 64).toNat - (intOf i).toNat)
  case atStart => exact ⟨0, a, by omega, by rw [Int.pow_zero, Int.mul_one]; exact ws.out.symm, rfl, rfl, h1, h2⟩
  case round =>
    obtain ⟨k, y, hk, hy, rfl, rfl, hy1, hy2⟩ := hrel
    by_cases hlt : (k : Int) < b % 64
    · have e : decide ((k : Int) < b % 64) = true := by simpa using hlt
      go_wp2
      go_round
      case rel => exact ⟨k + 1, _, by omega, Lib.hid (shl_step a y k hy.out), by go_num, rfl, by rw [wrap_u64]; omega, by rw [wrap_u64]; omega⟩
      case measure => simp [intOf]; omega
    · have e : decide ((k : Int) < b % 64) = false := by simpa using hlt
      have hkk : k = (b % 64).toNat := by omega
      have HK := Lib.hid hkk
      clear hkk
      go_wp2
      go_ret2
      exact ⟨ret_pair (by rw [HV.out, hy.out, HK.out]) rfl, rfl⟩
set_option maxHeartbeats 1000000 in
theorem ref_shr (a b : Int) (w : World) (ha : U64 a) (hb : U64 b) :
    Calls Try.prog 48 #[.int .i64 12, .int .u64 a, .int .u64 b] w fun e w' => e = .returned (.tuple #[.int .u64 (doV 12 a b), .bool (isOp 12)]) ∧ w = w' := by
  have HV := Lib.hid (doV_shr a b)
  obtain ⟨h1, h2⟩ := ha
  obtain ⟨h3, h4⟩ := hb
  go_enter Try.func48, Try.ntmps48
  go_wp2
  go_loop [1, 9] (fun x i => ∃ (k : Nat) (y : Int), (k : Int) ≤ b % 64 ∧ Hid (y = a / 2 ^ k) ∧ i = .int .u64 k ∧ x = .int .u64 y ∧ 0 ≤ y ∧ y ≤ 18446744073709551615)
    (fun _ i => (b % 64).toNat - (intOf i).toNat)
  case atStart => exact ⟨0, a, by omega, by rw [Int.pow_zero, Int.ediv_one]; exact Lib.hid rfl, rfl, rfl, h1, h2⟩
  case round =>
    obtain ⟨k, y, hk, hy, rfl, rfl, hy1, hy2⟩ := hrel
    by_cases hlt : (k : Int) < b % 64
    · have e : decide ((k : Int) < b % 64) = true := by simpa using hlt
      go_wp2
      go_round
      case rel => exact ⟨k + 1, _, by omega, Lib.hid (shr_step a y k hy.out), by go_num, rfl, by omega, by omega⟩
      case measure => simp [intOf]; omega
    · have e : decide ((k : Int) < b % 64) = false := by simpa using hlt
      have hkk : k = (b % 64).toNat := by omega
      have HK := Lib.hid hkk
      clear hkk
      go_wp2
      go_ret2
      exact ⟨ret_pair (by rw [HV.out, hy.out, HK.out]) rfl, rfl⟩
set_option maxHeartbeats 1000000 in
theorem ref_plain (op a b : Int) (w : World) (ho : op = 3 ∨ op = 4 ∨ op = 5 ∨ op = 8 ∨ op = 9 ∨ op = 10) (ha : U64 a) (hb : U64 b) :
    Calls Try.prog 48 #[.int .i64 op, .int .u64 a, .int .u64 b] w fun e w' => e = .returned (.tuple #[.int .u64 (doV op a b), .bool (isOp op)]) ∧ w = w' := by
  have HA := Lib.hid ha
  have HB := Lib.hid hb
  obtain ⟨h1, h2⟩ := ha
  obtain ⟨h3, h4⟩ := hb
  rcases ho with rfl | rfl | rfl | rfl | rfl | rfl
  all_goals
    go_enter Try.func48, Try.ntmps48
    go_wp2_with (go_at_call 56; refine (bits_any _ _ _ _ (by omega) HA.out HB.out).mono ?_; rintro e w' ⟨rfl, rfl⟩)
    go_ret2
    exact ⟨ret_pair rfl rfl, rfl⟩
theorem mod_by (a b : Int) (ha : U64 a) (hb : U64 b) (hz : b ≠ 0) : IntKind.u64.wrap (a - IntKind.u64.wrap (a / b * b)) = a % b := by
  have h := Int.mul_ediv_add_emod a b
  rw [Int.mul_comm] at h
  unfold U64 at ha hb
  have h1 : a / b * b ≤ a := Int.ediv_mul_le _ hz
  have h0 : 0 ≤ a / b * b := Int.mul_nonneg (Int.ediv_nonneg ha.1 hb.1) hb.1
  generalize a / b * b = t at *
  rw [wrap_in t (by unfold U64; omega), wrap_in _ (by unfold U64; omega)]
  omega
set_option maxHeartbeats 1000000 in
theorem ref_div (op a b : Int) (w : World) (ho : op = 6 ∨ op = 7) (ha : U64 a) (hb : U64 b) :
    Calls Try.prog 48 #[.int .i64 op, .int .u64 a, .int .u64 b] w fun e w' => e = .returned (.tuple #[.int .u64 (doV op a b), .bool (isOp op)]) ∧ w = w' := by
  have HM := Lib.hid (mod_by a b ha hb)
  obtain ⟨h1, h2⟩ := ha
  obtain ⟨h3, h4⟩ := hb
  by_cases hz : b = 0
  · subst hz
    rcases ho with rfl | rfl
    all_goals
      go_enter Try.func48, Try.ntmps48
      go_wp2
      go_ret2
      exact ⟨ret_pair rfl rfl, rfl⟩
  · have hz1 : (b == 0) = false := by simpa using hz
    have q1 : 0 ≤ a / b := Int.ediv_nonneg h1 h3
    have q2 : a / b ≤ a := Int.ediv_le_self _ h1
    rcases ho with rfl | rfl
    · go_enter Try.func48, Try.ntmps48
      go_wp2
      go_ret2
      exact ⟨ret_pair (by simp [doV, hz]) rfl, rfl⟩
    · go_enter Try.func48, Try.ntmps48
      go_wp2
      go_ret2
      refine ⟨ret_pair ?_ rfl, rfl⟩
      rw [doV_mod, if_neg hz]
      exact HM.out hz
set_option maxHeartbeats 1000000 in
theorem ref_less (op a b : Int) (w : World) (ho : op = 13 ∨ op = 14) (ha : U64 a) (hb : U64 b) :
    Calls Try.prog 48 #[.int .i64 op, .int .u64 a, .int .u64 b] w fun e w' => e = .returned (.tuple #[.int .u64 (doV op a b), .bool (isOp op)]) ∧ w = w' := by
  obtain ⟨h1, h2⟩ := ha
  obtain ⟨h3, h4⟩ := hb
  rcases ho with rfl | rfl
  · by_cases hz : a < b
    all_goals
      go_enter Try.func48, Try.ntmps48
      go_wp2
      go_ret2
      exact ⟨ret_pair (by simp [doV, hz]) rfl, rfl⟩
  · by_cases hz : a = b
    · subst hz
      go_enter Try.func48, Try.ntmps48
      go_wp2
      go_ret2
      exact ⟨ret_pair (by simp [doV]) rfl, rfl⟩
    · have hz1 : (a == b) = false := by simpa using hz
      go_enter Try.func48, Try.ntmps48
      go_wp2
      go_ret2
      exact ⟨ret_pair (by simp [doV, hz]) rfl, rfl⟩
set_option maxHeartbeats 1000000 in
theorem ref_none (op a b : Int) (w : World) (ho : op < 3 ∨ 14 < op) :
    Calls Try.prog 48 #[.int .i64 op, .int .u64 a, .int .u64 b] w fun e w' => e = .returned (.tuple #[.int .u64 (doV op a b), .bool (isOp op)]) ∧ w = w' := by
  have k3 : (op == 3) = false := by simp; omega
  have k4 : (op == 4) = false := by simp; omega
  have k5 : (op == 5) = false := by simp; omega
  have k6 : (op == 6) = false := by simp; omega
  have k7 : (op == 7) = false := by simp; omega
  have k8 : (op == 8) = false := by simp; omega
  have k9 : (op == 9) = false := by simp; omega
  have k10 : (op == 10) = false := by simp; omega
  have k11 : (op == 11) = false := by simp; omega
  have k12 : (op == 12) = false := by simp; omega
  have k13 : (op == 13) = false := by simp; omega
  have k14 : (op == 14) = false := by simp; omega
  have hv : doV op a b = 0 := by
    simp at k3 k4 k5 k6 k7 k8 k9 k10 k11 k12 k13 k14
    simp [doV, *]
  have hi : isOp op = false := by simp [isOp]; omega
  have HV := Lib.hid hv
  have HI := Lib.hid hi
  clear hv hi
  go_enter Try.func48, Try.ntmps48
  go_wp2
  go_ret2
  exact ⟨ret_pair HV.out.symm HI.out.symm, rfl⟩
theorem ref_any (op a b : Int) (w : World) (ha : U64 a) (hb : U64 b) :
    Calls Try.prog 48 #[.int .i64 op, .int .u64 a, .int .u64 b] w fun e w' => e = .returned (.tuple #[.int .u64 (doV op a b), .bool (isOp op)]) ∧ w = w' := by
  by_cases h : op < 3 ∨ 14 < op
  · exact ref_none op a b w h
  · by_cases h1 : op = 6 ∨ op = 7
    · exact ref_div op a b w h1 ha hb
    · by_cases h2 : op = 13 ∨ op = 14
      · exact ref_less op a b w h2 ha hb
      · by_cases h3 : op = 11
        · subst h3; exact ref_shl a b w ha hb
        · by_cases h4 : op = 12
          · subst h4; exact ref_shr a b w ha hb
          · exact ref_plain op a b w (by omega) ha hb
end Go.Proofs.Ytiegmpjoiekekaa
