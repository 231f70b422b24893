/-
  Bits in order, the highest first, and eight a byte: plain lists, no Go in sight.
-/
import Derived.Test.YtnhbeddmphlieaaKit
import Derived.Test.YtnhbeddmphlieaaBytes
import Derived.Laws.BitsAllLaws
namespace Go.Proofs.Ytnhbeddmphlieaa
open Go.RowKit
set_option linter.unusedVariables false
set_option linter.unusedSimpArgs false
/-- A number's lowest bits, the highest first. -/
def bitsN (n : Nat) : Nat → List Bool
  | 0 => []
  | c + 1 => decide (n / 2 ^ c % 2 = 1) :: bitsN n c
theorem bitsN_length (n c : Nat) : (bitsN n c).length = c := by induction c with
  | zero => rfl
  | succ c ih => simp [bitsN, ih]
/-- The number of bits. -/
def numB (l : List Bool) : Nat := l.foldl (fun n b => 2 * n + b.toNat) 0
theorem numB_fold (l : List Bool) : ∀ n, l.foldl (fun n b => 2 * n + b.toNat) n = n * 2 ^ l.length + numB l := by
  induction l with
  | nil => intro n; simp [numB]
  | cons b l ih =>
    intro n
    have e : numB (b :: l) = (2 * 0 + b.toNat) * 2 ^ l.length + numB l := by
      show List.foldl _ 0 (b :: l) = _
      rw [List.foldl_cons, ih]
    rw [List.foldl_cons, ih, e]
    simp only [List.length_cons, Nat.pow_succ, Nat.mul_zero, Nat.zero_add, Nat.add_mul]
    rw [show 2 * n * 2 ^ l.length = n * (2 ^ l.length * 2) by ac_rfl, Nat.add_assoc]
theorem numB_snoc (l : List Bool) (b : Bool) : numB (l ++ [b]) = 2 * numB l + b.toNat := by simp [numB]
theorem numB_append (l m : List Bool) : numB (l ++ m) = numB l * 2 ^ m.length + numB m := by
  rw [numB, List.foldl_append, numB_fold]; rfl
theorem numB_cons (b : Bool) (l : List Bool) : numB (b :: l) = b.toNat * 2 ^ l.length + numB l := numB_append [b] l |>.trans (by simp [numB])
theorem numB_lt (l : List Bool) : numB l < 2 ^ l.length := by
  induction l with
  | nil => decide
  | cons b l ih =>
    rw [numB_cons, List.length_cons, Nat.pow_succ]
    cases b <;> simp <;> omega
theorem numB_bitsN (n c : Nat) : numB (bitsN n c) = n % 2 ^ c := by
  induction c with
  | zero => simp [bitsN, numB, Nat.mod_one]
  | succ c ih =>
    rw [bitsN, numB_cons, bitsN_length, ih, Nat.mod_pow_succ]
    by_cases h : n / 2 ^ c % 2 = 1
    · rw [decide_eq_true h, h]; simp [Nat.add_comm]
    · rw [decide_eq_false h, show n / 2 ^ c % 2 = 0 by omega]; simp
theorem bitsN_add (n a b : Nat) : bitsN n (a + b) = bitsN (n / 2 ^ b) a ++ bitsN n b := by
  induction a with
  | zero => simp [bitsN]
  | succ a ih =>
    rw [show a + 1 + b = (a + b) + 1 by omega, bitsN, ih, bitsN, Nat.div_div_eq_div_mul, ← Nat.pow_add, Nat.add_comm b a]
    rfl
/-! ## Eight a byte -/
def bitD (l : List Bool) (m : Nat) : Nat := (l.getD m false).toNat
theorem bitD_snoc (l : List Bool) (b : Bool) (m : Nat) : bitD (l ++ [b]) m = if m = l.length then b.toNat else bitD l m := by
  unfold bitD
  simp only [List.getD_eq_getElem?_getD]
  by_cases h : m = l.length
  · subst h; simp
  · rw [if_neg h]
    rcases Nat.lt_or_ge m l.length with h1 | h1
    · rw [List.getElem?_append_left h1]
    · rw [List.getElem?_eq_none (by simp; omega), List.getElem?_eq_none h1]
theorem bitD_out (l : List Bool) (m : Nat) (h : l.length ≤ m) : bitD l m = 0 := by
  unfold bitD; rw [List.getD_eq_getElem?_getD, List.getElem?_eq_none h]; rfl
theorem bitD_le (l : List Bool) (m : Nat) : bitD l m ≤ 1 := by unfold bitD; cases l.getD m false <;> simp
def byteN (l : List Bool) (j : Nat) : Nat :=
  bitD l (8 * j) * 128 + bitD l (8 * j + 1) * 64 + bitD l (8 * j + 2) * 32 + bitD l (8 * j + 3) * 16 + bitD l (8 * j + 4) * 8 + bitD l (8 * j + 5) * 4 + bitD l (8 * j + 6) * 2 + bitD l (8 * j + 7)
theorem byteN_lt (l : List Bool) (j : Nat) : byteN l j < 256 := by
  unfold byteN
  have := bitD_le l (8 * j); have := bitD_le l (8 * j + 1); have := bitD_le l (8 * j + 2); have := bitD_le l (8 * j + 3)
  have := bitD_le l (8 * j + 4); have := bitD_le l (8 * j + 5); have := bitD_le l (8 * j + 6); have := bitD_le l (8 * j + 7)
  omega
theorem byteN_out (l : List Bool) (j : Nat) (h : l.length ≤ 8 * j) : byteN l j = 0 := by
  unfold byteN
  rw [bitD_out l (8 * j) (by omega), bitD_out l (8 * j + 1) (by omega), bitD_out l (8 * j + 2) (by omega), bitD_out l (8 * j + 3) (by omega), bitD_out l (8 * j + 4) (by omega), bitD_out l (8 * j + 5) (by omega), bitD_out l (8 * j + 6) (by omega), bitD_out l (8 * j + 7) (by omega)]
theorem byteN_far (l : List Bool) (b : Bool) (j : Nat) (h : j ≠ l.length / 8) : byteN (l ++ [b]) j = byteN l j := by
  unfold byteN
  simp only [bitD_snoc]
  rw [if_neg (by omega), if_neg (by omega), if_neg (by omega), if_neg (by omega), if_neg (by omega), if_neg (by omega), if_neg (by omega), if_neg (by omega)]
/-- The byte that grows: it is a multiple of what is left of it, and the new bit comes in below. -/
theorem byteN_near (l : List Bool) (b : Bool) : byteN (l ++ [b]) (l.length / 8) = byteN l (l.length / 8) + b.toNat * 2 ^ (7 - l.length % 8) ∧ ∃ m, byteN l (l.length / 8) = m * 2 ^ (8 - l.length % 8) := by
  obtain ⟨q, r, hq, hr⟩ : ∃ q r, l.length = 8 * q + r ∧ r < 8 := ⟨l.length / 8, l.length % 8, by omega, by omega⟩
  have hd : l.length / 8 = q := by omega
  have hm : l.length % 8 = r := by omega
  rw [hd, hm]
  unfold byteN
  simp only [bitD_snoc, hq]
  have o : ∀ k, r ≤ k → bitD l (8 * q + k) = 0 := fun k hk => bitD_out l _ (by omega)
  have o0 : r ≤ 0 → bitD l (8 * q) = 0 := fun hk => bitD_out l _ (by omega)
  rcases (show r = 0 ∨ r = 1 ∨ r = 2 ∨ r = 3 ∨ r = 4 ∨ r = 5 ∨ r = 6 ∨ r = 7 by omega) with rfl | rfl | rfl | rfl | rfl | rfl | rfl | rfl
  · rw [o0 (by omega), o 1 (by omega), o 2 (by omega), o 3 (by omega), o 4 (by omega), o 5 (by omega), o 6 (by omega), o 7 (by omega)]
    exact ⟨by simp, 0, by simp⟩
  · rw [o 1 (by omega), o 2 (by omega), o 3 (by omega), o 4 (by omega), o 5 (by omega), o 6 (by omega), o 7 (by omega)]
    exact ⟨by simp, bitD l (8 * q), by simp⟩
  · rw [o 2 (by omega), o 3 (by omega), o 4 (by omega), o 5 (by omega), o 6 (by omega), o 7 (by omega)]
    exact ⟨by simp, bitD l (8 * q) * 2 + bitD l (8 * q + 1), by omega⟩
  · rw [o 3 (by omega), o 4 (by omega), o 5 (by omega), o 6 (by omega), o 7 (by omega)]
    exact ⟨by simp, bitD l (8 * q) * 4 + bitD l (8 * q + 1) * 2 + bitD l (8 * q + 2), by omega⟩
  · rw [o 4 (by omega), o 5 (by omega), o 6 (by omega), o 7 (by omega)]
    exact ⟨by simp, bitD l (8 * q) * 8 + bitD l (8 * q + 1) * 4 + bitD l (8 * q + 2) * 2 + bitD l (8 * q + 3), by omega⟩
  · rw [o 5 (by omega), o 6 (by omega), o 7 (by omega)]
    exact ⟨by simp, bitD l (8 * q) * 16 + bitD l (8 * q + 1) * 8 + bitD l (8 * q + 2) * 4 + bitD l (8 * q + 3) * 2 + bitD l (8 * q + 4), by omega⟩
  · rw [o 6 (by omega), o 7 (by omega)]
    exact ⟨by simp, bitD l (8 * q) * 32 + bitD l (8 * q + 1) * 16 + bitD l (8 * q + 2) * 8 + bitD l (8 * q + 3) * 4 + bitD l (8 * q + 4) * 2 + bitD l (8 * q + 5), by omega⟩
  · rw [o 7 (by omega)]
    exact ⟨by simp, bitD l (8 * q) * 64 + bitD l (8 * q + 1) * 32 + bitD l (8 * q + 2) * 16 + bitD l (8 * q + 3) * 8 + bitD l (8 * q + 4) * 4 + bitD l (8 * q + 5) * 2 + bitD l (8 * q + 6), by omega⟩
def packB (l : List Bool) : List UInt8 := (List.range ((l.length + 7) / 8)).map fun j => UInt8.ofNat (byteN l j)
theorem packB_length (l : List Bool) : (packB l).length = (l.length + 7) / 8 := by simp [packB]
theorem byte_val (l : List Bool) (j : Nat) : (UInt8.ofNat (byteN l j)).toNat = byteN l j := by
  rw [UInt8.toNat_ofNat']; have := byteN_lt l j; omega
theorem packB_get (l : List Bool) (j : Nat) (h : j < (l.length + 7) / 8) : (packB l)[j]? = some (UInt8.ofNat (byteN l j)) := by simp [packB, h]
/-- One bit more. -/
theorem packB_same (l : List Bool) (b : Bool) (h : l.length % 8 ≠ 0) : packB (l ++ [b]) = (packB l).set (l.length / 8) (UInt8.ofNat (byteN (l ++ [b]) (l.length / 8))) := by
  apply List.ext_getElem?
  intro j
  have hl : (l ++ [b]).length = l.length + 1 := by simp
  rw [List.getElem?_set]
  by_cases hj : j < (l.length + 7) / 8
  · rw [packB_get _ j (by rw [hl]; omega)]
    by_cases e : l.length / 8 = j
    · subst e; rw [if_pos rfl, if_pos (by rw [packB_length]; exact hj)]
    · rw [if_neg e, packB_get _ j hj, byteN_far l b j (by omega)]
  · rw [List.getElem?_eq_none (by rw [packB_length, hl]; omega), if_neg (by omega), List.getElem?_eq_none (by rw [packB_length]; omega)]
theorem packB_more (l : List Bool) (b : Bool) (h : l.length % 8 = 0) : packB (l ++ [b]) = packB l ++ [UInt8.ofNat (byteN (l ++ [b]) (l.length / 8))] := by
  have hl : (l ++ [b]).length = l.length + 1 := by simp
  have e : ((l ++ [b]).length + 7) / 8 = (l.length + 7) / 8 + 1 := by rw [hl]; omega
  unfold packB
  rw [e, List.range_succ, List.map_append]
  have e2 : (l.length + 7) / 8 = l.length / 8 := by omega
  rw [e2]
  congr 1
  refine List.map_congr_left fun j hj => ?_
  rw [byteN_far l b j (by have := List.mem_range.1 hj; omega)]
theorem packB_or (l : List Bool) (b : Bool) : bits .or .u8 (byteN l (l.length / 8) : Nat) (b.toNat * 2 ^ (7 - l.length % 8) : Nat) = (byteN (l ++ [b]) (l.length / 8) : Nat) := by
  obtain ⟨h1, m, h2⟩ := byteN_near l b
  have h3 := byteN_lt l (l.length / 8)
  have h4 := byteN_lt (l ++ [b]) (l.length / 8)
  have hr : l.length % 8 < 8 := Nat.mod_lt _ (by decide)
  have hp : b.toNat * 2 ^ (7 - l.length % 8) < 2 ^ (8 - l.length % 8) := by
    rw [show 8 - l.length % 8 = (7 - l.length % 8) + 1 by omega, Nat.pow_succ]
    have := Nat.two_pow_pos (7 - l.length % 8)
    cases b <;> simp <;> omega
  have h5 : b.toNat * 2 ^ (7 - l.length % 8) < 256 := by omega
  rw [u8_or_nat _ _ h3 h5, h1, h2]
  have := or_add (a := b.toNat * 2 ^ (7 - l.length % 8)) (b := m) (k := 8 - l.length % 8) hp
  rw [Nat.or_comm, this, Nat.add_comm]
end Go.Proofs.Ytnhbeddmphlieaa
