/-
  Numbers in groups of seven bits, the lowest first: plain lists, no Go in sight.
-/
import Derived.Test.YtebgcehcnenjiaaDoorKit
namespace Go.Proofs.YtebgcehcnenjiaaDoor
open Go.RowKit
set_option linter.unusedVariables false
set_option linter.unusedSimpArgs false

/-- A number's bytes; f: how many more there may be. -/
def leb : Nat → Nat → List UInt8
  | 0, n => [UInt8.ofNat n]
  | f + 1, n => if n < 128 then [UInt8.ofNat n] else UInt8.ofNat (n % 128 + 128) :: leb f (n / 128)
/-- A number's bytes. -/
def enc (n : Nat) : List UInt8 := leb 9 n
def M64 : Nat := 18446744073709551616

theorem leb_small (f n : Nat) (h : n < 128) : leb f n = [UInt8.ofNat n] := by cases f <;> simp [leb, h]
theorem leb_big (f n : Nat) (h : ¬ n < 128) : leb (f + 1) n = UInt8.ofNat (n % 128 + 128) :: leb f (n / 128) := by simp [leb, h]
theorem leb_length (f n : Nat) : 1 ≤ (leb f n).length ∧ (leb f n).length ≤ f + 1 := by
  induction f generalizing n with
  | zero => simp [leb]
  | succ f ih =>
    by_cases h : n < 128
    · rw [leb_small _ _ h]; simp
    · rw [leb_big _ _ h, List.length_cons]; have := ih (n / 128); omega
theorem enc_length (n : Nat) : 1 ≤ (enc n).length ∧ (enc n).length ≤ 10 := leb_length 9 n
theorem leb_mono (f : Nat) : ∀ a b, a ≤ b → (leb f a).length ≤ (leb f b).length := by
  induction f with
  | zero => intro a b _; simp [leb]
  | succ f ih =>
    intro a b h
    by_cases ha : a < 128
    · rw [leb_small _ _ ha]; exact (leb_length _ _).1
    · rw [leb_big _ _ ha, leb_big _ _ (by omega), List.length_cons, List.length_cons]
      have := ih (a / 128) (b / 128) (Nat.div_le_div_right h)
      omega
theorem pow128_succ (f : Nat) : (128 : Nat) ^ (f + 1) = 128 ^ f * 128 := Nat.pow_succ 128 f
theorem lt_div (f n : Nat) (h : n < 128 ^ (f + 2)) : n / 128 < 128 ^ (f + 1) := by
  rw [Nat.pow_succ] at h
  rw [Nat.div_lt_iff_lt_mul (by decide)]
  exact h
theorem m64_lt : M64 ≤ 128 ^ 10 := by unfold M64; rw [show (128 : Nat) ^ 10 = 1180591620717411303424 by decide +kernel]; omega
/-- No number's bytes begin another one's. -/
theorem leb_prefix (f : Nat) : ∀ a b, a < 128 ^ (f + 1) → b < 128 ^ (f + 1) → ∀ r, leb f b = leb f a ++ r → a = b := by
  induction f with
  | zero =>
    intro a b ha hb r h
    simp [leb] at h
    have := congrArg UInt8.toNat h.1
    simp at this
    omega
  | succ f ih =>
    intro a b ha hb r h
    by_cases h1 : a < 128
    · rw [leb_small _ _ h1] at h
      by_cases h2 : b < 128
      · rw [leb_small _ _ h2] at h
        simp at h
        have := congrArg UInt8.toNat h.1
        simp at this
        omega
      · rw [leb_big _ _ h2] at h
        simp at h
        have := congrArg UInt8.toNat h.1
        simp at this
        omega
    · rw [leb_big _ _ h1] at h
      by_cases h2 : b < 128
      · rw [leb_small _ _ h2] at h
        simp at h
        have := congrArg UInt8.toNat h.1
        simp at this
        omega
      · rw [leb_big _ _ h2] at h
        rw [List.cons_append, List.cons.injEq] at h
        have hm := congrArg UInt8.toNat h.1
        simp at hm
        have := ih (a / 128) (b / 128) (lt_div _ _ ha) (lt_div _ _ hb) r h.2
        omega
theorem enc_prefix {a b : Nat} (ha : a < M64) (hb : b < M64) {r : List UInt8} (h : enc b = enc a ++ r) : a = b :=
  leb_prefix 9 a b (Nat.lt_of_lt_of_le ha m64_lt) (Nat.lt_of_lt_of_le hb m64_lt) r h
theorem enc_inj {a b : Nat} (ha : a < M64) (hb : b < M64) (h : enc b = enc a) : a = b := enc_prefix ha hb (r := []) (by simpa using h)

/-- Reading: the value so far is v, k bytes were read; f: how many more there may be. The number; an error; how many bytes were looked at. -/
def rdV : Nat → Nat → Nat → List UInt8 → Nat × Nat × Nat
  | 0, _, _, _ => (0, 3, 0)
  | _ + 1, _, _, [] => (0, 2, 0)
  | f + 1, k, v, b :: l =>
    if (0 < k ∧ b = 0) ∨ (k = 9 ∧ 1 < b.toNat) then (0, 3, 1)
    else if b.toNat < 128 then (v + b.toNat * 128 ^ k, 0, 1)
    else ((rdV f (k + 1) (v + (b.toNat - 128) * 128 ^ k) l).1, (rdV f (k + 1) (v + (b.toNat - 128) * 128 ^ k) l).2.1, (rdV f (k + 1) (v + (b.toNat - 128) * 128 ^ k) l).2.2 + 1)
/-- The number at the head of some bytes. -/
def rd (l : List UInt8) : Nat × Nat × Nat := rdV 10 0 0 l
theorem rdV_used (f : Nat) : ∀ k v l, (rdV f k v l).2.2 ≤ l.length := by
  induction f with
  | zero => intro k v l; simp [rdV]
  | succ f ih =>
    intro k v l
    cases l with
    | nil => simp [rdV]
    | cons b l =>
      rw [rdV]
      split
      · simp
      · split
        · simp
        · simp; exact ih _ _ _
/-- What is printed is read as it was. -/
theorem rdV_leb (f : Nat) : ∀ k v n r, f + k = 9 → n < 128 ^ (f + 1) → (k = 9 → n < 2) → (0 < k → 0 < n) → (n * 128 ^ k < M64) →
    rdV (f + 1) k v (leb f n ++ r) = (v + n * 128 ^ k, 0, (leb f n).length) := by
  induction f with
  | zero =>
    intro k v n r hk hn h9 h0 hm
    have hn2 : n < 2 := h9 (by omega)
    have hb : (UInt8.ofNat n).toNat = n := by simp; omega
    have hz : UInt8.ofNat n = 0 ↔ n = 0 := by
      constructor
      · intro h; have := congrArg UInt8.toNat h; rw [hb] at this; simpa using this
      · rintro rfl; rfl
    rw [leb, List.singleton_append, rdV, if_neg, if_pos (by rw [hb]; omega), hb]
    · rfl
    · rintro (⟨a, b⟩ | ⟨_, b⟩)
      · have := h0 a; rw [hz] at b; omega
      · rw [hb] at b; omega
  | succ f ih =>
    intro k v n r hk hn h9 h0 hm
    by_cases h : n < 128
    · have hb : (UInt8.ofNat n).toNat = n := by simp; omega
      have hz : UInt8.ofNat n = 0 ↔ n = 0 := by
        constructor
        · intro h; have := congrArg UInt8.toNat h; rw [hb] at this; simpa using this
        · rintro rfl; rfl
      rw [leb_small _ _ h, List.singleton_append, rdV, if_neg, if_pos (by rw [hb]; omega), hb]
      · rfl
      · rintro (⟨a, b⟩ | ⟨a, b⟩)
        · have := h0 a; rw [hz] at b; omega
        · omega
    · have hb : (UInt8.ofNat (n % 128 + 128)).toNat = n % 128 + 128 := by simp; omega
      have hz : UInt8.ofNat (n % 128 + 128) ≠ 0 := by
        intro h; have := congrArg UInt8.toNat h; rw [hb] at this; simp at this
      have hpow : n / 128 * 128 ^ (k + 1) ≤ n * 128 ^ k := by
        rw [pow128_succ, Nat.mul_comm (128 ^ k), ← Nat.mul_assoc]
        exact Nat.mul_le_mul_right _ (Nat.div_mul_le_self n 128)
      have hr := ih (k + 1) (v + n % 128 * 128 ^ k) (n / 128) r (by omega) (lt_div _ _ hn) (by
        intro h9'
        have : k = 8 := by omega
        subst this
        unfold M64 at hm
        have e : (128 : Nat) ^ 8 = 72057594037927936 := by decide
        rw [e] at hm
        omega) (by intro _; omega) (Nat.lt_of_le_of_lt hpow hm)
      rw [leb_big _ _ h, List.cons_append, rdV, if_neg, if_neg (by rw [hb]; omega), hb, Nat.add_sub_cancel, hr]
      · simp only [List.length_cons]
        congr 1
        rw [pow128_succ, Nat.mul_comm (128 ^ k), ← Nat.mul_assoc, Nat.add_assoc, ← Nat.add_mul]
        congr 2
        omega
      · rintro (⟨_, b⟩ | ⟨a, _⟩)
        · exact hz b
        · omega
theorem rd_enc (n : Nat) (r : List UInt8) (hn : n < M64) : rd (enc n ++ r) = (n, 0, (enc n).length) := by
  have := rdV_leb 9 0 0 n r rfl (Nat.lt_of_lt_of_le hn m64_lt) (by omega) (by omega) (by simpa using hn)
  simpa [rd, enc] using this
/-- A list's bytes. -/
def encs (l : List Nat) : List UInt8 := l.flatMap enc
def encList (l : List Nat) : List UInt8 := enc l.length ++ encs l
theorem encs_next {l : List Nat} {k n : Nat} (h : l[k]? = some n) : encs (l.take k) ++ enc n = encs (l.take (k + 1)) := by
  rw [List.take_add_one, h]; simp [encs]
theorem encs_length (l : List Nat) : (encs l).length ≤ 10 * l.length := by
  induction l with
  | nil => simp [encs]
  | cons n l ih => simp only [encs, List.flatMap_cons, List.length_append, List.length_cons] at *; have := (enc_length n).2; omega
theorem encs_cons (n : Nat) (l : List Nat) : encs (n :: l) = enc n ++ encs l := rfl
end Go.Proofs.YtebgcehcnenjiaaDoor
