/-
  Of what is pending, one can go on. No Go in sight.
-/
import Derived.Test.YtflaaogopcgdaaaLmath2
namespace Go.Proofs.Ytflaaogopcgdaaa
open Go.RowKit
set_option linter.unusedVariables false
set_option linter.unusedSimpArgs false
/-- A ticket that isn't published; a reader's that isn't released. -/
def Unpub (R : Rg) (t : Nat) : Prop := (slX R.L t).s ≤ 2 * t
def Unrel (R : Rg) (j : Int) (t : Nat) : Prop := (slX R.L t).s ≤ 2 * t ∨ ((slX R.L t).s = 2 * t + 1 ∧ hasBit (slX R.L t).l j.toNat = true)
/-- Whatever was claimed or taken, and isn't done, is pending. -/
def Whole (R : Rg) (P : List Pd) : Prop := (∀ t, t < R.tail → Unpub R t → ∃ p ∈ P, p.k = 1 ∧ p.t = t) ∧ ∀ j t, readsB R j = true → t < headN R j → Unrel R j t → ∃ p ∈ P, p.k = 2 ∧ p.j = j ∧ p.t = t
theorem some_bit : ∀ r : Nat, r < 9 → ∀ n : Nat, n < 256 → (0 < (n : Int) ∧ (n : Int) ≤ everyN r) → (List.range r).any (fun j => hasBit (n : Int) j) = true := by decide +kernel
theorem no_bit : ∀ n : Nat, n < 256 → ∀ j : Nat, j < 8 → hasBit (n : Int) j = true → hasBit ((n : Int) - 2 ^ j) j = false := by decide +kernel
theorem Whole.can {R : Rg} {M : Md} {all : List Int} {P : List Pd} (h : Lin R M all) (ht : R.tail ≤ 1000) (hok : ∀ p ∈ P, PdOk R all p) (hw : Whole R P) : ∀ t : Nat, (∃ p ∈ P, p.k ≠ 0 ∧ p.t = t) → ∃ p ∈ P, (p.k = 1 ∧ pubE R p.t = 0) ∨ (p.k = 2 ∧ relE R p.j p.t = 0) := by
  obtain ⟨l1, l2, l3, l4⟩ := h.len
  have send : ∀ t : Nat, (∀ m, m < t → (∃ p ∈ P, p.k ≠ 0 ∧ p.t = m) → ∃ p ∈ P, (p.k = 1 ∧ pubE R p.t = 0) ∨ (p.k = 2 ∧ relE R p.j p.t = 0)) → (∃ p ∈ P, p.k = 1 ∧ p.t = t) → ∃ p ∈ P, (p.k = 1 ∧ pubE R p.t = 0) ∨ (p.k = 2 ∧ relE R p.j p.t = 0) := by
    intro t ih ⟨p, hp, hk, hpt⟩
    subst hpt
    rcases hok p hp with h0 | ⟨_, hs⟩ | ⟨h2, _⟩
    · omega
    · by_cases hx : (slX R.L p.t).s = 2 * p.t
      · refine ⟨p, hp, .inl ⟨hk, ?_⟩⟩
        have := hs.1
        unfold pubE putE
        rw [if_neg (by omega), if_neg (by omega), if_neg (by omega), if_neg (by omega)]
      · have hlt : (slX R.L p.t).s < 2 * p.t := by have := hs.2.2; omega
        have hg := slX_get (by omega) p.t (L := R.L)
        have hst := of_decide_eq_true (h.1.stands _ _ hg)
        have hpl := h.1.place _ (List.mem_of_getElem? hg)
        obtain ⟨q, hq⟩ : ∃ q, (slX R.L p.t).s / 2 = q := ⟨_, rfl⟩
        rw [hq] at hst
        have hqt : q + R.L.length ≤ p.t := mod_next l1 hst.2.1.symm (by omega)
        have hsame : slX R.L q = slX R.L p.t := slX_same (by rw [hst.2.1])
        have hpt := hs.1
        by_cases he : (slX R.L p.t).s % 2 = 0
        · obtain ⟨r, hr, hrk, hrt⟩ := hw.1 q (by omega) (by unfold Unpub; rw [hsame]; omega)
          exact ih q (by omega) ⟨r, hr, by omega, hrt⟩
        · have hl := hst.2.2
          rw [if_neg he] at hl
          have ev := everyN_pos l4
          obtain ⟨n, hn⟩ : ∃ n : Nat, (slX R.L p.t).l = n := ⟨(slX R.L p.t).l.toNat, by omega⟩
          have hb := some_bit R.rd (by omega) n (by omega) (by omega)
          rw [List.any_eq_true] at hb
          obtain ⟨j, hj, hbj⟩ := hb
          have hj := List.mem_range.1 hj
          have hrd : readsB R (j : Int) = true := decide_eq_true ⟨by omega, by omega⟩
          by_cases hh : q < headN R (j : Int)
          · obtain ⟨r, hr, hrk, _, hrt⟩ := hw.2 j q hrd hh (.inr (by rw [hsame]; exact ⟨by omega, by rw [hn, Int.toNat_natCast]; exact hbj⟩))
            exact ih q (by omega) ⟨r, hr, by omega, hrt⟩
          · exfalso
            obtain ⟨g1, g2, g3⟩ := headN_get h.1.ok hrd
            have := h.1.room (headN R j) (by rw [List.mem_iff_getElem?]; exact ⟨j, by rw [List.getElem?_take, if_pos hj]; simpa using g1⟩)
            omega
    · omega
  intro t
  induction t using Nat.strongRecOn with
  | ind t ih =>
    intro ⟨p, hp, hk, hpt⟩
    rcases hok p hp with h0 | ⟨h1, _⟩ | ⟨h2, hs⟩
    · exact absurd h0 hk
    · exact send t ih ⟨p, hp, h1, hpt⟩
    · obtain ⟨s1, s2, s3, s4⟩ := hs
      subst hpt
      have htl : p.t < R.tail := by
        have := (List.getElem?_eq_some_iff.1 s3).1
        have := h.2.1
        omega
      rcases s4 with s4 | ⟨s4, s5⟩
      · obtain ⟨r, hr, hrk, hrt⟩ := hw.1 p.t htl s4
        exact send p.t ih ⟨r, hr, hrk, hrt⟩
      · refine ⟨p, hp, .inr ⟨h2, ?_⟩⟩
        obtain ⟨j0, j1⟩ := of_decide_eq_true s1
        rw [relE_in s1 (by omega)]
        unfold getE
        rw [if_neg (by omega), if_neg (by omega), if_neg (by rw [s5]; simp; omega)]
end Go.Proofs.Ytflaaogopcgdaaa
