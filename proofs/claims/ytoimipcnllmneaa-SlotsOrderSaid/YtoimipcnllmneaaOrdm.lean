/-
  Places, what was put there, and who got it: what stays, whatever is put and got. No Go in sight.
-/
import Derived.Test.YtoimipcnllmneaaSlm
namespace Go.Proofs.Ytoimipcnllmneaa
open Go.RowKit
set_option linter.unusedVariables false
set_option linter.unusedSimpArgs false
theorem sub_bit0 : ∀ n : Nat, n < 256 → ∀ j : Nat, j < 8 → ∀ i : Nat, i < 8 → (hasBit (n : Int) j = true ∧ i ≠ j) → hasBit ((n : Int) - 2 ^ j) i = hasBit (n : Int) i := by decide +kernel
theorem sub_bit1 : ∀ n : Nat, n < 256 → ∀ j : Nat, j < 8 → hasBit (n : Int) j = true → hasBit ((n : Int) - 2 ^ j) j = false := by decide +kernel
theorem slX_set3 {L : List Sl} (h : 1 ≤ L.length) (t t2 : Nat) (y : Sl) : slX (L.set (t % L.length) y) t2 = if t2 % L.length = t % L.length then y else slX L t2 := by
  unfold slX
  rw [List.length_set, List.getD_eq_getElem?_getD, List.getD_eq_getElem?_getD]
  by_cases e : t2 % L.length = t % L.length
  · rw [if_pos e, e, List.getElem?_set_self (Nat.mod_lt _ (by omega))]; rfl
  · rw [if_neg e, List.getElem?_set_ne (fun h => e h.symm)]
/-- What was put (P), who got what (G), and how the places stand. -/
structure Ord (r : Nat) (L : List Sl) (Pf : Nat → Option Nat) (Gf : Int → Nat → Bool) : Prop where
  put : ∀ t v, Pf t = some v → t < 4611686018427387904 ∧ 2 * t + 1 ≤ (slX L t).s
  held : ∀ t, (slX L t).s = 2 * t + 1 → Pf t = some (slX L t).v
  got : ∀ j t, Gf j t = true → 0 ≤ j ∧ j < (r : Int) ∧ (2 * t + 1 < (slX L t).s ∨ (slX L t).s = 2 * t + 1 ∧ hasBit (slX L t).l j.toNat = false)
theorem Ord.new (p r : Nat) (hp : 1 ≤ p) : Ord r (newS p) (fun _ => none) (fun _ _ => false) where
  put t v h := by cases h
  held t h := by
    exfalso
    have hg := slX_get (L := newS p) (by rw [newS_length]; omega) t
    have hm := List.mem_of_getElem? hg
    obtain ⟨i, _, hi⟩ := List.mem_map.1 hm
    rw [← hi] at h
    simp only at h
    omega
  got j t h := by cases h
theorem slX_mod {L : List Sl} {t t2 : Nat} (h : t2 % L.length = t % L.length) : slX L t2 = slX L t := by unfold slX; rw [h]
theorem Ord.fresh {r : Nat} {L : List Sl} {Pf : Nat → Option Nat} {Gf : Int → Nat → Bool} (h : Ord r L Pf Gf) {t : Nat} (he : putE L t = 0) : Pf t = none := by
  cases hp : Pf t with
  | none => rfl
  | some v =>
    obtain ⟨_, h2⟩ := h.put t v hp
    unfold putE at he
    split at he
    · exact absurd he (by decide)
    · split at he
      · exact absurd he (by decide)
      · split at he
        · exact absurd he (by decide)
        · omega
theorem putE_ok {L : List Sl} {t : Nat} (he : putE L t = 0) : t < 4611686018427387904 ∧ (slX L t).s = 2 * t := by
  unfold putE at he
  split at he
  · exact absurd he (by decide)
  · split at he
    · exact absurd he (by decide)
    · split at he
      · exact absurd he (by decide)
      · omega
theorem Ord.putS {r : Nat} {L : List Sl} {Pf : Nat → Option Nat} {Gf : Int → Nat → Bool} (h : Ord r L Pf Gf) (hl : 1 ≤ L.length) {t : Nat} (v : Nat) (he : putE L t = 0) : Ord r (putS r L t v) (fun x => if x = t then some v else Pf x) Gf := by
  obtain ⟨ht, hs⟩ := putE_ok he
  have e1 : Go.Proofs.Ytoimipcnllmneaa.putS r L t v = L.set (t % L.length) ⟨2 * t + 1, v, everyN r⟩ := by unfold Go.Proofs.Ytoimipcnllmneaa.putS; rw [if_pos he]
  rw [e1]
  refine ⟨fun x u hx => ?_, fun x hx => ?_, fun j x hx => ?_⟩
  · rw [slX_set3 hl]
    by_cases e : x = t
    · subst e; rw [if_pos rfl]; exact ⟨ht, Nat.le_refl _⟩
    · simp only [if_neg e] at hx
      obtain ⟨a, b⟩ := h.put x u hx
      refine ⟨a, ?_⟩
      split
      · rename_i hm; rw [slX_mod hm] at b; simp only; omega
      · exact b
  · rw [slX_set3 hl] at hx ⊢
    split at hx
    · rename_i hm
      rw [if_pos hm]
      have e : x = t := by simp only at hx; omega
      simp only [if_pos e]
    · rename_i hm
      rw [if_neg hm]
      have e : x ≠ t := fun e => hm (by rw [e])
      simp only [if_neg e]
      exact h.held x hx
  · obtain ⟨a, b, c⟩ := h.got j x hx
    refine ⟨a, b, ?_⟩
    rw [slX_set3 hl]
    split
    · rename_i hm
      rw [slX_mod hm, hs] at c
      left; simp only; omega
    · exact c
/-- What a reader gets was put, and it hadn't got it. -/
theorem Ord.can {r : Nat} {L : List Sl} {Pf : Nat → Option Nat} {Gf : Int → Nat → Bool} (h : Ord r L Pf Gf) {j : Int} {t : Nat} (he : getE r L j t = 0) : Pf t = some (slX L t).v ∧ Gf j t = false ∧ getV r L j t = (slX L t).v := by
  obtain ⟨h1, h2, h3, h4, h5⟩ := getE_ok he
  refine ⟨h.held t h4, ?_, by unfold getV; rw [if_pos he]⟩
  cases hg : Gf j t with
  | false => rfl
  | true =>
    obtain ⟨_, _, c⟩ := h.got j t hg
    rcases c with c | ⟨_, c⟩
    · omega
    · rw [h5] at c; cases c
theorem Ord.getS {r : Nat} {L : List Sl} {Pf : Nat → Option Nat} {Gf : Int → Nat → Bool} (h : Ord r L Pf Gf) (hok : SlOk r L) {j : Int} {t : Nat} (he : getE r L j t = 0) : Ord r (getS r L j t) Pf (fun i x => if i = j ∧ x = t then true else Gf i x) := by
  obtain ⟨h1, h2, h3, h4, h5⟩ := getE_ok he
  have hl : 1 ≤ L.length := hok.1
  have e1 : Go.Proofs.Ytoimipcnllmneaa.getS r L j t = L.set (t % L.length) (gotX L.length (slX L t) j.toNat t) := by unfold Go.Proofs.Ytoimipcnllmneaa.getS; rw [if_pos he]
  rw [e1]
  obtain ⟨_, _, o3, o4⟩ := slX_ok hok t
  have o5 := everyN_pos hok.2.2.2.1
  have o6 := hok.2.2.2.1
  obtain ⟨n, hn⟩ : ∃ n : Nat, (slX L t).l = n := ⟨(slX L t).l.toNat, by omega⟩
  have hnb : n < 256 := by omega
  have hj8 : j.toNat < 8 := by omega
  rw [hn] at h5
  generalize hx : slX L t = X at *
  refine ⟨fun x u hx2 => ?_, fun x hx2 => ?_, fun i x hx2 => ?_⟩
  · obtain ⟨a, b⟩ := h.put x u hx2
    refine ⟨a, ?_⟩
    rw [slX_set3 hl]
    split
    · rename_i hm
      rw [slX_mod hm, hx] at b
      unfold gotX
      split <;> (simp only; omega)
    · exact b
  · rw [slX_set3 hl] at hx2 ⊢
    split at hx2
    · rename_i hm
      rw [if_pos hm]
      unfold gotX at hx2 ⊢
      split at hx2
      · simp only at hx2; omega
      · rename_i hz
        rw [if_neg hz]
        simp only at hx2 ⊢
        have e : x = t := by omega
        have := h.held x (by rw [slX_mod hm, hx]; exact hx2)
        rw [slX_mod hm, hx] at this
        exact this
    · rename_i hm
      rw [if_neg hm]
      exact h.held x hx2
  · rw [slX_set3 hl]
    by_cases e : i = j ∧ x = t
    · obtain ⟨rfl, rfl⟩ := e
      refine ⟨h2, h3, ?_⟩
      rw [if_pos rfl]
      unfold gotX
      split
      · left; simp only; omega
      · right
        refine ⟨h4, ?_⟩
        simp only
        rw [hn]
        exact sub_bit1 n hnb _ hj8 h5
    · simp only [if_neg e] at hx2
      obtain ⟨a, b, c⟩ := h.got i x hx2
      refine ⟨a, b, ?_⟩
      split
      · rename_i hm
        rw [slX_mod hm, hx] at c
        unfold gotX
        split
        · left; simp only; omega
        · simp only
          rcases c with c | ⟨c, d⟩
          · exact .inl c
          · refine .inr ⟨c, ?_⟩
            have ext : x = t := by omega
            have hij : i.toNat ≠ j.toNat := fun e2 => e ⟨by omega, ext⟩
            rw [hn] at d ⊢
            rw [sub_bit0 n hnb _ hj8 _ (by omega) ⟨h5, hij⟩]
            exact d
      · exact c
end Go.Proofs.Ytoimipcnllmneaa
