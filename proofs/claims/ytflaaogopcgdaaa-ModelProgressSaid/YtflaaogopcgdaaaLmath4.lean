/-
  Whatever isn't done is pending: kept by each step. No Go in sight.
-/
import Derived.Test.YtflaaogopcgdaaaLmath3
namespace Go.Proofs.Ytflaaogopcgdaaa
open Go.RowKit
set_option linter.unusedVariables false
set_option linter.unusedSimpArgs false
theorem mem_set_keep {P : List Pd} {m : Nat} {p0 p p' : Pd} (hm : P[m]? = some p0) (hp : p ∈ P) (hne : p ≠ p0) : p ∈ P.set m p' := by
  obtain ⟨i, hi⟩ := List.mem_iff_getElem?.1 hp
  have him : m ≠ i := fun e => by
    subst e
    rw [hm] at hi
    injection hi with hi
    exact hne hi.symm
  exact List.mem_iff_getElem?.2 ⟨i, by rw [List.getElem?_set_ne him]; exact hi⟩
theorem mem_set_self {P : List Pd} {m : Nat} {p0 p' : Pd} (hm : P[m]? = some p0) : p' ∈ P.set m p' :=
  List.mem_iff_getElem?.2 ⟨m, List.getElem?_set_self (List.getElem?_eq_some_iff.1 hm).1⟩
theorem set_self {P : List Pd} {m : Nat} {p : Pd} (hm : P[m]? = some p) : P.set m p = P := by
  apply List.ext_getElem?
  intro i
  rw [List.getElem?_set]
  split
  · rename_i h
    subst h
    rw [hm, if_pos (List.getElem?_eq_some_iff.1 hm).1]
  · rfl
theorem Whole.claim {R : Rg} {P : List Pd} (hw : Whole R P) (hE : claimE R = 0) {m : Nat} {p0 : Pd} (hm : P[m]? = some p0) (h0 : p0.k = 0) (v : Nat) : Whole (claimR R) (P.set m ⟨1, 0, R.tail, v⟩) := by
  have hcr : claimR R = { R with tail := R.tail + 1 } := by unfold claimR; rw [if_pos hE]
  rw [hcr]
  refine ⟨fun t ht hu => ?_, fun j t hr hh hu => ?_⟩
  · simp only at ht
    by_cases e : t = R.tail
    · exact ⟨_, mem_set_self hm, rfl, e.symm⟩
    · obtain ⟨p, hp, hk, hpt⟩ := hw.1 t (by omega) hu
      exact ⟨p, mem_set_keep hm hp (fun e2 => by subst e2; omega), hk, hpt⟩
  · obtain ⟨p, hp, hk, hpj, hpt⟩ := hw.2 j t hr hh hu
    exact ⟨p, mem_set_keep hm hp (fun e2 => by subst e2; omega), hk, hpj, hpt⟩
theorem Whole.take {R : Rg} {P : List Pd} (hw : Whole R P) (h8 : R.h8.length = 8) {j : Int} (hE : takeE R j = 0) (hrd : R.rd ≤ 8) {m : Nat} {p0 : Pd} (hm : P[m]? = some p0) (h0 : p0.k = 0) (v : Nat) : Whole (takeR R j) (P.set m ⟨2, j, takeV R j, v⟩) := by
  obtain ⟨hrj, _⟩ := takeE_ok hE
  obtain ⟨j0, j1⟩ := of_decide_eq_true hrj
  have hV : takeV R j = headN R j := by unfold takeV; rw [if_pos hE]
  have hcr : takeR R j = { R with h8 := R.h8.set j.toNat (headN R j + 1) } := by unfold takeR; rw [if_pos hE]
  rw [hcr, hV]
  refine ⟨fun t ht hu => ?_, fun i t hr hh hu => ?_⟩
  · obtain ⟨p, hp, hk, hpt⟩ := hw.1 t ht hu
    exact ⟨p, mem_set_keep hm hp (fun e2 => by subst e2; omega), hk, hpt⟩
  · obtain ⟨i0, i1⟩ := of_decide_eq_true hr
    have hi1 : i < (R.rd : Int) := i1
    by_cases e : i = j
    · subst e
      have hself : headN { R with h8 := R.h8.set i.toNat (headN R i + 1) } i = headN R i + 1 := by
        show (R.h8.set i.toNat (headN R i + 1)).getD i.toNat 0 = _
        rw [List.getD_eq_getElem?_getD, List.getElem?_set_self (by omega)]; rfl
      rw [hself] at hh
      by_cases e2 : t = headN R i
      · exact ⟨_, mem_set_self hm, rfl, rfl, e2.symm⟩
      · obtain ⟨p, hp, hk, hpj, hpt⟩ := hw.2 i t hr (by omega) hu
        exact ⟨p, mem_set_keep hm hp (fun e2 => by subst e2; omega), hk, hpj, hpt⟩
    · have hoth : headN { R with h8 := R.h8.set j.toNat (headN R j + 1) } i = headN R i := by
        show (R.h8.set j.toNat (headN R j + 1)).getD i.toNat 0 = R.h8.getD i.toNat 0
        rw [List.getD_eq_getElem?_getD, List.getD_eq_getElem?_getD, List.getElem?_set_ne (by omega)]
      rw [hoth] at hh
      obtain ⟨p, hp, hk, hpj, hpt⟩ := hw.2 i t hr hh hu
      exact ⟨p, mem_set_keep hm hp (fun e2 => by subst e2; omega), hk, hpj, hpt⟩
theorem Whole.publish {R : Rg} {M : Md} {all : List Int} {P : List Pd} (h : Lin R M all) (ht : R.tail ≤ 1000) (hw : Whole R P) {j : Int} {t v : Nat} (htt : t < R.tail) (h0 : pubE R t = 0) {m : Nat} (hm : P[m]? = some ⟨1, j, t, v⟩) : Whole (pubR R t v) (P.set m ⟨0, 0, 0, 0⟩) := by
  obtain ⟨l1, l2, l3, l4⟩ := h.len
  have hpe : pubE R t = putE R.L t := by unfold pubE; rw [if_neg (by omega)]
  have hx : (slX R.L t).s = 2 * t := by
    rw [hpe] at h0
    unfold putE at h0
    rw [if_neg (by omega)] at h0
    split at h0
    · omega
    · split at h0
      · omega
      · omega
  have hpr : pubR R t v = { R with L := R.L.set (t % R.L.length) ⟨2 * t + 1, v, everyN R.rd⟩ } := by
    unfold pubR; rw [if_neg (by omega)]; unfold putS; rw [if_pos (by rw [← hpe]; exact h0)]
  rw [hpr]
  have hnew : ∀ t2, slX (R.L.set (t % R.L.length) ⟨2 * t + 1, v, everyN R.rd⟩) t2 = if t2 % R.L.length = t % R.L.length then ⟨2 * t + 1, v, everyN R.rd⟩ else slX R.L t2 := fun t2 => slX_set l1 t t2 _
  refine ⟨fun t2 ht2 hu => ?_, fun i t2 hr hh hu => ?_⟩
  · unfold Unpub at hu
    simp only at hu
    rw [hnew] at hu
    have hne : t2 ≠ t ∧ Unpub R t2 := by
      unfold Unpub
      by_cases e : t2 % R.L.length = t % R.L.length
      · rw [if_pos e] at hu
        rw [slX_same e, hx]
        simp only at hu
        omega
      · rw [if_neg e] at hu
        exact ⟨fun e2 => e (by rw [e2]), hu⟩
    obtain ⟨p, hp, hk, hpt⟩ := hw.1 t2 ht2 hne.2
    exact ⟨p, mem_set_keep hm hp (fun e2 => by subst e2; exact hne.1 hpt.symm), hk, hpt⟩
  · have hur : Unrel R i t2 := by
      unfold Unrel at hu ⊢
      simp only at hu
      rw [hnew] at hu
      by_cases e : t2 % R.L.length = t % R.L.length
      · rw [if_pos e] at hu
        rw [slX_same e, hx]
        simp only at hu
        left; omega
      · rw [if_neg e] at hu; exact hu
    obtain ⟨p, hp, hk, hpj, hpt⟩ := hw.2 i t2 hr hh hur
    exact ⟨p, mem_set_keep hm hp (fun e2 => by subst e2; simp at hk), hk, hpj, hpt⟩
theorem Whole.release {R : Rg} {M : Md} {all : List Int} {P : List Pd} (h : Lin R M all) (hw : Whole R P) {j : Int} {t v : Nat} (hth : t < headN R j) (hrj : readsB R j = true) (h0 : relE R j t = 0) {m : Nat} (hm : P[m]? = some ⟨2, j, t, v⟩) : Whole (relR R j t) (P.set m ⟨0, 0, 0, 0⟩) := by
  obtain ⟨l1, l2, l3, l4⟩ := h.len
  obtain ⟨j0, j1⟩ := of_decide_eq_true hrj
  have hg : getE R.rd R.L j t = 0 := by rw [← relE_in hrj (by omega)]; exact h0
  obtain ⟨_, _, _, ks, kb⟩ := getE_ok hg
  have hxok := slX_ok h.1.ok.2.1 t
  have hrr : relR R j t = { R with L := R.L.set (t % R.L.length) (gotX R.L.length (slX R.L t) j.toNat t) } := by
    unfold relR; rw [if_pos h0]; unfold getS; rw [if_pos hg]
  rw [hrr]
  have hnew : ∀ t2, slX (R.L.set (t % R.L.length) (gotX R.L.length (slX R.L t) j.toNat t)) t2 = if t2 % R.L.length = t % R.L.length then gotX R.L.length (slX R.L t) j.toNat t else slX R.L t2 := fun t2 => slX_set l1 t t2 _
  have hgs : 2 * t + 1 ≤ (gotX R.L.length (slX R.L t) j.toNat t).s := by unfold gotX; split <;> simp only <;> omega
  refine ⟨fun t2 ht2 hu => ?_, fun i t2 hr hh hu => ?_⟩
  · unfold Unpub at hu
    simp only at hu
    rw [hnew] at hu
    have hne : Unpub R t2 := by
      unfold Unpub
      by_cases e : t2 % R.L.length = t % R.L.length
      · rw [if_pos e] at hu
        rw [slX_same e, ks]
        omega
      · rw [if_neg e] at hu; exact hu
    obtain ⟨p, hp, hk, hpt⟩ := hw.1 t2 ht2 hne
    exact ⟨p, mem_set_keep hm hp (fun e2 => by subst e2; simp at hk), hk, hpt⟩
  · obtain ⟨i0, i1⟩ := of_decide_eq_true hr
    have hi1 : i < (R.rd : Int) := i1
    have hur : Unrel R i t2 ∧ ¬ (i = j ∧ t2 = t) := by
      unfold Unrel at hu ⊢
      simp only at hu
      rw [hnew] at hu
      by_cases e : t2 % R.L.length = t % R.L.length
      · rw [if_pos e] at hu
        rw [slX_same e, ks]
        rcases hu with hu | ⟨hu, hb⟩
        · exact ⟨.inl (by omega), fun e2 => by omega⟩
        · unfold gotX at hu hb
          split at hu
          · simp only at hu; omega
          · rename_i hz
            rw [if_neg hz] at hb
            simp only at hu hb
            have e2 : t2 = t := by omega
            obtain ⟨o1, o2, o3, o4⟩ := hxok
            have ev := everyN_pos l4
            obtain ⟨n, hn⟩ : ∃ n : Nat, (slX R.L t).l = n := ⟨(slX R.L t).l.toNat, by omega⟩
            rw [hn] at hb kb
            have hij : i.toNat ≠ j.toNat := fun e3 => by
              rw [e3, no_bit n (by omega) j.toNat (by omega) kb] at hb
              exact absurd hb (by decide)
            have hsub := sub_bits n (by omega) j.toNat (by omega) kb i.toNat (by omega) hij
            rw [hb] at hsub
            exact ⟨.inr ⟨by omega, by rw [hn]; exact hsub.symm⟩, fun e3 => hij (by rw [e3.1])⟩
      · rw [if_neg e] at hu
        exact ⟨hu, fun e2 => e (by rw [e2.2])⟩
    obtain ⟨p, hp, hk, hpj, hpt⟩ := hw.2 i t2 hr hh hur.1
    exact ⟨p, mem_set_keep hm hp (fun e2 => by subst e2; exact hur.2 ⟨hpj.symm, hpt.symm⟩), hk, hpj, hpt⟩
end Go.Proofs.Ytflaaogopcgdaaa
