/-
  What a ring that began empty keeps: it can be loaded as it stands.
-/
import Derived.Test.YtahojmioonpodaaRing9
namespace Go.Proofs.Ytahojmioonpodaa
open Go.RowKit
set_option linter.unusedVariables false
set_option linter.unusedSimpArgs false
theorem sub_bits0 : ∀ n : Nat, n < 256 → ∀ j : Nat, j < 8 → ∀ i : Nat, i < 8 → (hasBit (n : Int) j = true ∧ i ≠ j) → hasBit ((n : Int) - 2 ^ j) i = hasBit (n : Int) i := by decide +kernel
theorem sub_bits (n : Nat) (hn : n < 256) (j : Nat) (hj : j < 8) (h : hasBit n j = true) (i : Nat) (hi : i < 8) (hij : i ≠ j) : hasBit ((n : Int) - 2 ^ j) i = hasBit n i := sub_bits0 n hn j hj i hi ⟨h, hij⟩
theorem every_bits : ∀ r : Nat, r < 9 → ∀ j : Nat, j < r → hasBit (everyN r) j = true := by decide +kernel
theorem every_pos : ∀ r : Nat, r < 9 → 1 ≤ r → 0 < everyN r := by decide +kernel
theorem zero_bit : ∀ i : Nat, i < 8 → hasBit 0 i = false := by decide +kernel
theorem foldl_min_in (l : List Nat) : ∀ a, l.foldl min a = a ∨ l.foldl min a ∈ l := by
  induction l with
  | nil => intro a; exact .inl rfl
  | cons b l ih =>
    intro a
    rw [List.foldl_cons]
    rcases ih (min a b) with h | h
    · rw [h]
      rcases Nat.le_total a b with hab | hab
      · left; exact Nat.min_eq_left hab
      · right; rw [Nat.min_eq_right hab]; exact List.mem_cons_self
    · right; exact List.mem_cons_of_mem _ h
theorem foldl_min_memK (l : List Nat) : ∀ a, ∀ x ∈ l, l.foldl min a ≤ x := by
  induction l with
  | nil => intro a x hx; cases hx
  | cons b l ih =>
    intro a x hx
    rw [List.foldl_cons]
    rcases List.mem_cons.1 hx with rfl | hx
    · exact Nat.le_trans (foldl_min_le _ _) (Nat.min_le_right _ _)
    · exact ih _ x hx
theorem leastN_in {R : Rg} (h : RgOk R) : leastN R ∈ R.h8.take R.rd := by
  have h8 := h.1
  have hr := h.2.1.2.2.1
  have h0 : R.h8.getD 0 0 ∈ R.h8.take R.rd := by
    rw [List.mem_iff_getElem?]
    refine ⟨0, ?_⟩
    rw [List.getElem?_take, if_pos (by omega), List.getD_eq_getElem?_getD, List.getElem?_eq_getElem (by omega)]; rfl
  rcases foldl_min_in (R.h8.take R.rd) (R.h8.getD 0 0) with e | e
  · unfold leastN; rw [e]; exact h0
  · exact e
/-- What is kept. -/
structure Inv (R : Rg) : Prop where
  ok : RgOk R
  room : ∀ h ∈ R.h8.take R.rd, R.tail - h ≤ R.cap
  rest : R.h8 = R.h8.take R.rd ++ List.replicate (8 - R.rd) 0
  stands : ∀ i x, R.L[i]? = some x → standsB R.L.length R.rd i x = true
  place : ∀ x ∈ R.L, placeB R x = true
theorem Inv.loads {R : Rg} (h : Inv R) (ht : R.tail < 4611686018427387904) : loadsB R.cap R.rd R.tail R.cl (R.h8.take R.rd) R.L = true ∧ loadR R.cap R.rd R.tail R.cl (R.h8.take R.rd) R.L = R := by
  have h8 := h.ok.1
  have hr := h.ok.2.1.2.2.2.1
  have hl : (R.h8.take R.rd).length = R.rd := by rw [List.length_take]; omega
  have hR : loadR R.cap R.rd R.tail R.cl (R.h8.take R.rd) R.L = R := by
    unfold loadR
    rw [hl, ← h.rest]
  refine ⟨?_, hR⟩
  unfold loadsB
  rw [hR, hl, decide_eq_true rfl, Bool.true_and]
  simp only [Bool.and_eq_true]
  refine ⟨?_, ?_, ?_⟩
  · unfold loadB
    rw [Bool.and_eq_true, List.all_eq_true]
    refine ⟨decide_eq_true h.ok.2.2.1.symm, fun i hi => ?_⟩
    have hi := List.mem_range.1 hi
    rw [h.ok.2.2.1] at hi ⊢
    refine h.stands i _ ?_
    rw [List.getD_eq_getElem?_getD, List.getElem?_eq_getElem hi]; rfl
  · unfold cursB headsB
    simp only [Bool.and_eq_true, decide_eq_true_eq, List.all_eq_true]
    exact ⟨fun x hx => h.ok.2.2.2.2 x (List.mem_of_mem_take hx), ht, h.room _ (leastN_in h.ok)⟩
  · unfold slotsB
    rw [List.all_eq_true]
    exact h.place
theorem passB_iff (R : Rg) (t : Nat) (l : Int) : passB R t l = true ↔ ∀ j, j < R.rd → hasBit l j = true ∨ t < R.h8.getD j 0 := by
  unfold passB
  rw [List.all_eq_true]
  constructor
  · intro h j hj
    have := h j (List.mem_range.2 hj)
    simpa using this
  · intro h j hj
    have := h j (List.mem_range.1 hj)
    simpa using this
theorem placeB_iff (R : Rg) (x : Sl) : placeB R x = true ↔ (x.s % 2 = 1 ∧ x.s / 2 < R.tail ∧ passB R (x.s / 2) x.l = true) ∨ (x.s % 2 ≠ 1 ∧ (x.s / 2 < R.cap ∨ passB R (x.s / 2 - R.cap) 0 = true)) := by
  unfold placeB
  by_cases h : x.s % 2 = 1
  · rw [if_pos h]; simp [h]
  · rw [if_neg h]; simp [h]
/-- A place stands as well, where more was claimed and taken. -/
theorem placeB_mono {R R' : Rg} {x : Sl} (h : placeB R x = true) (hc : R'.cap = R.cap) (hr : R'.rd = R.rd) (ht : R.tail ≤ R'.tail) (hh : ∀ j, R.h8.getD j 0 ≤ R'.h8.getD j 0) : placeB R' x = true := by
  have hp : ∀ t l, passB R t l = true → passB R' t l = true := fun t l h => by
    rw [passB_iff] at h ⊢
    intro j hj
    rcases h j (by omega) with h | h
    · exact .inl h
    · exact .inr (Nat.lt_of_lt_of_le h (hh j))
  rw [placeB_iff] at h ⊢
  rw [hc]
  rcases h with ⟨h1, h2, h3⟩ | ⟨h1, h2⟩
  · exact .inl ⟨h1, by omega, hp _ _ h3⟩
  · exact .inr ⟨h1, h2.imp id (hp _ _)⟩
theorem Inv.new {cap rd : Nat} (h1 : 1 ≤ cap) (h2 : cap ≤ 64) (h3 : 1 ≤ rd) (h4 : rd ≤ 8) : Inv (newR cap rd) := by
  refine ⟨newR_ok h1 h2 h3 h4, fun h hh => by unfold newR; simp only; omega, ?_, fun i x hx => ?_, fun x hx => ?_⟩
  · unfold newR; simp only
    rw [show [0, 0, 0, 0, 0, 0, 0, 0] = List.replicate 8 0 from rfl, List.take_replicate, List.replicate_append_replicate, Nat.min_eq_left h4]
    congr 1; omega
  · unfold newR at hx ⊢
    simp only at hx ⊢
    have hi : i < cap := by have := (List.getElem?_eq_some_iff.1 hx).1; rwa [newS_length] at this
    rw [newS_length]
    have : x = ⟨2 * i, 0, 0⟩ := by
      unfold newS at hx
      simp [hi] at hx
      exact hx.symm
    subst this
    unfold standsB
    simp only
    refine decide_eq_true ⟨by omega, ?_, ?_⟩
    · rw [Nat.mul_div_cancel_left _ (by decide), Nat.mod_eq_of_lt hi]
    · rw [if_pos (by omega)]; exact ⟨trivial, trivial⟩
  · unfold newR at hx
    simp only at hx
    unfold newS at hx
    obtain ⟨i, hi, rfl⟩ := List.mem_map.1 hx
    have hi := List.mem_range.1 hi
    rw [placeB_iff]
    right
    simp only
    exact ⟨by omega, .inl (by unfold newR; simp only; omega)⟩
theorem Inv.claim {R : Rg} (h : Inv R) (ht : R.tail < 4611687117939015680) : Inv (claimR R) := by
  unfold claimR
  split
  · rename_i he
    have hok := claimR_ok h.ok ht
    unfold claimR at hok
    rw [if_pos he] at hok
    refine ⟨hok, fun x hx => ?_, h.rest, h.stands, fun x hx => placeB_mono (h.place x hx) rfl rfl (by simp) (fun j => Nat.le_refl _)⟩
    have hf : fullB R = false := by
      unfold claimE at he
      split at he
      · exact absurd he (by decide)
      · split at he
        · exact absurd he (by decide)
        · simpa using ‹¬ fullB R = true›
    unfold fullB at hf
    have hf := of_decide_eq_false hf
    have hlx : leastN R ≤ x := by
      unfold leastN
      exact foldl_min_memK _ _ x hx
    have := leastN_le h.ok
    simp only
    omega
  · exact h
theorem Inv.close {R : Rg} (h : Inv R) : Inv { R with cl := true } := ⟨h.ok, h.room, h.rest, h.stands, fun x hx => placeB_mono (h.place x hx) rfl rfl (Nat.le_refl _) (fun j => Nat.le_refl _)⟩
theorem take_getD {l : List Nat} {i x j : Nat} (hi : l[i]? = some x) : l.getD j 0 ≤ (l.set i (x + 1)).getD j 0 := by
  rw [List.getD_eq_getElem?_getD, List.getD_eq_getElem?_getD]
  by_cases e : i = j
  · subst e
    rw [List.getElem?_set_self (List.getElem?_eq_some_iff.1 hi).1, hi]
    simp
  · rw [List.getElem?_set_ne e]; exact Nat.le_refl _
theorem Inv.take {R : Rg} (h : Inv R) (j : Int) : Inv (takeR R j) := by
  have hok := takeR_ok h.ok j
  unfold takeR at hok ⊢
  split
  · rename_i he
    rw [if_pos he] at hok
    obtain ⟨hr, hne⟩ := takeE_ok he
    obtain ⟨g1, g2, g3⟩ := headN_get h.ok hr
    obtain ⟨j0, j1⟩ := of_decide_eq_true hr
    have hjr : j.toNat < R.rd := by omega
    refine ⟨hok, fun x hx => ?_, ?_, h.stands, fun x hx => placeB_mono (h.place x hx) rfl rfl (Nat.le_refl _) (fun i => take_getD g1)⟩
    · simp only at hx ⊢
      rw [List.take_set] at hx
      rcases List.mem_or_eq_of_mem_set hx with hx | rfl
      · exact h.room x hx
      · have := h.room (headN R j) (by rw [List.mem_iff_getElem?]; exact ⟨j.toNat, by rw [List.getElem?_take, if_pos hjr]; exact g1⟩)
        omega
    · simp only
      have h8 := h.ok.1
      rw [List.take_set]
      conv => lhs; rw [h.rest]
      rw [List.set_append_left _ _ (by rw [List.length_take]; omega)]
  · exact h
theorem mem_set_or {L : List Sl} {i : Nat} {y x : Sl} (h : x ∈ L.set i y) : x ∈ L ∨ x = y := List.mem_or_eq_of_mem_set h
theorem Inv.pub {R : Rg} (h : Inv R) (t v : Nat) (hv : v < 18446744073709551616) : Inv (pubR R t v) := by
  have hok := pubR_ok h.ok t v hv
  unfold pubR at hok ⊢
  split
  · exact h
  · rename_i hlt
    rw [if_neg hlt] at hok
    unfold putS at hok ⊢
    split
    · rename_i he
      rw [if_pos he] at hok
      have ht62 : t < 4611686018427387904 := by
        unfold putE at he
        by_cases ht : 4611686018427387904 ≤ t
        · rw [if_pos ht] at he; exact absurd he (by decide)
        · omega
      have hr1 := h.ok.2.1.2.2.1
      have hr2 := h.ok.2.1.2.2.2.1
      refine ⟨hok, h.room, h.rest, fun i x hx => ?_, fun x hx => ?_⟩
      · simp only at hx ⊢
        rw [List.length_set]
        rw [List.getElem?_set] at hx
        split at hx
        · rename_i hi
          split at hx
          · injection hx with hx
            subst hx
            unfold standsB
            simp only
            refine decide_eq_true ⟨by omega, ?_, ?_⟩
            · rw [show (2 * t + 1) / 2 = t by omega]; exact hi
            · rw [if_neg (by omega)]; exact ⟨every_pos _ (by omega) hr1, Int.le_refl _⟩
          · cases hx
        · exact h.stands i x hx
      · simp only at hx
        rcases mem_set_or hx with hx | rfl
        · exact placeB_mono (h.place x hx) rfl rfl (Nat.le_refl _) (fun j => Nat.le_refl _)
        · rw [placeB_iff]
          left
          simp only
          refine ⟨by omega, by omega, ?_⟩
          rw [passB_iff]
          exact fun j hj => .inl (every_bits _ (by omega) j hj)
    · exact ⟨h.ok, h.room, h.rest, h.stands, fun x hx => placeB_mono (h.place x hx) rfl rfl (Nat.le_refl _) (fun j => Nat.le_refl _)⟩
theorem Inv.rel {R : Rg} (h : Inv R) (j : Int) (t : Nat) (ht0 : R.tail < 4611686018427387000) : Inv (relR R j t) := by
  have hok := relR_ok h.ok j t
  unfold relR at hok ⊢
  split
  · rename_i he
    rw [if_pos he] at hok
    have hrd : readsB R j = true ∧ t < headN R j ∧ getE R.rd R.L j t = 0 := by
      unfold relE at he
      split at he
      · exact absurd he (by decide)
      · split at he
        · exact absurd he (by decide)
        · rename_i h1 h2
          exact ⟨by simpa using h1, by omega, he⟩
    obtain ⟨hr, hth, hg⟩ := hrd
    obtain ⟨g1, g2, g3⟩ := headN_get h.ok hr
    obtain ⟨j0, j1⟩ := of_decide_eq_true hr
    obtain ⟨k1, _, _, ks, kb⟩ := getE_ok hg
    have hht := h.ok.2.2.2.2 _ (List.mem_of_getElem? g1)
    have hx0 := slX_get h.ok.2.1.1 t
    have hxo := slX_ok h.ok.2.1 t
    have hst := h.stands _ _ hx0
    have hpl := h.place _ (List.mem_of_getElem? hx0)
    have hr1 := h.ok.2.1.2.2.1
    have hr2 := h.ok.2.1.2.2.2.1
    have hc := h.ok.2.2.1
    have hL := h.ok.2.1.2.1
    have hL1 := h.ok.2.1.1
    unfold getS at hok ⊢
    rw [if_pos hg] at hok ⊢
    generalize slX R.L t = x at *
    obtain ⟨o1, o2, o3, o4⟩ := hxo
    have ev := everyN_pos hr2
    have hle := hasBit_le o3 kb
    have hjn : j.toNat < R.rd := by omega
    have hhead : R.h8.getD j.toNat 0 = headN R j := rfl
    rw [placeB_iff] at hpl
    have hpl : passB R t x.l = true := by
      rcases hpl with ⟨_, _, h3⟩ | ⟨h1, _⟩
      · rwa [show x.s / 2 = t by omega] at h3
      · omega
    rw [passB_iff] at hpl
    obtain ⟨n, hn⟩ : ∃ n : Nat, x.l = n := ⟨x.l.toNat, by omega⟩
    have hsub := sub_bits n (by omega) j.toNat (by omega) (by rw [← hn]; exact kb)
    rw [← hn] at hsub
    have hpass : ∀ i, i < R.rd → hasBit (x.l - 2 ^ j.toNat) i = true ∨ t < R.h8.getD i 0 := fun i hi => by
      by_cases e : i = j.toNat
      · subst e; right; rw [hhead]; exact hth
      · rw [hsub i (by omega) e]; exact hpl i hi
    refine ⟨hok, h.room, h.rest, fun i y hy => ?_, fun y hy => ?_⟩
    · simp only at hy ⊢
      rw [List.length_set]
      rw [List.getElem?_set] at hy
      split at hy
      · rename_i hi
        split at hy
        · injection hy with hy
          subst hy
          unfold gotX standsB
          split
          · simp only
            refine decide_eq_true ⟨by omega, ?_, ?_⟩
            · rw [show 2 * (t + R.L.length) / 2 = t + R.L.length by omega, Nat.add_mod_right]; exact hi
            · rw [if_pos (by omega)]; exact ⟨trivial, trivial⟩
          · simp only
            refine decide_eq_true ⟨by omega, ?_, ?_⟩
            · rw [show x.s / 2 = t by omega]; exact hi
            · rw [if_neg (by omega)]; exact ⟨by omega, by have : (0 : Int) < 2 ^ j.toNat := Int.pow_pos (by decide); omega⟩
        · cases hy
      · exact h.stands i y hy
    · simp only at hy
      rcases mem_set_or hy with hy | rfl
      · exact placeB_mono (h.place y hy) rfl rfl (Nat.le_refl _) (fun j => Nat.le_refl _)
      · rw [placeB_iff]
        unfold gotX
        split
        · rename_i hz
          right
          simp only
          refine ⟨by omega, .inr ?_⟩
          rw [passB_iff]
          intro i hi
          have hi : i < R.rd := hi
          have := hpass i hi
          rw [hz, zero_bit i (by omega)] at this
          rcases this with h | h
          · exact absurd h (by decide)
          · right
            rw [show 2 * (t + R.L.length) / 2 - R.cap = t by omega]; exact h
        · left
          simp only
          refine ⟨by omega, by omega, ?_⟩
          rw [passB_iff, show x.s / 2 = t by omega]
          exact hpass
  · exact h
end Go.Proofs.Ytahojmioonpodaa
