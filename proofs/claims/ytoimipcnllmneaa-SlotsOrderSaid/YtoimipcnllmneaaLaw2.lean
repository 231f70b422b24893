import Derived.Test.YtoimipcnllmneaaLaw1
namespace Go.Proofs.Ytoimipcnllmneaa
open Go.RowKit
set_option linter.unusedVariables false
set_option linter.unusedSimpArgs false
theorem modK (x : Int) (k : Nat) (hk : 0 < k) (h64 : k ≤ 1099511627776) : ∃ a : Nat, a < k ∧ (IntKind.u64.wrap x).tmod (k : Int) = (a : Int) := by
  have h := IntKind.wrap_u64 x
  have h0 : 0 ≤ IntKind.u64.wrap x := by rw [h]; omega
  have e := Int.tmod_eq_emod_of_nonneg (b := (k : Int)) h0
  have h1 := Int.emod_nonneg (IntKind.u64.wrap x) (show (k : Int) ≠ 0 by omega)
  have h2 := Int.emod_lt_of_pos (IntKind.u64.wrap x) (show (0 : Int) < (k : Int) by omega)
  exact ⟨((IntKind.u64.wrap x).tmod (k : Int)).toNat, by omega, by omega⟩
theorem newS_get {p t : Nat} (h : t < p) : (newS p)[t]? = some ⟨2 * t, 0, 0⟩ := by simp [newS, h]
theorem slX_of {L : List Sl} {t i : Nat} {x : Sl} (h : t % L.length = i) (hx : L[i]? = some x) : slX L t = x := by
  unfold slX; rw [h, List.getD_eq_getElem?_getD, hx]; rfl
theorem once_math (p t m v : Nat) (hp : 1 ≤ p) (hp2 : p ≤ 64) (ht : t < p) (hm : m < 1000) :
    putE (newS p) t = 0 ∧ getE 2 (putS 2 (newS p) t v) 1 t = 0 ∧ putE (getS 2 (putS 2 (newS p) t v) 1 t) (t + p * m) = if m = 0 then 11 else 8 := by
  have hl := newS_length p
  have htm : t % p = t := Nat.mod_eq_of_lt ht
  have hx0 : slX (newS p) t = ⟨2 * t, 0, 0⟩ := slX_of (i := t) (by rw [hl]; exact htm) (newS_get ht)
  have h1 : putE (newS p) t = 0 := by unfold putE; rw [hx0]; simp only; rw [if_neg (by omega), if_neg (by omega), if_neg (by omega)]
  have h2 : putS 2 (newS p) t v = (newS p).set t ⟨2 * t + 1, v, 3⟩ := by unfold putS; rw [h1, if_pos rfl, hl, htm]; rfl
  have hl2 : ((newS p).set t ⟨2 * t + 1, v, 3⟩).length = p := by rw [List.length_set, hl]
  have hx1 : slX ((newS p).set t ⟨2 * t + 1, v, 3⟩) t = ⟨2 * t + 1, v, 3⟩ := slX_of (i := t) (by rw [hl2]; exact htm) (by rw [List.getElem?_set_self (by rw [hl]; exact ht)])
  have h3 : getE 2 ((newS p).set t ⟨2 * t + 1, v, 3⟩) 1 t = 0 := by
    unfold getE; rw [hx1]; simp only
    rw [if_neg (by omega), if_neg (by omega), if_neg (by rw [show hasBit 3 (1 : Int).toNat = true from by decide]; simp)]
  have h4 : getS 2 ((newS p).set t ⟨2 * t + 1, v, 3⟩) 1 t = (newS p).set t ⟨2 * t + 1, v, 1⟩ := by
    unfold getS; rw [h3, if_pos rfl, hl2, htm, hx1, List.set_set]; rfl
  have hl3 : ((newS p).set t ⟨2 * t + 1, v, 1⟩).length = p := by rw [List.length_set, hl]
  have hx2 : slX ((newS p).set t ⟨2 * t + 1, v, 1⟩) (t + p * m) = ⟨2 * t + 1, v, 1⟩ := slX_of (i := t) (by rw [hl3, Nat.add_mul_mod_self_left]; exact htm) (by rw [List.getElem?_set_self (by rw [hl]; exact ht)])
  rw [h2, h4]
  refine ⟨h1, h3, ?_⟩
  unfold putE
  rw [hx2]
  simp only
  have hX : p * m ≤ 64 * 999 := Nat.mul_le_mul hp2 (by omega)
  rw [if_neg (by omega)]
  by_cases h0 : m = 0
  · subst h0
    rw [Nat.mul_zero, Nat.add_zero, if_neg (by omega), if_pos (by omega), if_pos rfl]
  · have h1 : 1 * 1 ≤ p * m := Nat.mul_le_mul hp (by omega)
    rw [if_pos (by omega), if_neg h0]
set_option maxHeartbeats 2000000 in
set_option maxRecDepth 100000 in
theorem once_walk (a0 a1 a2 a3 : Int) (w : World) (w0 : (Lit.int .i64 a0).wf = true) (w1 : (Lit.int .u64 a1).wf = true) (w2 : (Lit.int .u64 a2).wf = true) (w3 : (Lit.int .u64 a3).wf = true) :
    Calls Try.prog 6 #[.int .i64 a0, .int .u64 a1, .int .u64 a2, .int .u64 a3] w fun e w' => e = .returned (.bool true) ∧ Below w.heap.size w w' := by
  obtain ⟨b1, b2⟩ := Go.bounds_u64 w1
  obtain ⟨b3, b4⟩ := Go.bounds_u64 w2
  obtain ⟨b5, b6⟩ := Go.bounds_u64 w3
  obtain ⟨a, ha, hae⟩ := modK a0 64 (by decide) (by decide)
  obtain ⟨p, hp⟩ : ∃ p, p = a + 1 := ⟨_, rfl⟩
  have hpe : 1 + (a : Int) = (p : Int) := by omega
  have hp1 : 1 ≤ p := by omega
  have hp2 : p ≤ 64 := by omega
  have hae : (IntKind.u64.wrap a0).tmod 64 = (a : Int) := hae
  have hwp : IntKind.u64.wrap (p : Int) = (p : Int) := by rw [IntKind.wrap_u64]; omega
  obtain ⟨t, ht, hte⟩ : ∃ t : Nat, t < p ∧ a1.tmod (p : Int) = (t : Int) := ⟨a1.toNat % p, Nat.mod_lt _ (by omega), by
    obtain ⟨n, rfl⟩ : ∃ n : Nat, a1 = n := ⟨a1.toNat, by omega⟩
    rfl⟩
  obtain ⟨m, hm, hme⟩ : ∃ m : Nat, m < 1000 ∧ a2.tmod 1000 = (m : Int) := ⟨a2.toNat % 1000, Nat.mod_lt _ (by omega), by
    obtain ⟨n, rfl⟩ : ∃ n : Nat, a2 = n := ⟨a2.toNat, by omega⟩
    rfl⟩
  obtain ⟨v, rfl⟩ : ∃ v : Nat, a3 = v := ⟨a3.toNat, by omega⟩
  obtain ⟨h1, h2, h3⟩ := once_math p t m v hp1 hp2 ht hm
  obtain ⟨X, hX⟩ : ∃ X, p * m = X := ⟨_, rfl⟩
  have hXl : X ≤ 64 * 999 := by rw [← hX]; exact Nat.mul_le_mul hp2 (by omega)
  have hXi : (p : Int) * (m : Int) = (X : Int) := by rw [← hX, Int.natCast_mul]
  rw [hX] at h3
  have hX0 : X = 0 ↔ m = 0 := by
    rw [← hX]
    constructor
    · intro h; rcases Nat.mul_eq_zero.1 h with h | h <;> omega
    · intro h; rw [h]; rfl
  have H1 := Lib.hid h1
  have H2 := Lib.hid h2
  have H3 := Lib.hid h3
  have HX0 := Lib.hid hX0
  clear w0 w1 w2 w3 h1 h2 h3 hX hp ha hX0
  go_enter Try.func6, Try.ntmps6
  go_wp2_with fail
  refine (slotsNew p 2 w hp1 hp2 (by omega) (by omega)).mono ?_
  rintro e w1 ⟨rfl, hs1, hb1⟩
  go_wp2_with fail
  refine (awake_any w1).mono ?_
  rintro e w2 ⟨rfl, hb⟩
  have hb2 := hb1.trans (hb.mono hb1.size)
  have hs2 := hs1.later hb
  clear hs1 hb1 hb
  go_wp2_with fail
  refine (slotsPut t v hs2 rfl (by omega) (by omega)).mono ?_
  rintro e w3 ⟨rfl, hs3, hk3⟩
  have hb3 := hb2.trans (hk3.below hb2.size (fun j hj (e : j = _) => by omega))
  rw [H1.out]
  clear hs2 hk3 hb2
  go_wp2_with fail
  refine (slotsGet 1 t hs3 rfl (by omega)).mono ?_
  rintro e w4 ⟨rfl, hs4, hk4⟩
  have hb4 := hb3.trans (hk4.below hb3.size (fun j hj (e : j = _) => by omega))
  rw [H2.out]
  clear hs3 hk4 hb3
  have hpt := slotsPut (t + X) v hs4 rfl (by omega) (by omega)
  rw [H3.out] at hpt
  have HPT := Lib.hid hpt
  clear hpt hs4 H1 H2 H3
  by_cases h0 : m = 0
  · have hx0 := HX0.out.2 h0
    subst hx0
    subst h0
    rw [if_pos rfl] at HPT
    go_wp2_with fail
    refine HPT.out.mono ?_
    rintro e w5 ⟨rfl, _, hk5⟩
    have hb5 := hb4.trans (hk5.below hb4.size (fun j hj (e : j = _) => by omega))
    go_wp2
    go_ret
    exact ⟨rfl, hb5⟩
  · have hx0 : ¬ X = 0 := fun h => h0 (HX0.out.1 h)
    rw [if_neg h0] at HPT
    have e1 : (((t : Int) + (X : Int)) == (t : Int)) = false := by rw [beq_eq_false_iff_ne]; omega
    clear h0 hx0
    go_wp2_with fail
    refine HPT.out.mono ?_
    rintro e w5 ⟨rfl, _, hk5⟩
    have hb5 := hb4.trans (hk5.below hb4.size (fun j hj (e : j = _) => by omega))
    go_wp2
    go_ret
    exact ⟨rfl, hb5⟩
end Go.Proofs.Ytoimipcnllmneaa
