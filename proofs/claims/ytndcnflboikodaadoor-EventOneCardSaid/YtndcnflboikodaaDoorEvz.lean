/-
  Lines that are events' (layer 15): what a line's words must be.
-/
import Derived.Test.YtndcnflboikodaaDoorEvy
namespace Go.Proofs.YtndcnflboikodaaDoor
open Go.RowKit
set_option linter.unusedVariables false
set_option linter.unusedSimpArgs false
theorem efN_get {s : ByteArray} (h : efN s ≠ 0) : 1 ≤ efN s ∧ efN s ≤ 15 ∧ evL.getD (efN s) ByteArray.empty = s := by
  unfold efN at h ⊢
  cases hf : (List.range' 1 15).find? (fun k => decide (evL.getD k ByteArray.empty = s)) with
  | none => rw [hf] at h; exact absurd rfl h
  | some k =>
    have h1 := List.find?_some hf
    have h2 := List.mem_range'_1.1 (List.mem_of_find?_eq_some hf)
    simp only [Option.getD_some]
    exact ⟨h2.1, by omega, of_decide_eq_true h1⟩
theorem efN_le (s : ByteArray) : efN s ≤ 15 := by
  by_cases h : efN s = 0
  · omega
  · exact (efN_get h).2.1
theorem evn_get {k : Int} (h : kindB k = true) : evnB k = evL.getD k.toNat ByteArray.empty := by unfold evnB; rw [if_pos h]
theorem efN_name {k : Int} (h : kindB k = true) : (efN (evnB k) : Int) = k := by
  have h2 := kindB_iff.1 h
  have := efN_at (s := evnB k) (i := k.toNat) (by omega) (by omega) (fun j h1 h3 e => by
    rw [evn_get h] at e
    have := evL_apart _ (by omega) _ (by omega) e
    omega) (evn_get h).symm
  rw [this]; omega
theorem kind_efN {s : ByteArray} (h : efN s ≠ 0) : kindB (efN s : Int) = true := by
  have := efN_get h
  exact kindB_iff.2 (by omega)
theorem name_efN {w : List UInt8} (h : efN (textB w) ≠ 0) : nameW (efN (textB w) : Int) = w := by
  have h2 := efN_get h
  have h3 : evnB (efN (textB w) : Int) = textB w := by rw [evn_get (kind_efN h), Int.toNat_natCast]; exact h2.2.2
  unfold nameW
  rw [h3]; simp [textB]
/-- The event of a line's words, as readLine reckons it. -/
noncomputable def rlX (K : Nat) (w0 : List UInt8) (fs : List (List UInt8)) : Ev := ⟨smI (numV w0), (K : Int), if ringB (K : Int) = true then smI (nxV fs 0) else 0, if ticketB (K : Int) = true then nxV fs 1 else 0, if valueB (K : Int) = true then nxV fs 0 else 0⟩
def rlC (K : Nat) : Nat := if ticketB (K : Int) = true then 2 else if ringB (K : Int) = true then 1 else if valueB (K : Int) = true then 1 else 0
noncomputable def rlO (K : Nat) (fs : List (List UInt8)) : Bool := if rlC K = 2 then nxB fs 1 (nxB fs 0 (K != 0)) else if rlC K = 1 then nxB fs 0 (K != 0) else (K != 0)
noncomputable def rlF (K : Nat) (w0 : List UInt8) (fs : List (List UInt8)) : Bool := rlO K fs && (numB w0 && ((rlC K == fs.length) && rightE (rlX K w0 fs)))
theorem smI_back {n : Nat} (h0 : 0 ≤ smI n) : (smI n).toNat = n ∧ smI n = (n : Int) := by
  unfold smI at h0 ⊢
  split
  · rename_i h; rw [if_pos h] at h0; omega
  · exact ⟨by omega, rfl⟩
theorem smI_small {n : Nat} (h : n ≤ 255) : smI n = (n : Int) := if_neg (by omega)
theorem one_of_length {α : Type} {l : List α} (h : l.length = 1) : ∃ a, l = [a] := List.length_eq_one_iff.1 h
theorem two_of_length {α : Type} {l : List α} (h : l.length = 2) : ∃ a b, l = [a, b] := by
  match l, h with
  | [a, b], _ => exact ⟨a, b, rfl⟩
theorem rl_sound {bs w0 w1 : List UInt8} {fs : List (List UInt8)} (hw : WordsOf 32 bs (w0 :: w1 :: fs)) (hF : rlF (efN (textB w1)) w0 fs = true) : rightE (rlX (efN (textB w1)) w0 fs) = true ∧ lineE (rlX (efN (textB w1)) w0 fs) = bs := by
  unfold rlF at hF
  simp only [Bool.and_eq_true, beq_iff_eq] at hF
  obtain ⟨hO, h0, hc, hR⟩ := hF
  refine ⟨hR, ?_⟩
  have hp := right_parts hR
  have hn1 := @name_efN w1
  have hsb0 := @smI_back (numV w0)
  generalize efN (textB w1) = K at *
  suffices h : evW (rlX K w0 fs) = w0 :: w1 :: fs by
    unfold lineE
    rw [h]; exact hw.join
  have hK : K ≠ 0 := fun h => by
    subst h
    have := hp.1
    have := kindB_iff.1 this
    simp [rlX] at this
  have hn := hn1 hK
  obtain ⟨hk, ⟨r1, r2, r3, r4, r5⟩, q1, q2, q3⟩ := hp
  unfold evW
  have e0 : decE (rlX K w0 fs).th.toNat = w0 := by
    show decE (smI (numV w0)).toNat = w0
    rw [(hsb0 r1).1, dec_numV h0]
  have e1 : nameW (rlX K w0 fs).kd = w1 := hn
  rw [e0, e1]
  congr 2
  unfold rlO at hO
  unfold rlC at hc hO
  unfold rlX at r3 r4 ⊢
  simp only at r3 r4 ⊢
  rcases kinds_apart (K : Int) with ⟨h1, h2, h3⟩ | ⟨h1, h2, h3⟩ | ⟨h1, h2, h3⟩ | ⟨h1, h2, h3⟩
  all_goals
    simp only [h1, h2, h3, if_true, if_false, Bool.false_eq_true] at hO hc r3 r4 ⊢
  · obtain ⟨f0, f1, rfl⟩ := two_of_length hc.symm
    rw [nxB_some _ (k := 1) (f := f1) rfl, nxB_some _ (k := 0) (f := f0) rfl] at hO
    rw [nxV_some (k := 0) (f := f0) rfl] at r3 r4 ⊢
    rw [nxV_some (k := 1) (f := f1) rfl]
    simp only [Bool.and_eq_true] at hO
    rw [(smI_back r3).1, dec_numV hO.1.2, dec_numV hO.2]; rfl
  · obtain ⟨f0, rfl⟩ := one_of_length hc.symm
    simp only [show ¬ (1 : Nat) = 2 by decide, if_false] at hO
    rw [nxB_some _ (k := 0) (f := f0) rfl] at hO
    rw [nxV_some (k := 0) (f := f0) rfl] at r3 r4 ⊢
    simp only [Bool.and_eq_true] at hO
    rw [(smI_back r3).1, dec_numV hO.2]; rfl
  · obtain ⟨f0, rfl⟩ := one_of_length hc.symm
    simp only [show ¬ (1 : Nat) = 2 by decide, if_false] at hO
    rw [nxB_some _ (k := 0) (f := f0) rfl] at hO
    rw [nxV_some (k := 0) (f := f0) rfl]
    simp only [Bool.and_eq_true] at hO
    rw [dec_numV hO.2]; rfl
  · rw [List.length_eq_zero_iff.1 hc.symm]; rfl
theorem rl_complete {bs : List UInt8} {ws : List (List UInt8)} (hw : WordsOf 32 bs ws) {y : Ev} (hy : rightE y = true) (hv : y.vl ≤ 18446744073709551615) (hl : lineE y = bs) :
    ∃ w0 w1 fs, ws = w0 :: w1 :: fs ∧ rlF (efN (textB w1)) w0 fs = true ∧ rlX (efN (textB w1)) w0 fs = y := by
  have hws : ws = evW y := joinW_inj hw.no (evW_no y (c := 32) (by decide)) hw.ne (by simp [evW]) (hw.join.trans hl.symm)
  have hR := hy
  obtain ⟨hk, ⟨r1, r2, r3, r4, r5⟩, q1, q2, q3⟩ := right_parts hy
  have hef : (efN (textB (nameW y.kd)) : Int) = y.kd := by rw [nameW_text]; exact efN_name hk
  have hkk := kindB_iff.1 hk
  obtain ⟨th, kd, rg, tk, vl⟩ := y
  simp only at *
  obtain ⟨tn, rfl⟩ : ∃ tn : Nat, th = tn := ⟨th.toNat, by omega⟩
  obtain ⟨rn, rfl⟩ : ∃ rn : Nat, rg = rn := ⟨rg.toNat, by omega⟩
  obtain ⟨K, rfl⟩ : ∃ K : Nat, kd = K := ⟨kd.toNat, by omega⟩
  have hef : efN (textB (nameW (K : Int))) = K := by omega
  unfold evW at hws
  simp only [Int.toNat_natCast] at hws
  refine ⟨_, _, _, hws, ?_⟩
  rw [hef]
  have hx : rlX K (decE tn) ((if ringB (K : Int) = true then [decE rn] else []) ++ ((if ticketB (K : Int) = true then [decE tk] else []) ++ (if valueB (K : Int) = true then [decE vl] else []))) = ⟨tn, K, rn, tk, vl⟩ ∧
      rlO K ((if ringB (K : Int) = true then [decE rn] else []) ++ ((if ticketB (K : Int) = true then [decE tk] else []) ++ (if valueB (K : Int) = true then [decE vl] else []))) = true ∧
      rlC K = ((if ringB (K : Int) = true then [decE rn] else []) ++ ((if ticketB (K : Int) = true then [decE tk] else []) ++ (if valueB (K : Int) = true then [decE vl] else []))).length := by
    have hK0 : (K != 0) = true := by rw [bne_iff_ne]; omega
    unfold rlX rlO rlC
    rw [numV_dec (by omega), smI_small (by omega)]
    rcases kinds_apart (K : Int) with ⟨h1, h2, h3⟩ | ⟨h1, h2, h3⟩ | ⟨h1, h2, h3⟩ | ⟨h1, h2, h3⟩
    all_goals
      simp only [h1, h2, h3, hK0, if_true, if_false, Bool.false_eq_true, false_or] at q1 q2 q3 ⊢
    · subst q3
      have z0 : ([decE rn] ++ ([decE tk] ++ []))[0]? = some (decE rn) := rfl
      have z1 : ([decE rn] ++ ([decE tk] ++ []))[1]? = some (decE tk) := rfl
      rw [nxV_some z0, nxV_some z1, nxB_some _ z1, nxB_some _ z0, numV_dec (by omega), numV_dec (by omega), numB_dec (by omega), numB_dec (by omega), smI_small (by omega)]
      exact ⟨rfl, rfl, rfl⟩
    · subst q2 q3
      have z0 : ([decE rn] ++ ([] ++ []))[0]? = some (decE rn) := rfl
      rw [nxV_some z0, nxB_some _ z0, numV_dec (by omega), numB_dec (by omega), smI_small (by omega)]
      exact ⟨rfl, rfl, rfl⟩
    · subst q2
      have : rn = 0 := by omega
      subst this
      have z0 : ([] ++ ([] ++ [decE vl]))[0]? = some (decE vl) := rfl
      rw [nxV_some z0, nxB_some _ z0, numV_dec (by omega), numB_dec (by omega)]
      exact ⟨rfl, rfl, rfl⟩
    · subst q2 q3
      have : rn = 0 := by omega
      subst this
      exact ⟨rfl, rfl, rfl⟩
  refine ⟨?_, hx.1⟩
  unfold rlF
  rw [hx.1, hx.2.1, hx.2.2, hR, numB_dec (by omega)]
  simp
/-- What readLine answers of a line. -/
def LnIs (bs : List UInt8) (x : Ev) (ok : Bool) : Prop := (ok = true ∧ rightE x = true ∧ lineE x = bs ∧ x.vl ≤ 18446744073709551615) ∨ (ok = false ∧ x = ⟨0, 0, 0, 0, 0⟩ ∧ ∀ y, rightE y = true → y.vl ≤ 18446744073709551615 → lineE y ≠ bs)
theorem ln_short {bs : List UInt8} {ws : List (List UInt8)} (hw : WordsOf 32 bs ws) (h : ws.length < 2) : LnIs bs ⟨0, 0, 0, 0, 0⟩ false :=
  .inr ⟨rfl, rfl, fun y hy hv hl => by
    obtain ⟨w0, w1, fs, rfl, _⟩ := rl_complete hw hy hv hl
    simp at h; omega⟩
theorem rlX_vl (K : Nat) (w0 : List UInt8) (fs : List (List UInt8)) : (rlX K w0 fs).vl ≤ 18446744073709551615 := by
  unfold rlX
  simp only
  split
  · have := nxV_lt fs 0; omega
  · omega
theorem ln_yes {bs w0 w1 : List UInt8} {fs : List (List UInt8)} (hw : WordsOf 32 bs (w0 :: w1 :: fs)) (h : rlF (efN (textB w1)) w0 fs = true) : LnIs bs (rlX (efN (textB w1)) w0 fs) true :=
  .inl ⟨rfl, (rl_sound hw h).1, (rl_sound hw h).2, rlX_vl _ _ _⟩
theorem ln_no {bs w0 w1 : List UInt8} {fs : List (List UInt8)} (hw : WordsOf 32 bs (w0 :: w1 :: fs)) (h : rlF (efN (textB w1)) w0 fs = false) : LnIs bs ⟨0, 0, 0, 0, 0⟩ false :=
  .inr ⟨rfl, rfl, fun y hy hv hl => by
    obtain ⟨w0', w1', fs', e, hF, _⟩ := rl_complete hw hy hv hl
    simp only [List.cons.injEq] at e
    obtain ⟨rfl, rfl, rfl⟩ := e
    rw [h] at hF; cases hF⟩
end Go.Proofs.YtndcnflboikodaaDoor
