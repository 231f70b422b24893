/-
  The document's number of digits (layer 15).
-/
import Derived.Test.YtndcnflboikodaaDoorEvd
namespace Go.Proofs.YtndcnflboikodaaDoor
open Go.RowKit
set_option linter.unusedVariables false
set_option linter.unusedSimpArgs false
def rnE (l : List UInt8) : Nat := l.foldl (fun n b => (10 * n + (b.toNat + 208) % 256) % 18446744073709551616) 0
theorem rnE_push (l : List UInt8) (b : UInt8) : rnE (l ++ [b]) = (10 * rnE l + (b.toNat + 208) % 256) % 18446744073709551616 := by simp [rnE]
theorem rnE_lt (l : List UInt8) : rnE l < 18446744073709551616 := by
  rcases List.eq_nil_or_concat l with rfl | ⟨r, b, rfl⟩
  · simp [rnE]
  · rw [List.concat_eq_append, rnE_push]; exact Nat.mod_lt _ (by decide)
theorem rnE_val : ∀ (n : Nat) (l : List UInt8), l.length = n → (∀ b ∈ l, isDg b) → valD l < 18446744073709551616 → rnE l = valD l := by
  intro n
  induction n with
  | zero => intro l h _ _; rw [List.length_eq_zero_iff.1 h]; rfl
  | succ n ih =>
    intro l h hd hv
    rcases List.eq_nil_or_concat l with rfl | ⟨r, b, rfl⟩
    · rfl
    · rw [List.concat_eq_append] at *
      have hb := hd b (by simp)
      unfold isDg at hb
      rw [valD_push] at hv
      rw [rnE_push, valD_push, ih r (by simp at h; exact h) (fun c hc => hd c (by simp [hc])) (by omega)]
      omega
theorem rnE_dec {m : Nat} (h : m < 18446744073709551616) : rnE (decE m) = m := by
  rw [rnE_val _ _ rfl (decE_num h).2.1 (by rw [decE_val h]; exact h), decE_val h]
set_option maxHeartbeats 8000000 in
set_option maxRecDepth 100000 in
theorem rfNum15 (bs : List UInt8) (w : World) (hbs : bs.length ≤ 140737488355328) :
    Calls Tryd.prog 42 #[.string (textB bs)] w fun e w' => e = .returned (.int .u64 ((rnE bs : Nat) : Int)) ∧ w = w' := by
  have HSZ : Hid ((textB bs).size = bs.length) := textB_size bs
  go_enter Tryd.func42, Tryd.ntmps42
  go_wp2_with fail
  go_loopw [3, 4] (fun u i wr => ∃ (k : Nat) (S : Int), k ≤ bs.length ∧ i = .int .i64 k ∧ u = .int .u64 S ∧ Hid (((rnE (bs.take k) : Nat) : Int) = S) ∧ 0 ≤ S ∧ S ≤ 18446744073709551615 ∧ wr = w) (fun _ i _ => bs.length - (intOf i).toNat)
  case atStart => exact ⟨0, 0, by omega, rfl, rfl, (by show _ = _; simp [rnE]), by omega, by omega, rfl⟩
  case round =>
    obtain ⟨k, S, hk, rfl, rfl, HS, hs0, hs1, rfl⟩ := hrel
    by_cases hlt : k < bs.length
    · obtain ⟨c2, hc2⟩ : ∃ c2, bs[k]? = some c2 := ⟨_, List.getElem?_eq_getElem hlt⟩
      have hki2 : (k : Int) < ((textB bs).size : Int) := by rw [HSZ.out]; omega
      have hx0 := text_get hc2 (by rw [HSZ.out]; exact hlt)
      have hxl := c2.toNat_lt
      have HNX : Hid (bs.take (k + 1) = bs.take k ++ [c2]) := by show _ = _; rw [List.take_add_one, hc2]; rfl
      have HVN : Hid (rnE (bs.take (k + 1)) = (10 * rnE (bs.take k) + (c2.toNat + 208) % 256) % 18446744073709551616) := by show _ = _; rw [HNX.out, rnE_push]
      clear hc2 HNX
      obtain ⟨x, hx⟩ : ∃ x, c2.toNat = x := ⟨_, rfl⟩
      rw [hx] at hx0 hxl HVN
      clear hx
      obtain ⟨D, hD⟩ : ∃ D : Int, IntKind.u8.wrap ((x : Int) - 48) = D := ⟨_, rfl⟩
      obtain ⟨T, hT⟩ : ∃ T : Int, IntKind.u64.wrap (10 * S) = T := ⟨_, rfl⟩
      obtain ⟨V, hV⟩ : ∃ V : Int, IntKind.u64.wrap (T + D) = V := ⟨_, rfl⟩
      have hD0 : 0 ≤ D ∧ D ≤ 255 := by rw [← hD, IntKind.wrap_u8]; omega
      have hwD : IntKind.u64.wrap D = D := by rw [IntKind.wrap_u64]; omega
      have hV0 : 0 ≤ V ∧ V ≤ 18446744073709551615 := by rw [← hV, IntKind.wrap_u64]; omega
      have HVI : Hid (((rnE (bs.take (k + 1)) : Nat) : Int) = V) := by
        have h1 := HS.out
        have h2 := hD
        have h3 := hT
        have h4 := hV
        rw [IntKind.wrap_u8] at h2
        rw [IntKind.wrap_u64] at h3 h4
        show _ = _
        rw [HVN.out]; omega
      clear HVN HS
      obtain ⟨hV1, hV2⟩ := hV0
      obtain ⟨hD1, hD2⟩ := hD0
      go_wp2
      go_roundw
      case rel => exact ⟨k + 1, V, by omega, by go_num, rfl, HVI, hV1, hV2, trivial⟩
      case measure => simp [intOf]; omega
    · obtain rfl : k = bs.length := by omega
      have HF : Hid (((rnE bs : Nat) : Int) = S) := by
        have := HS.out
        rwa [List.take_length] at this
      go_wp2
      go_ret
      exact ⟨ret_int HF.out.symm, rfl⟩
end Go.Proofs.YtndcnflboikodaaDoor
