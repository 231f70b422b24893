/-
  What is read of a number is its bytes: plain lists, no Go in sight.
-/
import Derived.Test.YtebgcehcnenjiaaDoorNums
namespace Go.Proofs.YtebgcehcnenjiaaDoor
open Go.RowKit
set_option linter.unusedVariables false
set_option linter.unusedSimpArgs false
theorem rdV_take : ∀ (f k v : Nat) (l : List UInt8), (rdV (f + 1) k v l).2.1 = 0 → ∃ n, (rdV (f + 1) k v l).1 = v + n * 128 ^ k ∧ (0 < k → 0 < n) ∧ l.take (rdV (f + 1) k v l).2.2 = leb f n
  | f, k, v, [], h => by simp [rdV] at h
  | f, k, v, b :: l, h => by
    cases hw : wrongB k b
    · by_cases hb : b.toNat < 128
      · rw [rdV_last _ _ _ _ _ hw hb]
        refine ⟨b.toNat, rfl, fun hk => ?_, ?_⟩
        · unfold wrongB at hw
          have h2 := of_decide_eq_false hw
          have : b ≠ 0 := fun e => h2 (.inl ⟨hk, e⟩)
          rcases Nat.eq_zero_or_pos b.toNat with h0 | h0
          · exact absurd (UInt8.toNat_inj.1 (by rw [h0]; rfl)) this
          · exact h0
        · rw [leb_small f _ hb, UInt8.ofNat_toNat]; rfl
      · rw [rdV_more _ _ _ _ _ hw hb] at h ⊢
        cases f with
        | zero => simp [rdV] at h
        | succ f =>
          obtain ⟨n, h1, h2, h3⟩ := rdV_take f (k + 1) _ l h
          have hn := h2 (by omega)
          have hb2 := b.toNat_lt
          refine ⟨(b.toNat - 128) + n * 128, ?_, fun _ => by omega, ?_⟩
          · simp only
            rw [h1, Nat.pow_succ, Nat.add_mul]
            rw [show n * 128 * 128 ^ k = n * (128 ^ k * 128) by ac_rfl]
            omega
          · simp only [List.take_succ_cons]
            rw [h3, leb_big f _ (by omega), show ((b.toNat - 128) + n * 128) % 128 + 128 = b.toNat by omega, show ((b.toNat - 128) + n * 128) / 128 = n by omega, UInt8.ofNat_toNat]
    · rw [rdV_wrong _ _ _ _ _ hw] at h; simp at h
theorem rd_take (l : List UInt8) (h : (rd l).2.1 = 0) : l.take (rd l).2.2 = enc (rd l).1 := by
  obtain ⟨n, h1, _, h3⟩ := rdV_take 9 0 0 l h
  unfold rd
  rw [h3, h1]
  simp [enc]
end Go.Proofs.YtebgcehcnenjiaaDoor
