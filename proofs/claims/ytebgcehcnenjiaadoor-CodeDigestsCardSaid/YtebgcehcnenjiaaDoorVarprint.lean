/-
  Printing one number, and its size.
-/
import Derived.Test.YtebgcehcnenjiaaDoorVarint
namespace Go.Proofs.YtebgcehcnenjiaaDoor
open Go.RowKit
set_option linter.unusedVariables false
set_option linter.unusedSimpArgs false
theorem varintPrint (n : Nat) (w : World) (hn : n < M64) : Calls Tryd.prog 36 #[.int .u64 n] w fun e w' => e = .returned (.string (textB (enc n))) ∧ Below w.heap.size w w' := by
  go_enter Tryd.func36, Tryd.ntmps36
  go_wp2_with fail
  refine (varintGrow (.slice none 0 0) [] n w w.heap.size (Nat.le_refl _) (World.ownsRow_nil _ _ _ _) (by simp) hn).mono ?_
  rintro e w1 ⟨v, rfl, ho, hb⟩
  have hcv := convert_owned w1 _ v _ _ rfl ho
  clear ho
  go_wp2
  go_ret
  exact ⟨rfl, hb⟩
end Go.Proofs.YtebgcehcnenjiaaDoor
