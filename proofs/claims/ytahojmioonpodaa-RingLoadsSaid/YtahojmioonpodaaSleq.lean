/-
  Two places are told equal just if their cells are.
-/
import Derived.Test.YtahojmioonpodaaRows
import Derived.Test.YtahojmioonpodaaSlm
import Derived.Laws.StructEq
namespace Go.Proofs.Ytahojmioonpodaa
open Go.RowKit
set_option linter.unusedVariables false
set_option linter.unusedSimpArgs false
instance : DecidableEq Sl := fun a b => if h : a.s = b.s ∧ a.v = b.v ∧ a.l = b.l then isTrue (by cases a; cases b; simp_all) else isFalse (fun e => h (by rw [e]; simp))
theorem slotHeld : Try.prog.stoodInHeld 78 = false := by kernel_rfl
theorem slotGuard : Try.prog.eqGuardType Try.prog.depth 78 = false := by kernel_rfl
theorem slotNeq (x y : Sl) (w : World) : (binOp .neq 78 (.agg #[.int .u64 (x.s : Int), .int .u64 (x.v : Int), .int .i64 x.l]) (.agg #[.int .u64 (y.s : Int), .int .u64 (y.v : Int), .int .i64 y.l])).run Try.prog w = .ok (.bool (!(decide (x = y)))) w := by
  have h1 := slotHeld
  rw [run_neq_struct, run_equalIn_agg w 9999 _ _ _ (by simp only [Program.fieldsOf, Try.underlying78]) h1]
  simp only [Program.fieldsOf, Try.underlying78]
  obtain ⟨a, b, c⟩ := x
  obtain ⟨a', b', c'⟩ := y
  simp [go_sem]
  by_cases e1 : a = a'
  · by_cases e2 : b = b'
    · by_cases e3 : c = c' <;> simp [e1, e2, e3]
    · simp [e1, e2]; try omega
  · simp [e1]; try omega
end Go.Proofs.Ytahojmioonpodaa
