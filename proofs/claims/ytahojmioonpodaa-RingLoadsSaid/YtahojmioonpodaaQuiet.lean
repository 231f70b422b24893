/-
  A callee that only reads, in a region that draws and stands behind others that drew.
-/
import Derived.Test.YtahojmioonpodaaKit
namespace Go.Proofs.Ytahojmioonpodaa
open Go.RowKit
set_option linter.unusedVariables false
set_option linter.unusedSimpArgs false
section
variable {P : Program} {f : FuncId} {args : Array Value} {W : World} {v : Value} {F : Nat → World}
theorem quiet_same3 (h : Calls P f args W fun e w' => e = .returned v ∧ W = w') (hW : ∃ n, W = F n) : Calls P f args W fun e w'' => e = .returned v ∧ ∃ m, w'' = F m :=
  h.mono fun e w' q => ⟨q.1, by obtain ⟨n, hn⟩ := hW; exact ⟨n, q.2.symm.trans hn⟩⟩
theorem quiet_of3 (h : Calls P f args W fun e w' => e = .returned v ∧ ∃ m, w' = W.drewN m) (hW : ∃ n, W = F n) (hF : ∀ a b, ∃ k, (F a).drewN b = F k) : Calls P f args W fun e w'' => e = .returned v ∧ ∃ m, w'' = F m :=
  h.mono fun e w' q => ⟨q.1, by
    obtain ⟨n, hn⟩ := hW
    obtain ⟨m, hm⟩ := q.2
    obtain ⟨k, hk⟩ := hF n m
    exact ⟨k, by rw [hm, hn, hk]⟩⟩
end
end Go.Proofs.Ytahojmioonpodaa
