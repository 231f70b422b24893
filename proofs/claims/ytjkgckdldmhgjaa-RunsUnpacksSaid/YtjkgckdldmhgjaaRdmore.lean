/-
  What a reader's call leaves of other memory.
-/
import Derived.Test.YtjkgckdldmhgjaaOctet
namespace Go.Proofs.Ytjkgckdldmhgjaa
open Go.RowKit
set_option linter.unusedVariables false
set_option linter.unusedSimpArgs false
section
variable {w w' : World} {g : Nat} {s : ByteArray} {i : Nat}
theorem owns_rd {B : Nat} {e : TypeId} {sz n : Nat} {v : Value} {xs : List Value} (ho : w.ownsRow B e sz v n xs) (hr : RdAt w g s i) (hk : Kept (oneRow g) w w') (h1 : e ≠ 59) : w'.ownsRow B e sz v n xs :=
  owns_kept ho hk (fun r cur _ hl (he : r = g) => by subst he; exact h1 (hl.same hr.1).1)
theorem lies_rd {t : TypeId} {cs : Array Value} {k : Nat} (hl : Lies w k t cs) (hr : RdAt w g s i) (hk : Kept (oneRow g) w w') (h1 : t ≠ 59) : Lies w' k t cs :=
  hl.kept hk (fun (he : k = g) => by subst he; exact h1 (hl.same hr.1).1)
theorem RdAt.later (h : RdAt w g s i) (hb : Below w.heap.size w w') : RdAt w' g s i := h.kept (Kept.of_below hb) (fun hf => hf)
theorem RdAt.lt (h : RdAt w g s i) : g < w.heap.size := h.1.lt
theorem kept_below {S : Nat → Prop} {a : World} (k : Kept S a w) (hb : Below w.heap.size w w') : Kept S a w' :=
  k.trans (Kept.of_below hb) (fun _ _ hf => hf.elim)
end
end Go.Proofs.Ytjkgckdldmhgjaa
