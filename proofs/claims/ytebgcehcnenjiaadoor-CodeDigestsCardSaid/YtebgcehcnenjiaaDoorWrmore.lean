/-
  What a writer's call leaves of other memory.
-/
import Derived.Test.YtebgcehcnenjiaaDoorWriter
namespace Go.Proofs.YtebgcehcnenjiaaDoor
open Go.RowKit
set_option linter.unusedVariables false
set_option linter.unusedSimpArgs false
section
variable {w w' : World} {B B2 g : Nat} {b : ByteArray}
theorem WrAt.later (h : WrAt w B g b) (hb : Below w.heap.size w w') : WrAt w' B g b := h.kept (Kept.of_below hb) (fun hf => hf) (fun _ _ _ hf => hf)
theorem WrAt.alloc (h : WrAt w B g b) (o : Obj) : WrAt (w.alloc o) B g b := h.later ((Below.refl _ _).alloc (Nat.le_refl _) o)
theorem WrAt.lt (h : WrAt w B g b) : g < w.heap.size := by obtain ⟨_, v, hl, _⟩ := h; exact hl.lt
theorem wr_not {t : TypeId} {cs : Array Value} {k : Nat} (hw : WrAt w B g b) (hl : Lies w k t cs) (h1 : t ≠ 64) (h2 : t ≠ 5) : ¬ wrRows w B g k := by
  rintro ⟨_, h⟩
  obtain ⟨_, v, hlg, _⟩ := hw
  rcases h with rfl | ⟨cur, h⟩
  · exact h1 (hl.same hlg).1
  · exact h2 (hl.same h).1
theorem owns_wr {e : TypeId} {sz n : Nat} {v : Value} {xs : List Value} (ho : w.ownsRow B2 e sz v n xs) (hw : WrAt w B g b) (hk : Kept (wrRows w B g) w w') (h1 : e ≠ 64) (h2 : e ≠ 5) : w'.ownsRow B2 e sz v n xs :=
  owns_kept ho hk (fun _ _ _ hl => wr_not hw hl h1 h2)
theorem lies_wr {t : TypeId} {cs : Array Value} {k : Nat} (hl : Lies w k t cs) (hw : WrAt w B g b) (hk : Kept (wrRows w B g) w w') (h1 : t ≠ 64) (h2 : t ≠ 5) : Lies w' k t cs :=
  hl.kept hk (wr_not hw hl h1 h2)
theorem below_wr {a : World} (h : Below B a w) (hk : Kept (wrRows w B g) w w') (hB : B ≤ w.heap.size) : Below B a w' :=
  h.trans (hk.below hB (fun k hk h => by have := h.1; omega))
end
end Go.Proofs.YtebgcehcnenjiaaDoor
