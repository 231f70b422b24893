import Derived.Test.YtnhbeddmphlieaaLaw1
namespace Go.Proofs.Ytnhbeddmphlieaa
open Go.RowKit
set_option linter.unusedVariables false
set_option linter.unusedSimpArgs false
section
variable {w w' : World} {B B2 g : Nat} {l : List Bool}
theorem BwAt.keptT {S : Nat → Prop} (h : BwAt w B g l) (k : Kept S w w') (h1 : ¬ S g) (h2 : ∀ r cur, Lies w r 5 cur → ¬ S r) : BwAt w' B g l := by
  obtain ⟨v, hl, ho⟩ := h
  exact ⟨v, hl.kept k h1, owns_kept ho k (fun r cur _ hl => h2 r cur hl)⟩
theorem bw_not {t : TypeId} {cs : Array Value} {k : Nat} (hw : BwAt w B g l) (hl : Lies w k t cs) (h1 : t ≠ 26) (h2 : t ≠ 5) : ¬ bwRows w B g k := by
  obtain ⟨v, hlg, _⟩ := hw
  rintro (rfl | ⟨_, cur, h⟩)
  · exact h1 (hl.same hlg).1
  · exact h2 (hl.same h).1
theorem owns_bw {e : TypeId} {sz n : Nat} {v : Value} {xs : List Value} (ho : w.ownsRow B2 e sz v n xs) (hw : BwAt w B g l) (hk : Kept (bwRows w B g) w w') (h1 : e ≠ 26) (h2 : e ≠ 5) : w'.ownsRow B2 e sz v n xs :=
  owns_kept ho hk (fun _ _ _ hl => bw_not hw hl h1 h2)
/-- An append to a row of another kind. -/
theorem BwAt.grown {e : TypeId} {sz n : Nat} {v : Value} {xs : List Value} (h : BwAt w B g l) (ho : w.ownsRow B2 e sz v n xs) (hg : w.grownBy w' v.ownBlock) (h1 : e ≠ 26) (h2 : e ≠ 5) : BwAt w' B g l := by
  obtain ⟨v2, hlg, hro⟩ := id h
  refine h.keptT (Kept.of_grown hg) (own_ne ho hlg h1) (fun r cur hl hv => ?_)
  rcases owns_row ho with ⟨rfl, _⟩ | ⟨r', cap, cur', rfl, _, hl2, _⟩
  · cases hv
  · obtain rfl : r' = r := by simpa [Value.ownBlock] using hv
    exact h2 (hl2.same hl).1
end
end Go.Proofs.Ytnhbeddmphlieaa
