/-
  A region whose two results are stored into two blocks: what is kept meanwhile.
-/
import Derived.Test.YtiegmpjoiekekaaRely
namespace Go.Proofs.Ytiegmpjoiekekaa
open Go.RowKit
set_option linter.unusedVariables false
set_option linter.unusedSimpArgs false
def twoRows (a b : Nat) : Nat → Prop := fun k => k = a ∨ k = b
def rgV (vs : List (Option Value)) (F : Nat → World → Prop) (j : Nat) (u : Value) (q : World) : Prop := match vs.getD j none with | some v => u = v | none => F j q
theorem rgV_mono {vs : List (Option Value)} {F : Nat → World → Prop} {j : Nat} {u : Value} {q q' : World} (hF : F j q → F j q') (h : rgV vs F j u q) : rgV vs F j u q' := by
  unfold rgV at h ⊢
  cases hv : vs.getD j none with
  | some v => rw [hv] at h; exact h
  | none => rw [hv] at h; exact hF h
def twF (i4 i5 i7 i8 b4 b5 : Nat) (T U : TypeId) (c4 c5 z4 z5 : Array Value) (j : Nat) (q : World) : Prop :=
  if j = i4 then Lies q b4 T c4 else if j = i5 then Lies q b5 U c5 else if j = i7 then Lies q b4 T z4 else if j = i8 then Lies q b5 U z5 else True
theorem twF_kept {i4 i5 i7 i8 b4 b5 : Nat} {T U : TypeId} {c4 c5 z4 z5 : Array Value} {j : Nat} {q q' : World} {S : Nat → Prop} (h4 : ¬ S b4) (h5 : ¬ S b5) (k : Kept S q q') (h : twF i4 i5 i7 i8 b4 b5 T U c4 c5 z4 z5 j q) : twF i4 i5 i7 i8 b4 b5 T U c4 c5 z4 z5 j q' := by
  unfold twF at h ⊢
  split
  · rename_i e; rw [if_pos e] at h; exact h.kept k h4
  rename_i e1; rw [if_neg e1] at h
  split
  · rename_i e; rw [if_pos e] at h; exact h.kept k h5
  rename_i e2; rw [if_neg e2] at h
  split
  · rename_i e; rw [if_pos e] at h; exact h.kept k h4
  rename_i e3; rw [if_neg e3] at h
  split
  · rename_i e; rw [if_pos e] at h; exact h.kept k h5
  trivial
theorem twF_kept4 {i4 i5 i7 i8 b4 b5 : Nat} {T U : TypeId} {c4 c5 z4 z5 : Array Value} {j : Nat} {q q' : World} {S : Nat → Prop} (hj : (j != i4 && j != i7) = true) (h5 : ¬ S b5) (k : Kept S q q') (h : twF i4 i5 i7 i8 b4 b5 T U c4 c5 z4 z5 j q) : twF i4 i5 i7 i8 b4 b5 T U c4 c5 z4 z5 j q' := by
  rw [Bool.and_eq_true, bne_iff_ne, bne_iff_ne] at hj
  unfold twF at h ⊢
  rw [if_neg hj.1] at h ⊢
  split
  · rename_i e; rw [if_pos e] at h; exact h.kept k h5
  rename_i e2; rw [if_neg e2, if_neg hj.2] at h
  rw [if_neg hj.2]
  split
  · rename_i e; rw [if_pos e] at h; exact h.kept k h5
  trivial
theorem twF_kept5 {i4 i5 i7 i8 b4 b5 : Nat} {T U : TypeId} {c4 c5 z4 z5 : Array Value} {j : Nat} {q q' : World} {S : Nat → Prop} (hj : (j != i5 && j != i8) = true) (h4 : ¬ S b4) (k : Kept S q q') (h : twF i4 i5 i7 i8 b4 b5 T U c4 c5 z4 z5 j q) : twF i4 i5 i7 i8 b4 b5 T U c4 c5 z4 z5 j q' := by
  rw [Bool.and_eq_true, bne_iff_ne, bne_iff_ne] at hj
  unfold twF at h ⊢
  split
  · rename_i e; rw [if_pos e] at h; exact h.kept k h4
  rename_i e1; rw [if_neg e1, if_neg hj.1] at h
  rw [if_neg hj.1]
  split
  · rename_i e; rw [if_pos e] at h; exact h.kept k h4
  rename_i e2; rw [if_neg e2, if_neg hj.2] at h
  rw [if_neg hj.2]
  trivial
theorem kept_rowS {w : World} {g : Nat} {S : Nat → Prop} (cs : Array Value) (h : S g) : Kept S w (w.setRow g cs) :=
  ⟨rfl, rfl, rfl, by unfold World.setRow; simp, fun k _ hk => setRow_other w g k cs (fun e => hk (e ▸ h))⟩
theorem lies_row {w : World} {g : Nat} {t : TypeId} {old : Array Value} (h : Lies w g t old) (cs : Array Value) : Lies (w.setRow g cs) g t cs := setRow_heap w g old cs t (0, 0) h
end Go.Proofs.Ytiegmpjoiekekaa
