/-
  One plain instruction (layer 16): thread.plain.
-/
import Derived.Test.YtiegmpjoiekekaaThr2
import Derived.Test.YtiegmpjoiekekaaAlu
import Derived.Test.YtiegmpjoiekekaaRely
namespace Go.Proofs.Ytiegmpjoiekekaa
open Go.RowKit
set_option linter.unusedVariables false
set_option linter.unusedSimpArgs false
/-- What a plain instruction may name. -/
theorem plain_regs {i : In} (h : rightB i = true) (h1 : 1 ≤ i.op) (h2 : i.op ≤ 17) : (0 ≤ i.a ∧ i.a ≤ 7) ∧ (0 ≤ i.b ∧ i.b ≤ 7) ∧ (0 ≤ i.c ∧ i.c ≤ 7) ∧ (15 ≤ i.op → i.k ≤ 256) := by
  obtain ⟨op, a, b, c, d, k⟩ := i
  unfold rightB at h
  simp only [Bool.and_eq_true] at h h1 h2 ⊢
  obtain ⟨_, q1, q2, q3, _, q5⟩ := h
  unfold kB at q5
  unfold wB at q1 q2 q3
  have : op = 1 ∨ op = 2 ∨ op = 3 ∨ op = 4 ∨ op = 5 ∨ op = 6 ∨ op = 7 ∨ op = 8 ∨ op = 9 ∨ op = 10 ∨ op = 11 ∨ op = 12 ∨ op = 13 ∨ op = 14 ∨ op = 15 ∨ op = 16 ∨ op = 17 := by omega
  rcases this with e | e | e | e | e | e | e | e | e | e | e | e | e | e | e | e | e
  all_goals
    subst e
    simp [gL, gK] at q1 q2 q3 q5
    omega
def goOn (x : Th) : Th := { x with at_ := x.at_ + 1 }
/-- A state behind a plain instruction. -/
def stepT (i : In) (x : Th) : Th :=
  if i.op = 1 then setR (goOn x) i.a.toNat i.k
  else if i.op = 2 then setR (goOn x) i.a.toNat (x.r i.b.toNat)
  else if i.op = 15 then { x with at_ := (i.k : Int) }
  else if i.op = 16 then (if x.r i.a.toNat = 0 then { x with at_ := (i.k : Int) } else goOn x)
  else if i.op = 17 then (if x.r i.a.toNat ≠ 0 then { x with at_ := (i.k : Int) } else goOn x)
  else setR (goOn x) i.a.toNat (doV i.op (x.r i.b.toNat : Int) (x.r i.c.toNat : Int)).toNat
end Go.Proofs.Ytiegmpjoiekekaa
