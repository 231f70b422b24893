/-
  The seat's listed names: what the rows' condition gives, and a world that meets it.
-/
import Derived.Test.YtebgcehcnenjiaaDoorLaidstr
import Derived.Test.YtebgcehcnenjiaaDoorCards
import Derived.Test.YtebgcehcnenjiaaDoorTie
import Derived.WalkKit
import Derived.ProofKit
import Derived.OpenShut
import Derived.Deep.DeepHandedRow
namespace Go.Proofs.YtebgcehcnenjiaaDoor
open Go.ChangeShapes Go.WideShapes Go.ChangeAt Go.RowKit
set_option linter.unusedVariables false
set_option linter.unusedSimpArgs false
theorem gNames : Tryd.prog.globalNamed "rondeau/code.names" = some 0 := by kernel_rfl
theorem gNamesT : (Tryd.prog.globals[0]?).map (·.type) = some 57 := by kernel_rfl
theorem cellsNames : Tryd.prog.cellsOf 57 = 26 := by kernel_rfl
theorem cellsStr : Tryd.prog.cellsOf 9 = 1 := by kernel_rfl
theorem laid_is : (Rows.laid_rondeau_code_names : DataW Unit) = strData nmL := rfl
theorem names_of_row {W : World} (h : laidMetH Tryd.prog [("rondeau/code.names", Rows.laid_rondeau_code_names)] W) : NamesAt W :=
  names_of_laid (rest := []) gNames gNamesT Tryd.underlying57 Tryd.underlying9 cellsStr cellsNames h
/-- A world for the witness: the settled one, the names laid. -/
noncomputable def laidWorld (os : Os) : World :=
  { World.holding Tryd.prog os ⟨#[], #[], []⟩ with heap := (World.holding Tryd.prog os ⟨#[], #[], []⟩).heap.modify 0 fun
      | .cells _ t frozen => .cells (nmL.map Value.string).toArray t frozen
      | o => o }
end Go.Proofs.YtebgcehcnenjiaaDoor
