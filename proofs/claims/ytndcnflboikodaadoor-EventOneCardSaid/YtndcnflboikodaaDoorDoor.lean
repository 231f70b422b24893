/-
  The seat's listed names: what the rows' condition gives, and a world that meets it.
-/
import Derived.Test.YtndcnflboikodaaDoorLaidev
import Derived.Test.YtndcnflboikodaaDoorCards
import Derived.Test.YtndcnflboikodaaDoorTie
import Derived.WalkKit
import Derived.ProofKit
import Derived.OpenShut
import Derived.Deep.DeepHandedRow
namespace Go.Proofs.YtndcnflboikodaaDoor
open Go.ChangeShapes Go.WideShapes Go.ChangeAt Go.RowKit
set_option linter.unusedVariables false
set_option linter.unusedSimpArgs false
theorem gNames : Tryd.prog.globalNamed "rondeau/event.names" = some 0 := by kernel_rfl
theorem gNamesT : (Tryd.prog.globals[0]?).map (·.type) = some 58 := by kernel_rfl
theorem cellsNames : Tryd.prog.cellsOf 58 = 16 := by kernel_rfl
theorem cellsStr : Tryd.prog.cellsOf 9 = 1 := by kernel_rfl
theorem laid_is : (Rows.laid_rondeau_event_names : DataW Unit) = strData evL := rfl
abbrev NamesAt (w : World) : Prop := EvnAt w
theorem names_of_row {W : World} (h : laidMetH Tryd.prog [("rondeau/event.names", Rows.laid_rondeau_event_names)] W) : NamesAt W :=
  evn_of_laid (rest := []) gNames gNamesT Tryd.underlying58 Tryd.underlying9 cellsStr cellsNames h
/-- A world for the witness: the settled one, the names laid. -/
noncomputable def laidWorld (os : Os) : World :=
  { World.holding Tryd.prog os ⟨#[], #[], []⟩ with heap := (World.holding Tryd.prog os ⟨#[], #[], []⟩).heap.modify 0 fun
      | .cells _ t frozen => .cells (evL.map Value.string).toArray t frozen
      | o => o }
end Go.Proofs.YtndcnflboikodaaDoor
