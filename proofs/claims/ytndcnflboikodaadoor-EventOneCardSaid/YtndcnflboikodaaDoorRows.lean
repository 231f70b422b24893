/-
  NARROWER THAN 'FOR EVERY INPUT', by the rows' own cells (each row's printed sentence says how): EventTells: laid · EventPrints: laid · EventReads: laid · EventBack: laid · EventOne: laid · EventParts: laid.
  DERIVED. THE GIVEN ROWS OF THIS SEAT. 6 by the template 'for every input the law returns true; each argument reads behind the call as it read before'; 0 by the template 'total and deterministic' (their statements: YtndcnflboikodaaDoorTotals.lean).
  GIVEN WITH THE SEED: the statements are not yours to turn. If you find one false, say at which input.
  Laid BY PROGRAM, IN A SANDBOX (cutbox-rows.mjs): the forced cells as the released guide's own fill.sh prints them over the translation 0b0accfaf358922b… (all of the seat's roots in one cut). By AI agents, Wed Nov 11 2026. No macro, syntax, notation, axiom, sorry.
-/
import Derived.Test.YtndcnflboikodaaDoorChecked
import GoSem.Claim
import GoSem.ClaimJoined
import GoSem.ClaimMapViews
import Derived.JoinedTies
import Derived.KernelRfl
namespace Go.Proofs.YtndcnflboikodaaDoor
/- THE CELL 'sum', in the pinned program and in every row, IS THE sha256 OF THE DUMP (.gsa) THAT YtndcnflboikodaaDoorProg.lean LOADS. Nothing in Lean hashes anything: it is a label: what it is worth is what the hold of that sum in a sandbox is worth. -/
noncomputable def Tryd.pinned : Pinned := { name := "ytndcnflboikodaadoor", sum := "0b0accfaf358922b7bab5d97517c9059cdd6bb1a7693784d226334f442a7c6ed", checked := Tryd.checked }
namespace Rows
def none {H : Type} : Left H := { results := [], args := [] }

/- WHAT THE LISTED PACKAGE-LEVEL VARIABLES READ AS WHEN THE CALL BEGINS. Each datum BY PROGRAM (the guide's laid-datum.mjs) off the statement by which the dump's own 'gosem.cut.vars' lays the variable. In a bare row this is a premise. The card (YtndcnflboikodaaDoorCards.lean) ties it to the program's text. -/
def laid_rondeau_event_names {H : Type} : DataW H := .agg [.lit (.string []), .lit (.string [99, 108, 97, 105, 109]), .lit (.string [112, 117, 98, 108, 105, 115, 104]), .lit (.string [116, 97, 107, 101]), .lit (.string [114, 101, 108, 101, 97, 115, 101]), .lit (.string [110, 111]), .lit (.string [115, 104, 117, 116]), .lit (.string [116, 105, 109, 101]), .lit (.string [99, 108, 111, 99, 107]), .lit (.string [100, 114, 97, 119]), .lit (.string [114, 101, 97, 100]), .lit (.string [101, 110, 100]), .lit (.string [115, 101, 101]), .lit (.string [99, 108, 111, 115, 101]), .lit (.string [104, 97, 108, 116]), .lit (.string [115, 112, 105, 110])]

/-- 'rondeaulaw15.EventTells': WHATEVER THE INPUT: true; the input reads as it did. -/
def eventTellsSpec : ChangeSpec := { name := "eventTells", fn := fun _ => fun
  | [d1, d2] => { results := [.lit (.bool true)], args := [d1, d2] }
  | _ => none }
def eventTellsRow : OpenClaim := { program := "ytndcnflboikodaadoor", sum := "0b0accfaf358922b7bab5d97517c9059cdd6bb1a7693784d226334f442a7c6ed", func := "rondeau/rondeaulaw15.EventTells", spec := "eventTells", unfollowed := true, recurses := true, named := ["rondeau/event.names"], apart := false, laid := [("rondeau/event.names", laid_rondeau_event_names)] }
def EventTellsSaid : Prop := eventTellsRow.holds Tryd.pinned (OpenSpec.ofChange eventTellsSpec)

/-- ITS FALSE NEIGHBOUR: 'it returns false'. Refute it at one input. -/
def eventTellsWrong : ChangeSpec := { name := "eventTells", fn := fun _ => fun
  | [d1, d2] => { results := [.lit (.bool false)], args := [d1, d2] }
  | _ => none }
def EventTellsWrongFalsely : Prop := eventTellsRow.holds Tryd.pinned (OpenSpec.ofChange eventTellsWrong)

/-- 'rondeaulaw15.EventPrints': WHATEVER THE INPUT: true; the input reads as it did. -/
def eventPrintsSpec : ChangeSpec := { name := "eventPrints", fn := fun _ => fun
  | [d] => { results := [.lit (.bool true)], args := [d] }
  | _ => none }
def eventPrintsRow : OpenClaim := { program := "ytndcnflboikodaadoor", sum := "0b0accfaf358922b7bab5d97517c9059cdd6bb1a7693784d226334f442a7c6ed", func := "rondeau/rondeaulaw15.EventPrints", spec := "eventPrints", unfollowed := true, recurses := true, named := ["rondeau/event.names"], apart := false, laid := [("rondeau/event.names", laid_rondeau_event_names)] }
def EventPrintsSaid : Prop := eventPrintsRow.holds Tryd.pinned (OpenSpec.ofChange eventPrintsSpec)

/-- ITS FALSE NEIGHBOUR: 'it returns false'. Refute it at one input. -/
def eventPrintsWrong : ChangeSpec := { name := "eventPrints", fn := fun _ => fun
  | [d] => { results := [.lit (.bool false)], args := [d] }
  | _ => none }
def EventPrintsWrongFalsely : Prop := eventPrintsRow.holds Tryd.pinned (OpenSpec.ofChange eventPrintsWrong)

/-- 'rondeaulaw15.EventReads': WHATEVER THE INPUT: true; the input reads as it did. -/
def eventReadsSpec : ChangeSpec := { name := "eventReads", fn := fun _ => fun
  | [d] => { results := [.lit (.bool true)], args := [d] }
  | _ => none }
def eventReadsRow : OpenClaim := { program := "ytndcnflboikodaadoor", sum := "0b0accfaf358922b7bab5d97517c9059cdd6bb1a7693784d226334f442a7c6ed", func := "rondeau/rondeaulaw15.EventReads", spec := "eventReads", unfollowed := true, recurses := true, named := ["rondeau/event.names"], apart := false, laid := [("rondeau/event.names", laid_rondeau_event_names)] }
def EventReadsSaid : Prop := eventReadsRow.holds Tryd.pinned (OpenSpec.ofChange eventReadsSpec)

/-- ITS FALSE NEIGHBOUR: 'it returns false'. Refute it at one input. -/
def eventReadsWrong : ChangeSpec := { name := "eventReads", fn := fun _ => fun
  | [d] => { results := [.lit (.bool false)], args := [d] }
  | _ => none }
def EventReadsWrongFalsely : Prop := eventReadsRow.holds Tryd.pinned (OpenSpec.ofChange eventReadsWrong)

/-- 'rondeaulaw15.EventBack': WHATEVER THE INPUT: true; the input reads as it did. -/
def eventBackSpec : ChangeSpec := { name := "eventBack", fn := fun _ => fun
  | [d] => { results := [.lit (.bool true)], args := [d] }
  | _ => none }
def eventBackRow : OpenClaim := { program := "ytndcnflboikodaadoor", sum := "0b0accfaf358922b7bab5d97517c9059cdd6bb1a7693784d226334f442a7c6ed", func := "rondeau/rondeaulaw15.EventBack", spec := "eventBack", unfollowed := true, recurses := true, named := ["rondeau/event.names"], apart := false, laid := [("rondeau/event.names", laid_rondeau_event_names)] }
def EventBackSaid : Prop := eventBackRow.holds Tryd.pinned (OpenSpec.ofChange eventBackSpec)

/-- ITS FALSE NEIGHBOUR: 'it returns false'. Refute it at one input. -/
def eventBackWrong : ChangeSpec := { name := "eventBack", fn := fun _ => fun
  | [d] => { results := [.lit (.bool false)], args := [d] }
  | _ => none }
def EventBackWrongFalsely : Prop := eventBackRow.holds Tryd.pinned (OpenSpec.ofChange eventBackWrong)

/-- 'rondeaulaw15.EventOne': WHATEVER THE INPUT: true; the input reads as it did. -/
def eventOneSpec : ChangeSpec := { name := "eventOne", fn := fun _ => fun
  | [d1, d2, d3] => { results := [.lit (.bool true)], args := [d1, d2, d3] }
  | _ => none }
def eventOneRow : OpenClaim := { program := "ytndcnflboikodaadoor", sum := "0b0accfaf358922b7bab5d97517c9059cdd6bb1a7693784d226334f442a7c6ed", func := "rondeau/rondeaulaw15.EventOne", spec := "eventOne", unfollowed := true, recurses := true, named := ["rondeau/event.names"], apart := false, laid := [("rondeau/event.names", laid_rondeau_event_names)] }
def EventOneSaid : Prop := eventOneRow.holds Tryd.pinned (OpenSpec.ofChange eventOneSpec)

/-- ITS FALSE NEIGHBOUR: 'it returns false'. Refute it at one input. -/
def eventOneWrong : ChangeSpec := { name := "eventOne", fn := fun _ => fun
  | [d1, d2, d3] => { results := [.lit (.bool false)], args := [d1, d2, d3] }
  | _ => none }
def EventOneWrongFalsely : Prop := eventOneRow.holds Tryd.pinned (OpenSpec.ofChange eventOneWrong)

/-- 'rondeaulaw15.EventParts': WHATEVER THE INPUT: true; the input reads as it did. -/
def eventPartsSpec : ChangeSpec := { name := "eventParts", fn := fun _ => fun
  | [d] => { results := [.lit (.bool true)], args := [d] }
  | _ => none }
def eventPartsRow : OpenClaim := { program := "ytndcnflboikodaadoor", sum := "0b0accfaf358922b7bab5d97517c9059cdd6bb1a7693784d226334f442a7c6ed", func := "rondeau/rondeaulaw15.EventParts", spec := "eventParts", unfollowed := true, recurses := true, named := ["rondeau/event.names"], apart := false, laid := [("rondeau/event.names", laid_rondeau_event_names)] }
def EventPartsSaid : Prop := eventPartsRow.holds Tryd.pinned (OpenSpec.ofChange eventPartsSpec)

/-- ITS FALSE NEIGHBOUR: 'it returns false'. Refute it at one input. -/
def eventPartsWrong : ChangeSpec := { name := "eventParts", fn := fun _ => fun
  | [d] => { results := [.lit (.bool false)], args := [d] }
  | _ => none }
def EventPartsWrongFalsely : Prop := eventPartsRow.holds Tryd.pinned (OpenSpec.ofChange eventPartsWrong)

/- THE SECOND FORM. 'bulk': how many values and letters a reading holds, each counted each time it is reached (what is shared counts as often as it is met; a slice's spare places count too). A statement '..UptoSaid' is the law's where the arguments, and the package variables that the reading takes, are together of bulk at most 1048576: NARROWER than '..Said'. Prove '..Said' where nothing that the law and all that it calls make is longer than what came in: it says more and counts as full. Else prove '..UptoSaid'. A law counts once. -/
mutual
def uptoBulk {H : Type} : DataW H → Nat
  | .lit (.string bytes) => bytes.length + 1
  | .lit _ => 1
  | .nil => 1
  | .ptr d => uptoBulk d + 1
  | .slice elems spare => uptoBulkAll elems + uptoBulkAll spare + 1
  | .agg parts => uptoBulkAll parts + 1
  | .iface _ d => uptoBulk d + 1
  | .map entries => uptoBulkEntries entries + 1
  | .held _ => 1
def uptoBulkAll {H : Type} : List (DataW H) → Nat
  | [] => 0
  | d :: r => uptoBulk d + uptoBulkAll r
def uptoBulkEntries {H : Type} : List (Lit × DataW H) → Nat
  | [] => 0
  | x :: r => uptoBulkEntry x + uptoBulkEntries r
def uptoBulkEntry {H : Type} : Lit × DataW H → Nat
  | (.string bytes, d) => bytes.length + uptoBulk d + 1
  | (_, d) => uptoBulk d + 1
 end
def uptoSmall : (H : Type) → List (DataW H) → Bool := fun _ ds => decide (uptoBulkAll ds ≤ 1048576)
def OpenSpec.upto (s : _root_.Go.ChangeSpec) : _root_.Go.OpenSpec := { _root_.Go.OpenSpec.ofChange s with cond := some uptoSmall }

/-- 'rondeaulaw15.EventTells', WHERE WHAT IT READS IS OF BULK AT MOST 1048576: true; the input reads as it did. -/
def eventTellsUptoRow : OpenClaim := { program := "ytndcnflboikodaadoor", sum := "0b0accfaf358922b7bab5d97517c9059cdd6bb1a7693784d226334f442a7c6ed", func := "rondeau/rondeaulaw15.EventTells", spec := "eventTells", unfollowed := true, recurses := true, named := ["rondeau/event.names"], apart := false, laid := [("rondeau/event.names", laid_rondeau_event_names)], narrowed := true }
def EventTellsUptoSaid : Prop := eventTellsUptoRow.holds Tryd.pinned (OpenSpec.upto eventTellsSpec)

/-- 'rondeaulaw15.EventPrints', WHERE WHAT IT READS IS OF BULK AT MOST 1048576: true; the input reads as it did. -/
def eventPrintsUptoRow : OpenClaim := { program := "ytndcnflboikodaadoor", sum := "0b0accfaf358922b7bab5d97517c9059cdd6bb1a7693784d226334f442a7c6ed", func := "rondeau/rondeaulaw15.EventPrints", spec := "eventPrints", unfollowed := true, recurses := true, named := ["rondeau/event.names"], apart := false, laid := [("rondeau/event.names", laid_rondeau_event_names)], narrowed := true }
def EventPrintsUptoSaid : Prop := eventPrintsUptoRow.holds Tryd.pinned (OpenSpec.upto eventPrintsSpec)

/-- 'rondeaulaw15.EventReads', WHERE WHAT IT READS IS OF BULK AT MOST 1048576: true; the input reads as it did. -/
def eventReadsUptoRow : OpenClaim := { program := "ytndcnflboikodaadoor", sum := "0b0accfaf358922b7bab5d97517c9059cdd6bb1a7693784d226334f442a7c6ed", func := "rondeau/rondeaulaw15.EventReads", spec := "eventReads", unfollowed := true, recurses := true, named := ["rondeau/event.names"], apart := false, laid := [("rondeau/event.names", laid_rondeau_event_names)], narrowed := true }
def EventReadsUptoSaid : Prop := eventReadsUptoRow.holds Tryd.pinned (OpenSpec.upto eventReadsSpec)

/-- 'rondeaulaw15.EventBack', WHERE WHAT IT READS IS OF BULK AT MOST 1048576: true; the input reads as it did. -/
def eventBackUptoRow : OpenClaim := { program := "ytndcnflboikodaadoor", sum := "0b0accfaf358922b7bab5d97517c9059cdd6bb1a7693784d226334f442a7c6ed", func := "rondeau/rondeaulaw15.EventBack", spec := "eventBack", unfollowed := true, recurses := true, named := ["rondeau/event.names"], apart := false, laid := [("rondeau/event.names", laid_rondeau_event_names)], narrowed := true }
def EventBackUptoSaid : Prop := eventBackUptoRow.holds Tryd.pinned (OpenSpec.upto eventBackSpec)

/-- 'rondeaulaw15.EventOne', WHERE WHAT IT READS IS OF BULK AT MOST 1048576: true; the input reads as it did. -/
def eventOneUptoRow : OpenClaim := { program := "ytndcnflboikodaadoor", sum := "0b0accfaf358922b7bab5d97517c9059cdd6bb1a7693784d226334f442a7c6ed", func := "rondeau/rondeaulaw15.EventOne", spec := "eventOne", unfollowed := true, recurses := true, named := ["rondeau/event.names"], apart := false, laid := [("rondeau/event.names", laid_rondeau_event_names)], narrowed := true }
def EventOneUptoSaid : Prop := eventOneUptoRow.holds Tryd.pinned (OpenSpec.upto eventOneSpec)

/-- 'rondeaulaw15.EventParts', WHERE WHAT IT READS IS OF BULK AT MOST 1048576: true; the input reads as it did. -/
def eventPartsUptoRow : OpenClaim := { program := "ytndcnflboikodaadoor", sum := "0b0accfaf358922b7bab5d97517c9059cdd6bb1a7693784d226334f442a7c6ed", func := "rondeau/rondeaulaw15.EventParts", spec := "eventParts", unfollowed := true, recurses := true, named := ["rondeau/event.names"], apart := false, laid := [("rondeau/event.names", laid_rondeau_event_names)], narrowed := true }
def EventPartsUptoSaid : Prop := eventPartsUptoRow.holds Tryd.pinned (OpenSpec.upto eventPartsSpec)

end Rows
end Go.Proofs.YtndcnflboikodaaDoor
