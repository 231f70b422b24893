/-
  NARROWER THAN 'FOR EVERY INPUT', by the rows' own cells (each row's printed sentence says how): CodeTells: laid · CodeTargets: laid · CodePrints: laid · CodeReads: laid · CodeBack: laid · CodeDigests: laid.
  DERIVED. THE GIVEN ROWS OF THIS SEAT. 6 by the template 'for every input the law returns true; each argument reads behind the call as it read before'; 0 by the template 'total and deterministic' (their statements: YtebgcehcnenjiaaDoorTotals.lean).
  GIVEN WITH THE SEED: the statements are not yours to turn. If you find one false, say at which input.
  Laid BY PROGRAM, IN A SANDBOX (cutbox-rows.mjs): the forced cells as the released guide's own fill.sh prints them over the translation dae8689c94bfbb91… (all of the seat's roots in one cut). By AI agents, Wed Nov 11 2026. No macro, syntax, notation, axiom, sorry.
-/
import Derived.Test.YtebgcehcnenjiaaDoorChecked
import GoSem.Claim
import GoSem.ClaimJoined
import GoSem.ClaimMapViews
import Derived.JoinedTies
import Derived.KernelRfl
namespace Go.Proofs.YtebgcehcnenjiaaDoor
/- THE CELL 'sum', in the pinned program and in every row, IS THE sha256 OF THE DUMP (.gsa) THAT YtebgcehcnenjiaaDoorProg.lean LOADS. Nothing in Lean hashes anything: it is a label: what it is worth is what the hold of that sum in a sandbox is worth. -/
noncomputable def Tryd.pinned : Pinned := { name := "ytebgcehcnenjiaadoor", sum := "dae8689c94bfbb91f6db9eff065da78a2540763bfdc94a21af23b28d4f55bf8b", checked := Tryd.checked }
namespace Rows
def none {H : Type} : Left H := { results := [], args := [] }

/- WHAT THE LISTED PACKAGE-LEVEL VARIABLES READ AS WHEN THE CALL BEGINS. Each datum BY PROGRAM (the guide's laid-datum.mjs) off the statement by which the dump's own 'gosem.cut.vars' lays the variable. In a bare row this is a premise. The card (YtebgcehcnenjiaaDoorCards.lean) ties it to the program's text. -/
def laid_rondeau_code_names {H : Type} : DataW H := .agg [.lit (.string []), .lit (.string [115, 101, 116]), .lit (.string [109, 111, 118]), .lit (.string [97, 100, 100]), .lit (.string [115, 117, 98]), .lit (.string [109, 117, 108]), .lit (.string [100, 105, 118]), .lit (.string [109, 111, 100]), .lit (.string [97, 110, 100]), .lit (.string [111, 114]), .lit (.string [120, 111, 114]), .lit (.string [115, 104, 108]), .lit (.string [115, 104, 114]), .lit (.string [108, 116]), .lit (.string [101, 113]), .lit (.string [106, 109, 112]), .lit (.string [106, 122]), .lit (.string [106, 110, 122]), .lit (.string [115, 101, 110, 100]), .lit (.string [114, 101, 99, 118]), .lit (.string [99, 108, 111, 115, 101]), .lit (.string [99, 108, 111, 99, 107]), .lit (.string [100, 114, 97, 119]), .lit (.string [114, 101, 97, 100]), .lit (.string [115, 101, 101]), .lit (.string [104, 97, 108, 116])]

/-- 'rondeaulaw09.CodeTells': WHATEVER THE INPUT: true; the input reads as it did. -/
def codeTellsSpec : ChangeSpec := { name := "codeTells", fn := fun _ => fun
  | [d1, d2] => { results := [.lit (.bool true)], args := [d1, d2] }
  | _ => none }
def codeTellsRow : OpenClaim := { program := "ytebgcehcnenjiaadoor", sum := "dae8689c94bfbb91f6db9eff065da78a2540763bfdc94a21af23b28d4f55bf8b", func := "rondeau/rondeaulaw09.CodeTells", spec := "codeTells", named := ["rondeau/code.names"], apart := false, laid := [("rondeau/code.names", laid_rondeau_code_names)] }
def CodeTellsSaid : Prop := codeTellsRow.holds Tryd.pinned (OpenSpec.ofChange codeTellsSpec)

/-- ITS FALSE NEIGHBOUR: 'it returns false'. Refute it at one input. -/
def codeTellsWrong : ChangeSpec := { name := "codeTells", fn := fun _ => fun
  | [d1, d2] => { results := [.lit (.bool false)], args := [d1, d2] }
  | _ => none }
def CodeTellsWrongFalsely : Prop := codeTellsRow.holds Tryd.pinned (OpenSpec.ofChange codeTellsWrong)

/-- 'rondeaulaw09.CodeTargets': WHATEVER THE INPUT: true; the input reads as it did. -/
def codeTargetsSpec : ChangeSpec := { name := "codeTargets", fn := fun _ => fun
  | [d] => { results := [.lit (.bool true)], args := [d] }
  | _ => none }
def codeTargetsRow : OpenClaim := { program := "ytebgcehcnenjiaadoor", sum := "dae8689c94bfbb91f6db9eff065da78a2540763bfdc94a21af23b28d4f55bf8b", func := "rondeau/rondeaulaw09.CodeTargets", spec := "codeTargets", named := ["rondeau/code.names"], apart := false, laid := [("rondeau/code.names", laid_rondeau_code_names)] }
def CodeTargetsSaid : Prop := codeTargetsRow.holds Tryd.pinned (OpenSpec.ofChange codeTargetsSpec)

/-- ITS FALSE NEIGHBOUR: 'it returns false'. Refute it at one input. -/
def codeTargetsWrong : ChangeSpec := { name := "codeTargets", fn := fun _ => fun
  | [d] => { results := [.lit (.bool false)], args := [d] }
  | _ => none }
def CodeTargetsWrongFalsely : Prop := codeTargetsRow.holds Tryd.pinned (OpenSpec.ofChange codeTargetsWrong)

/-- 'rondeaulaw09.CodePrints': WHATEVER THE INPUT: true; the input reads as it did. -/
def codePrintsSpec : ChangeSpec := { name := "codePrints", fn := fun _ => fun
  | [d] => { results := [.lit (.bool true)], args := [d] }
  | _ => none }
def codePrintsRow : OpenClaim := { program := "ytebgcehcnenjiaadoor", sum := "dae8689c94bfbb91f6db9eff065da78a2540763bfdc94a21af23b28d4f55bf8b", func := "rondeau/rondeaulaw09.CodePrints", spec := "codePrints", named := ["rondeau/code.names"], apart := false, laid := [("rondeau/code.names", laid_rondeau_code_names)] }
def CodePrintsSaid : Prop := codePrintsRow.holds Tryd.pinned (OpenSpec.ofChange codePrintsSpec)

/-- ITS FALSE NEIGHBOUR: 'it returns false'. Refute it at one input. -/
def codePrintsWrong : ChangeSpec := { name := "codePrints", fn := fun _ => fun
  | [d] => { results := [.lit (.bool false)], args := [d] }
  | _ => none }
def CodePrintsWrongFalsely : Prop := codePrintsRow.holds Tryd.pinned (OpenSpec.ofChange codePrintsWrong)

/-- 'rondeaulaw09.CodeReads': WHATEVER THE INPUT: true; the input reads as it did. -/
def codeReadsSpec : ChangeSpec := { name := "codeReads", fn := fun _ => fun
  | [d] => { results := [.lit (.bool true)], args := [d] }
  | _ => none }
def codeReadsRow : OpenClaim := { program := "ytebgcehcnenjiaadoor", sum := "dae8689c94bfbb91f6db9eff065da78a2540763bfdc94a21af23b28d4f55bf8b", func := "rondeau/rondeaulaw09.CodeReads", spec := "codeReads", named := ["rondeau/code.names"], apart := false, laid := [("rondeau/code.names", laid_rondeau_code_names)] }
def CodeReadsSaid : Prop := codeReadsRow.holds Tryd.pinned (OpenSpec.ofChange codeReadsSpec)

/-- ITS FALSE NEIGHBOUR: 'it returns false'. Refute it at one input. -/
def codeReadsWrong : ChangeSpec := { name := "codeReads", fn := fun _ => fun
  | [d] => { results := [.lit (.bool false)], args := [d] }
  | _ => none }
def CodeReadsWrongFalsely : Prop := codeReadsRow.holds Tryd.pinned (OpenSpec.ofChange codeReadsWrong)

/-- 'rondeaulaw09.CodeBack': WHATEVER THE INPUT: true; the input reads as it did. -/
def codeBackSpec : ChangeSpec := { name := "codeBack", fn := fun _ => fun
  | [d1, d2] => { results := [.lit (.bool true)], args := [d1, d2] }
  | _ => none }
def codeBackRow : OpenClaim := { program := "ytebgcehcnenjiaadoor", sum := "dae8689c94bfbb91f6db9eff065da78a2540763bfdc94a21af23b28d4f55bf8b", func := "rondeau/rondeaulaw09.CodeBack", spec := "codeBack", named := ["rondeau/code.names"], apart := false, laid := [("rondeau/code.names", laid_rondeau_code_names)] }
def CodeBackSaid : Prop := codeBackRow.holds Tryd.pinned (OpenSpec.ofChange codeBackSpec)

/-- ITS FALSE NEIGHBOUR: 'it returns false'. Refute it at one input. -/
def codeBackWrong : ChangeSpec := { name := "codeBack", fn := fun _ => fun
  | [d1, d2] => { results := [.lit (.bool false)], args := [d1, d2] }
  | _ => none }
def CodeBackWrongFalsely : Prop := codeBackRow.holds Tryd.pinned (OpenSpec.ofChange codeBackWrong)

/-- 'rondeaulaw09.CodeDigests': WHATEVER THE INPUT: true; the input reads as it did. -/
def codeDigestsSpec : ChangeSpec := { name := "codeDigests", fn := fun _ => fun
  | [d1, d2, d3] => { results := [.lit (.bool true)], args := [d1, d2, d3] }
  | _ => none }
def codeDigestsRow : OpenClaim := { program := "ytebgcehcnenjiaadoor", sum := "dae8689c94bfbb91f6db9eff065da78a2540763bfdc94a21af23b28d4f55bf8b", func := "rondeau/rondeaulaw09.CodeDigests", spec := "codeDigests", named := ["rondeau/code.names"], apart := false, laid := [("rondeau/code.names", laid_rondeau_code_names)] }
def CodeDigestsSaid : Prop := codeDigestsRow.holds Tryd.pinned (OpenSpec.ofChange codeDigestsSpec)

/-- ITS FALSE NEIGHBOUR: 'it returns false'. Refute it at one input. -/
def codeDigestsWrong : ChangeSpec := { name := "codeDigests", fn := fun _ => fun
  | [d1, d2, d3] => { results := [.lit (.bool false)], args := [d1, d2, d3] }
  | _ => none }
def CodeDigestsWrongFalsely : Prop := codeDigestsRow.holds Tryd.pinned (OpenSpec.ofChange codeDigestsWrong)

/- THE SECOND FORM. 'bulk': how many values and letters a reading holds, each counted each time it is reached (what is shared counts as often as it is met; a slice's spare places count too). A statement '..UptoSaid' is the law's where the arguments, and the package variables that the reading takes, are together of bulk at most 1048576: NARROWER than '..Said'. Prove '..Said' where nothing that the law and all that it calls make is longer than what came in: it says more and counts as full. Else prove '..UptoSaid'. A law counts once. -/
mutual
def uptoBulk {H : Type} : DataW H → Nat
  | .lit (.string bytes) => bytes.length + 1
  | .lit _ => 1
  | .nil => 1
  | .ptr d => uptoBulk d + 1
  | .slice elems spare => uptoBulkAll elems + uptoBulkAll spare + 1
  | .agg parts => uptoBulkAll parts + 1
  | .iface _ d => uptoBulk d + 1
  | .map entries => uptoBulkEntries entries + 1
  | .held _ => 1
def uptoBulkAll {H : Type} : List (DataW H) → Nat
  | [] => 0
  | d :: r => uptoBulk d + uptoBulkAll r
def uptoBulkEntries {H : Type} : List (Lit × DataW H) → Nat
  | [] => 0
  | x :: r => uptoBulkEntry x + uptoBulkEntries r
def uptoBulkEntry {H : Type} : Lit × DataW H → Nat
  | (.string bytes, d) => bytes.length + uptoBulk d + 1
  | (_, d) => uptoBulk d + 1
 end
def uptoSmall : (H : Type) → List (DataW H) → Bool := fun _ ds => decide (uptoBulkAll ds ≤ 1048576)
def OpenSpec.upto (s : _root_.Go.ChangeSpec) : _root_.Go.OpenSpec := { _root_.Go.OpenSpec.ofChange s with cond := some uptoSmall }

/-- 'rondeaulaw09.CodeTells', WHERE WHAT IT READS IS OF BULK AT MOST 1048576: true; the input reads as it did. -/
def codeTellsUptoRow : OpenClaim := { program := "ytebgcehcnenjiaadoor", sum := "dae8689c94bfbb91f6db9eff065da78a2540763bfdc94a21af23b28d4f55bf8b", func := "rondeau/rondeaulaw09.CodeTells", spec := "codeTells", named := ["rondeau/code.names"], apart := false, laid := [("rondeau/code.names", laid_rondeau_code_names)], narrowed := true }
def CodeTellsUptoSaid : Prop := codeTellsUptoRow.holds Tryd.pinned (OpenSpec.upto codeTellsSpec)

/-- 'rondeaulaw09.CodeTargets', WHERE WHAT IT READS IS OF BULK AT MOST 1048576: true; the input reads as it did. -/
def codeTargetsUptoRow : OpenClaim := { program := "ytebgcehcnenjiaadoor", sum := "dae8689c94bfbb91f6db9eff065da78a2540763bfdc94a21af23b28d4f55bf8b", func := "rondeau/rondeaulaw09.CodeTargets", spec := "codeTargets", named := ["rondeau/code.names"], apart := false, laid := [("rondeau/code.names", laid_rondeau_code_names)], narrowed := true }
def CodeTargetsUptoSaid : Prop := codeTargetsUptoRow.holds Tryd.pinned (OpenSpec.upto codeTargetsSpec)

/-- 'rondeaulaw09.CodePrints', WHERE WHAT IT READS IS OF BULK AT MOST 1048576: true; the input reads as it did. -/
def codePrintsUptoRow : OpenClaim := { program := "ytebgcehcnenjiaadoor", sum := "dae8689c94bfbb91f6db9eff065da78a2540763bfdc94a21af23b28d4f55bf8b", func := "rondeau/rondeaulaw09.CodePrints", spec := "codePrints", named := ["rondeau/code.names"], apart := false, laid := [("rondeau/code.names", laid_rondeau_code_names)], narrowed := true }
def CodePrintsUptoSaid : Prop := codePrintsUptoRow.holds Tryd.pinned (OpenSpec.upto codePrintsSpec)

/-- 'rondeaulaw09.CodeReads', WHERE WHAT IT READS IS OF BULK AT MOST 1048576: true; the input reads as it did. -/
def codeReadsUptoRow : OpenClaim := { program := "ytebgcehcnenjiaadoor", sum := "dae8689c94bfbb91f6db9eff065da78a2540763bfdc94a21af23b28d4f55bf8b", func := "rondeau/rondeaulaw09.CodeReads", spec := "codeReads", named := ["rondeau/code.names"], apart := false, laid := [("rondeau/code.names", laid_rondeau_code_names)], narrowed := true }
def CodeReadsUptoSaid : Prop := codeReadsUptoRow.holds Tryd.pinned (OpenSpec.upto codeReadsSpec)

/-- 'rondeaulaw09.CodeBack', WHERE WHAT IT READS IS OF BULK AT MOST 1048576: true; the input reads as it did. -/
def codeBackUptoRow : OpenClaim := { program := "ytebgcehcnenjiaadoor", sum := "dae8689c94bfbb91f6db9eff065da78a2540763bfdc94a21af23b28d4f55bf8b", func := "rondeau/rondeaulaw09.CodeBack", spec := "codeBack", named := ["rondeau/code.names"], apart := false, laid := [("rondeau/code.names", laid_rondeau_code_names)], narrowed := true }
def CodeBackUptoSaid : Prop := codeBackUptoRow.holds Tryd.pinned (OpenSpec.upto codeBackSpec)

/-- 'rondeaulaw09.CodeDigests', WHERE WHAT IT READS IS OF BULK AT MOST 1048576: true; the input reads as it did. -/
def codeDigestsUptoRow : OpenClaim := { program := "ytebgcehcnenjiaadoor", sum := "dae8689c94bfbb91f6db9eff065da78a2540763bfdc94a21af23b28d4f55bf8b", func := "rondeau/rondeaulaw09.CodeDigests", spec := "codeDigests", named := ["rondeau/code.names"], apart := false, laid := [("rondeau/code.names", laid_rondeau_code_names)], narrowed := true }
def CodeDigestsUptoSaid : Prop := codeDigestsUptoRow.holds Tryd.pinned (OpenSpec.upto codeDigestsSpec)

end Rows
end Go.Proofs.YtebgcehcnenjiaaDoor
