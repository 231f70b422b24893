/-
  No cell of these rows narrows 'for every input' (looked for: loops, veiled, ifaces, maps, wideKeys, modest, calm, conditions, laid).
  DERIVED. THE GIVEN ROWS OF THIS SEAT. 5 by the template 'for every input the law returns true; each argument reads behind the call as it read before'; 0 by the template 'total and deterministic' (their statements: YtiegmpjoiekekaaTotals.lean).
  GIVEN WITH THE SEED: the statements are not yours to turn. If you find one false, say at which input.
  Laid BY PROGRAM, IN A SANDBOX (cutbox-rows.mjs): the forced cells as the released guide's own fill.sh prints them over the translation 0f4e698b77496f6a… (all of the seat's roots in one cut). By AI agents, Wed Nov 11 2026. No macro, syntax, notation, axiom, sorry.
-/
import Derived.Test.YtiegmpjoiekekaaChecked
import GoSem.Claim
import GoSem.ClaimJoined
import GoSem.ClaimMapViews
import Derived.JoinedTies
import Derived.KernelRfl
namespace Go.Proofs.Ytiegmpjoiekekaa
/- THE CELL 'sum', in the pinned program and in every row, IS THE sha256 OF THE DUMP (.gsa) THAT YtiegmpjoiekekaaProg.lean LOADS. Nothing in Lean hashes anything: it is a label: what it is worth is what the hold of that sum in a sandbox is worth. -/
noncomputable def Try.pinned : Pinned := { name := "ytiegmpjoiekekaa", sum := "0f4e698b77496f6a83cd8823eb886bcafc0f41dd427ece5a491696a322a23fca", checked := Try.checked }
namespace Rows
def none {H : Type} : Left H := { results := [], args := [] }

/-- 'rondeaulaw16.ThreadNext': WHATEVER THE INPUT: true; the input reads as it did. -/
def threadNextSpec : ChangeSpec := { name := "threadNext", fn := fun _ => fun
  | [d1, d2] => { results := [.lit (.bool true)], args := [d1, d2] }
  | _ => none }
def threadNextRow : OpenClaim := { program := "ytiegmpjoiekekaa", sum := "0f4e698b77496f6a83cd8823eb886bcafc0f41dd427ece5a491696a322a23fca", func := "rondeau/rondeaulaw16.ThreadNext", spec := "threadNext", apart := false }
def ThreadNextSaid : Prop := threadNextRow.holds Try.pinned (OpenSpec.ofChange threadNextSpec)

/-- ITS FALSE NEIGHBOUR: 'it returns false'. Refute it at one input. -/
def threadNextWrong : ChangeSpec := { name := "threadNext", fn := fun _ => fun
  | [d1, d2] => { results := [.lit (.bool false)], args := [d1, d2] }
  | _ => none }
def ThreadNextWrongFalsely : Prop := threadNextRow.holds Try.pinned (OpenSpec.ofChange threadNextWrong)

/-- 'rondeaulaw16.ThreadDoes': WHATEVER THE INPUT: true; the input reads as it did. -/
def threadDoesSpec : ChangeSpec := { name := "threadDoes", fn := fun _ => fun
  | [d1, d2, d3, d4] => { results := [.lit (.bool true)], args := [d1, d2, d3, d4] }
  | _ => none }
def threadDoesRow : OpenClaim := { program := "ytiegmpjoiekekaa", sum := "0f4e698b77496f6a83cd8823eb886bcafc0f41dd427ece5a491696a322a23fca", func := "rondeau/rondeaulaw16.ThreadDoes", spec := "threadDoes", apart := false }
def ThreadDoesSaid : Prop := threadDoesRow.holds Try.pinned (OpenSpec.ofChange threadDoesSpec)

/-- ITS FALSE NEIGHBOUR: 'it returns false'. Refute it at one input. -/
def threadDoesWrong : ChangeSpec := { name := "threadDoes", fn := fun _ => fun
  | [d1, d2, d3, d4] => { results := [.lit (.bool false)], args := [d1, d2, d3, d4] }
  | _ => none }
def ThreadDoesWrongFalsely : Prop := threadDoesRow.holds Try.pinned (OpenSpec.ofChange threadDoesWrong)

/-- 'rondeaulaw16.ThreadKeeps': WHATEVER THE INPUT: true; the input reads as it did. -/
def threadKeepsSpec : ChangeSpec := { name := "threadKeeps", fn := fun _ => fun
  | [d1, d2, d3, d4] => { results := [.lit (.bool true)], args := [d1, d2, d3, d4] }
  | _ => none }
def threadKeepsRow : OpenClaim := { program := "ytiegmpjoiekekaa", sum := "0f4e698b77496f6a83cd8823eb886bcafc0f41dd427ece5a491696a322a23fca", func := "rondeau/rondeaulaw16.ThreadKeeps", spec := "threadKeeps", apart := false }
def ThreadKeepsSaid : Prop := threadKeepsRow.holds Try.pinned (OpenSpec.ofChange threadKeepsSpec)

/-- ITS FALSE NEIGHBOUR: 'it returns false'. Refute it at one input. -/
def threadKeepsWrong : ChangeSpec := { name := "threadKeeps", fn := fun _ => fun
  | [d1, d2, d3, d4] => { results := [.lit (.bool false)], args := [d1, d2, d3, d4] }
  | _ => none }
def ThreadKeepsWrongFalsely : Prop := threadKeepsRow.holds Try.pinned (OpenSpec.ofChange threadKeepsWrong)

/-- 'rondeaulaw16.ThreadFits': WHATEVER THE INPUT: true; the input reads as it did. -/
def threadFitsSpec : ChangeSpec := { name := "threadFits", fn := fun _ => fun
  | [d1, d2, d3] => { results := [.lit (.bool true)], args := [d1, d2, d3] }
  | _ => none }
def threadFitsRow : OpenClaim := { program := "ytiegmpjoiekekaa", sum := "0f4e698b77496f6a83cd8823eb886bcafc0f41dd427ece5a491696a322a23fca", func := "rondeau/rondeaulaw16.ThreadFits", spec := "threadFits", apart := false }
def ThreadFitsSaid : Prop := threadFitsRow.holds Try.pinned (OpenSpec.ofChange threadFitsSpec)

/-- ITS FALSE NEIGHBOUR: 'it returns false'. Refute it at one input. -/
def threadFitsWrong : ChangeSpec := { name := "threadFits", fn := fun _ => fun
  | [d1, d2, d3] => { results := [.lit (.bool false)], args := [d1, d2, d3] }
  | _ => none }
def ThreadFitsWrongFalsely : Prop := threadFitsRow.holds Try.pinned (OpenSpec.ofChange threadFitsWrong)

/-- 'rondeaulaw16.ThreadSpins': WHATEVER THE INPUT: true; the input reads as it did. -/
def threadSpinsSpec : ChangeSpec := { name := "threadSpins", fn := fun _ => fun
  | [d1, d2] => { results := [.lit (.bool true)], args := [d1, d2] }
  | _ => none }
def threadSpinsRow : OpenClaim := { program := "ytiegmpjoiekekaa", sum := "0f4e698b77496f6a83cd8823eb886bcafc0f41dd427ece5a491696a322a23fca", func := "rondeau/rondeaulaw16.ThreadSpins", spec := "threadSpins", apart := false }
def ThreadSpinsSaid : Prop := threadSpinsRow.holds Try.pinned (OpenSpec.ofChange threadSpinsSpec)

/-- ITS FALSE NEIGHBOUR: 'it returns false'. Refute it at one input. -/
def threadSpinsWrong : ChangeSpec := { name := "threadSpins", fn := fun _ => fun
  | [d1, d2] => { results := [.lit (.bool false)], args := [d1, d2] }
  | _ => none }
def ThreadSpinsWrongFalsely : Prop := threadSpinsRow.holds Try.pinned (OpenSpec.ofChange threadSpinsWrong)

/- THE SECOND FORM. 'bulk': how many values and letters a reading holds, each counted each time it is reached (what is shared counts as often as it is met; a slice's spare places count too). A statement '..UptoSaid' is the law's where the arguments, and the package variables that the reading takes, are together of bulk at most 1048576: NARROWER than '..Said'. Prove '..Said' where nothing that the law and all that it calls make is longer than what came in: it says more and counts as full. Else prove '..UptoSaid'. A law counts once. -/
mutual
def uptoBulk {H : Type} : DataW H → Nat
  | .lit (.string bytes) => bytes.length + 1
  | .lit _ => 1
  | .nil => 1
  | .ptr d => uptoBulk d + 1
  | .slice elems spare => uptoBulkAll elems + uptoBulkAll spare + 1
  | .agg parts => uptoBulkAll parts + 1
  | .iface _ d => uptoBulk d + 1
  | .map entries => uptoBulkEntries entries + 1
  | .held _ => 1
def uptoBulkAll {H : Type} : List (DataW H) → Nat
  | [] => 0
  | d :: r => uptoBulk d + uptoBulkAll r
def uptoBulkEntries {H : Type} : List (Lit × DataW H) → Nat
  | [] => 0
  | x :: r => uptoBulkEntry x + uptoBulkEntries r
def uptoBulkEntry {H : Type} : Lit × DataW H → Nat
  | (.string bytes, d) => bytes.length + uptoBulk d + 1
  | (_, d) => uptoBulk d + 1
 end
def uptoSmall : (H : Type) → List (DataW H) → Bool := fun _ ds => decide (uptoBulkAll ds ≤ 1048576)
def OpenSpec.upto (s : _root_.Go.ChangeSpec) : _root_.Go.OpenSpec := { _root_.Go.OpenSpec.ofChange s with cond := some uptoSmall }

/-- 'rondeaulaw16.ThreadNext', WHERE WHAT IT READS IS OF BULK AT MOST 1048576: true; the input reads as it did. -/
def threadNextUptoRow : OpenClaim := { program := "ytiegmpjoiekekaa", sum := "0f4e698b77496f6a83cd8823eb886bcafc0f41dd427ece5a491696a322a23fca", func := "rondeau/rondeaulaw16.ThreadNext", spec := "threadNext", apart := false, narrowed := true }
def ThreadNextUptoSaid : Prop := threadNextUptoRow.holds Try.pinned (OpenSpec.upto threadNextSpec)

/-- 'rondeaulaw16.ThreadDoes', WHERE WHAT IT READS IS OF BULK AT MOST 1048576: true; the input reads as it did. -/
def threadDoesUptoRow : OpenClaim := { program := "ytiegmpjoiekekaa", sum := "0f4e698b77496f6a83cd8823eb886bcafc0f41dd427ece5a491696a322a23fca", func := "rondeau/rondeaulaw16.ThreadDoes", spec := "threadDoes", apart := false, narrowed := true }
def ThreadDoesUptoSaid : Prop := threadDoesUptoRow.holds Try.pinned (OpenSpec.upto threadDoesSpec)

/-- 'rondeaulaw16.ThreadKeeps', WHERE WHAT IT READS IS OF BULK AT MOST 1048576: true; the input reads as it did. -/
def threadKeepsUptoRow : OpenClaim := { program := "ytiegmpjoiekekaa", sum := "0f4e698b77496f6a83cd8823eb886bcafc0f41dd427ece5a491696a322a23fca", func := "rondeau/rondeaulaw16.ThreadKeeps", spec := "threadKeeps", apart := false, narrowed := true }
def ThreadKeepsUptoSaid : Prop := threadKeepsUptoRow.holds Try.pinned (OpenSpec.upto threadKeepsSpec)

/-- 'rondeaulaw16.ThreadFits', WHERE WHAT IT READS IS OF BULK AT MOST 1048576: true; the input reads as it did. -/
def threadFitsUptoRow : OpenClaim := { program := "ytiegmpjoiekekaa", sum := "0f4e698b77496f6a83cd8823eb886bcafc0f41dd427ece5a491696a322a23fca", func := "rondeau/rondeaulaw16.ThreadFits", spec := "threadFits", apart := false, narrowed := true }
def ThreadFitsUptoSaid : Prop := threadFitsUptoRow.holds Try.pinned (OpenSpec.upto threadFitsSpec)

/-- 'rondeaulaw16.ThreadSpins', WHERE WHAT IT READS IS OF BULK AT MOST 1048576: true; the input reads as it did. -/
def threadSpinsUptoRow : OpenClaim := { program := "ytiegmpjoiekekaa", sum := "0f4e698b77496f6a83cd8823eb886bcafc0f41dd427ece5a491696a322a23fca", func := "rondeau/rondeaulaw16.ThreadSpins", spec := "threadSpins", apart := false, narrowed := true }
def ThreadSpinsUptoSaid : Prop := threadSpinsUptoRow.holds Try.pinned (OpenSpec.upto threadSpinsSpec)

end Rows
end Go.Proofs.Ytiegmpjoiekekaa
