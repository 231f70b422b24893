/-
  No cell of these rows narrows 'for every input' (looked for: loops, veiled, ifaces, maps, wideKeys, modest, calm, conditions, laid).
  DERIVED. THE GIVEN ROWS OF THIS SEAT. 6 by the template 'for every input the law returns true; each argument reads behind the call as it read before'; 0 by the template 'total and deterministic' (their statements: YtflaaogopcgdaaaTotals.lean).
  GIVEN WITH THE SEED: the statements are not yours to turn. If you find one false, say at which input.
  Laid BY PROGRAM, IN A SANDBOX (cutbox-rows.mjs): the forced cells as the released guide's own fill.sh prints them over the translation aa498b5fe2e73daf… (all of the seat's roots in one cut). By AI agents, Wed Nov 11 2026. No macro, syntax, notation, axiom, sorry.
-/
import Derived.Test.YtflaaogopcgdaaaChecked
import GoSem.Claim
import GoSem.ClaimJoined
import GoSem.ClaimMapViews
import Derived.JoinedTies
import Derived.KernelRfl
namespace Go.Proofs.Ytflaaogopcgdaaa
/- THE CELL 'sum', in the pinned program and in every row, IS THE sha256 OF THE DUMP (.gsa) THAT YtflaaogopcgdaaaProg.lean LOADS. Nothing in Lean hashes anything: it is a label: what it is worth is what the hold of that sum in a sandbox is worth. -/
noncomputable def Try.pinned : Pinned := { name := "ytflaaogopcgdaaa", sum := "aa498b5fe2e73dafbf0492b2d2e8cf418570f855e467f7173259dc2fd0a3d340", checked := Try.checked }
namespace Rows
def none {H : Type} : Left H := { results := [], args := [] }

/-- 'rondeaulaw14.ModelPlays': WHATEVER THE INPUT: true; the input reads as it did. -/
def modelPlaysSpec : ChangeSpec := { name := "modelPlays", fn := fun _ => fun
  | [d1, d2] => { results := [.lit (.bool true)], args := [d1, d2] }
  | _ => none }
def modelPlaysRow : OpenClaim := { program := "ytflaaogopcgdaaa", sum := "aa498b5fe2e73dafbf0492b2d2e8cf418570f855e467f7173259dc2fd0a3d340", func := "rondeau/rondeaulaw14.ModelPlays", spec := "modelPlays", apart := false }
def ModelPlaysSaid : Prop := modelPlaysRow.holds Try.pinned (OpenSpec.ofChange modelPlaysSpec)

/-- ITS FALSE NEIGHBOUR: 'it returns false'. Refute it at one input. -/
def modelPlaysWrong : ChangeSpec := { name := "modelPlays", fn := fun _ => fun
  | [d1, d2] => { results := [.lit (.bool false)], args := [d1, d2] }
  | _ => none }
def ModelPlaysWrongFalsely : Prop := modelPlaysRow.holds Try.pinned (OpenSpec.ofChange modelPlaysWrong)

/-- 'rondeaulaw14.ModelQueue': WHATEVER THE INPUT: true; the input reads as it did. -/
def modelQueueSpec : ChangeSpec := { name := "modelQueue", fn := fun _ => fun
  | [d1, d2] => { results := [.lit (.bool true)], args := [d1, d2] }
  | _ => none }
def modelQueueRow : OpenClaim := { program := "ytflaaogopcgdaaa", sum := "aa498b5fe2e73dafbf0492b2d2e8cf418570f855e467f7173259dc2fd0a3d340", func := "rondeau/rondeaulaw14.ModelQueue", spec := "modelQueue", apart := false }
def ModelQueueSaid : Prop := modelQueueRow.holds Try.pinned (OpenSpec.ofChange modelQueueSpec)

/-- ITS FALSE NEIGHBOUR: 'it returns false'. Refute it at one input. -/
def modelQueueWrong : ChangeSpec := { name := "modelQueue", fn := fun _ => fun
  | [d1, d2] => { results := [.lit (.bool false)], args := [d1, d2] }
  | _ => none }
def ModelQueueWrongFalsely : Prop := modelQueueRow.holds Try.pinned (OpenSpec.ofChange modelQueueWrong)

/-- 'rondeaulaw14.ModelReaders': WHATEVER THE INPUT: true; the input reads as it did. -/
def modelReadersSpec : ChangeSpec := { name := "modelReaders", fn := fun _ => fun
  | [d1, d2] => { results := [.lit (.bool true)], args := [d1, d2] }
  | _ => none }
def modelReadersRow : OpenClaim := { program := "ytflaaogopcgdaaa", sum := "aa498b5fe2e73dafbf0492b2d2e8cf418570f855e467f7173259dc2fd0a3d340", func := "rondeau/rondeaulaw14.ModelReaders", spec := "modelReaders", apart := false }
def ModelReadersSaid : Prop := modelReadersRow.holds Try.pinned (OpenSpec.ofChange modelReadersSpec)

/-- ITS FALSE NEIGHBOUR: 'it returns false'. Refute it at one input. -/
def modelReadersWrong : ChangeSpec := { name := "modelReaders", fn := fun _ => fun
  | [d1, d2] => { results := [.lit (.bool false)], args := [d1, d2] }
  | _ => none }
def ModelReadersWrongFalsely : Prop := modelReadersRow.holds Try.pinned (OpenSpec.ofChange modelReadersWrong)

/-- 'rondeaulaw14.ModelLinear': WHATEVER THE INPUT: true; the input reads as it did. -/
def modelLinearSpec : ChangeSpec := { name := "modelLinear", fn := fun _ => fun
  | [d1, d2] => { results := [.lit (.bool true)], args := [d1, d2] }
  | _ => none }
def modelLinearRow : OpenClaim := { program := "ytflaaogopcgdaaa", sum := "aa498b5fe2e73dafbf0492b2d2e8cf418570f855e467f7173259dc2fd0a3d340", func := "rondeau/rondeaulaw14.ModelLinear", spec := "modelLinear", apart := false }
def ModelLinearSaid : Prop := modelLinearRow.holds Try.pinned (OpenSpec.ofChange modelLinearSpec)

/-- ITS FALSE NEIGHBOUR: 'it returns false'. Refute it at one input. -/
def modelLinearWrong : ChangeSpec := { name := "modelLinear", fn := fun _ => fun
  | [d1, d2] => { results := [.lit (.bool false)], args := [d1, d2] }
  | _ => none }
def ModelLinearWrongFalsely : Prop := modelLinearRow.holds Try.pinned (OpenSpec.ofChange modelLinearWrong)

/-- 'rondeaulaw14.ModelProgress': WHATEVER THE INPUT: true; the input reads as it did. -/
def modelProgressSpec : ChangeSpec := { name := "modelProgress", fn := fun _ => fun
  | [d1, d2] => { results := [.lit (.bool true)], args := [d1, d2] }
  | _ => none }
def modelProgressRow : OpenClaim := { program := "ytflaaogopcgdaaa", sum := "aa498b5fe2e73dafbf0492b2d2e8cf418570f855e467f7173259dc2fd0a3d340", func := "rondeau/rondeaulaw14.ModelProgress", spec := "modelProgress", apart := false }
def ModelProgressSaid : Prop := modelProgressRow.holds Try.pinned (OpenSpec.ofChange modelProgressSpec)

/-- ITS FALSE NEIGHBOUR: 'it returns false'. Refute it at one input. -/
def modelProgressWrong : ChangeSpec := { name := "modelProgress", fn := fun _ => fun
  | [d1, d2] => { results := [.lit (.bool false)], args := [d1, d2] }
  | _ => none }
def ModelProgressWrongFalsely : Prop := modelProgressRow.holds Try.pinned (OpenSpec.ofChange modelProgressWrong)

/-- 'rondeaulaw14.ModelNil': WHATEVER THE INPUT: true; the input reads as it did. -/
def modelNilSpec : ChangeSpec := { name := "modelNil", fn := fun _ => fun
  | [d1, d2] => { results := [.lit (.bool true)], args := [d1, d2] }
  | _ => none }
def modelNilRow : OpenClaim := { program := "ytflaaogopcgdaaa", sum := "aa498b5fe2e73dafbf0492b2d2e8cf418570f855e467f7173259dc2fd0a3d340", func := "rondeau/rondeaulaw14.ModelNil", spec := "modelNil", apart := false }
def ModelNilSaid : Prop := modelNilRow.holds Try.pinned (OpenSpec.ofChange modelNilSpec)

/-- ITS FALSE NEIGHBOUR: 'it returns false'. Refute it at one input. -/
def modelNilWrong : ChangeSpec := { name := "modelNil", fn := fun _ => fun
  | [d1, d2] => { results := [.lit (.bool false)], args := [d1, d2] }
  | _ => none }
def ModelNilWrongFalsely : Prop := modelNilRow.holds Try.pinned (OpenSpec.ofChange modelNilWrong)

/- THE SECOND FORM. 'bulk': how many values and letters a reading holds, each counted each time it is reached (what is shared counts as often as it is met; a slice's spare places count too). A statement '..UptoSaid' is the law's where the arguments, and the package variables that the reading takes, are together of bulk at most 1048576: NARROWER than '..Said'. Prove '..Said' where nothing that the law and all that it calls make is longer than what came in: it says more and counts as full. Else prove '..UptoSaid'. A law counts once. -/
mutual
def uptoBulk {H : Type} : DataW H → Nat
  | .lit (.string bytes) => bytes.length + 1
  | .lit _ => 1
  | .nil => 1
  | .ptr d => uptoBulk d + 1
  | .slice elems spare => uptoBulkAll elems + uptoBulkAll spare + 1
  | .agg parts => uptoBulkAll parts + 1
  | .iface _ d => uptoBulk d + 1
  | .map entries => uptoBulkEntries entries + 1
  | .held _ => 1
def uptoBulkAll {H : Type} : List (DataW H) → Nat
  | [] => 0
  | d :: r => uptoBulk d + uptoBulkAll r
def uptoBulkEntries {H : Type} : List (Lit × DataW H) → Nat
  | [] => 0
  | x :: r => uptoBulkEntry x + uptoBulkEntries r
def uptoBulkEntry {H : Type} : Lit × DataW H → Nat
  | (.string bytes, d) => bytes.length + uptoBulk d + 1
  | (_, d) => uptoBulk d + 1
 end
def uptoSmall : (H : Type) → List (DataW H) → Bool := fun _ ds => decide (uptoBulkAll ds ≤ 1048576)
def OpenSpec.upto (s : _root_.Go.ChangeSpec) : _root_.Go.OpenSpec := { _root_.Go.OpenSpec.ofChange s with cond := some uptoSmall }

/-- 'rondeaulaw14.ModelPlays', WHERE WHAT IT READS IS OF BULK AT MOST 1048576: true; the input reads as it did. -/
def modelPlaysUptoRow : OpenClaim := { program := "ytflaaogopcgdaaa", sum := "aa498b5fe2e73dafbf0492b2d2e8cf418570f855e467f7173259dc2fd0a3d340", func := "rondeau/rondeaulaw14.ModelPlays", spec := "modelPlays", apart := false, narrowed := true }
def ModelPlaysUptoSaid : Prop := modelPlaysUptoRow.holds Try.pinned (OpenSpec.upto modelPlaysSpec)

/-- 'rondeaulaw14.ModelQueue', WHERE WHAT IT READS IS OF BULK AT MOST 1048576: true; the input reads as it did. -/
def modelQueueUptoRow : OpenClaim := { program := "ytflaaogopcgdaaa", sum := "aa498b5fe2e73dafbf0492b2d2e8cf418570f855e467f7173259dc2fd0a3d340", func := "rondeau/rondeaulaw14.ModelQueue", spec := "modelQueue", apart := false, narrowed := true }
def ModelQueueUptoSaid : Prop := modelQueueUptoRow.holds Try.pinned (OpenSpec.upto modelQueueSpec)

/-- 'rondeaulaw14.ModelReaders', WHERE WHAT IT READS IS OF BULK AT MOST 1048576: true; the input reads as it did. -/
def modelReadersUptoRow : OpenClaim := { program := "ytflaaogopcgdaaa", sum := "aa498b5fe2e73dafbf0492b2d2e8cf418570f855e467f7173259dc2fd0a3d340", func := "rondeau/rondeaulaw14.ModelReaders", spec := "modelReaders", apart := false, narrowed := true }
def ModelReadersUptoSaid : Prop := modelReadersUptoRow.holds Try.pinned (OpenSpec.upto modelReadersSpec)

/-- 'rondeaulaw14.ModelLinear', WHERE WHAT IT READS IS OF BULK AT MOST 1048576: true; the input reads as it did. -/
def modelLinearUptoRow : OpenClaim := { program := "ytflaaogopcgdaaa", sum := "aa498b5fe2e73dafbf0492b2d2e8cf418570f855e467f7173259dc2fd0a3d340", func := "rondeau/rondeaulaw14.ModelLinear", spec := "modelLinear", apart := false, narrowed := true }
def ModelLinearUptoSaid : Prop := modelLinearUptoRow.holds Try.pinned (OpenSpec.upto modelLinearSpec)

/-- 'rondeaulaw14.ModelProgress', WHERE WHAT IT READS IS OF BULK AT MOST 1048576: true; the input reads as it did. -/
def modelProgressUptoRow : OpenClaim := { program := "ytflaaogopcgdaaa", sum := "aa498b5fe2e73dafbf0492b2d2e8cf418570f855e467f7173259dc2fd0a3d340", func := "rondeau/rondeaulaw14.ModelProgress", spec := "modelProgress", apart := false, narrowed := true }
def ModelProgressUptoSaid : Prop := modelProgressUptoRow.holds Try.pinned (OpenSpec.upto modelProgressSpec)

/-- 'rondeaulaw14.ModelNil', WHERE WHAT IT READS IS OF BULK AT MOST 1048576: true; the input reads as it did. -/
def modelNilUptoRow : OpenClaim := { program := "ytflaaogopcgdaaa", sum := "aa498b5fe2e73dafbf0492b2d2e8cf418570f855e467f7173259dc2fd0a3d340", func := "rondeau/rondeaulaw14.ModelNil", spec := "modelNil", apart := false, narrowed := true }
def ModelNilUptoSaid : Prop := modelNilUptoRow.holds Try.pinned (OpenSpec.upto modelNilSpec)

end Rows
end Go.Proofs.Ytflaaogopcgdaaa
