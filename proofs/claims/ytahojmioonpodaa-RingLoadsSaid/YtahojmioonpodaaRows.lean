/-
  No cell of these rows narrows 'for every input' (looked for: loops, veiled, ifaces, maps, wideKeys, modest, calm, conditions, laid).
  DERIVED. THE GIVEN ROWS OF THIS SEAT. 7 by the template 'for every input the law returns true; each argument reads behind the call as it read before'; 0 by the template 'total and deterministic' (their statements: YtahojmioonpodaaTotals.lean).
  GIVEN WITH THE SEED: the statements are not yours to turn. If you find one false, say at which input.
  Laid BY PROGRAM, IN A SANDBOX (cutbox-rows.mjs): the forced cells as the released guide's own fill.sh prints them over the translation d11ad2736767b6d3… (all of the seat's roots in one cut). By AI agents, Wed Nov 11 2026. No macro, syntax, notation, axiom, sorry.
-/
import Derived.Test.YtahojmioonpodaaChecked
import GoSem.Claim
import GoSem.ClaimJoined
import GoSem.ClaimMapViews
import Derived.JoinedTies
import Derived.KernelRfl
namespace Go.Proofs.Ytahojmioonpodaa
/- THE CELL 'sum', in the pinned program and in every row, IS THE sha256 OF THE DUMP (.gsa) THAT YtahojmioonpodaaProg.lean LOADS. Nothing in Lean hashes anything: it is a label: what it is worth is what the hold of that sum in a sandbox is worth. -/
noncomputable def Try.pinned : Pinned := { name := "ytahojmioonpodaa", sum := "d11ad2736767b6d386d73fac8a04ee66e41325594998fa2ae60ab7cf44158fdb", checked := Try.checked }
namespace Rows
def none {H : Type} : Left H := { results := [], args := [] }

/-- 'rondeaulaw13.RingPlays': WHATEVER THE INPUT: true; the input reads as it did. -/
def ringPlaysSpec : ChangeSpec := { name := "ringPlays", fn := fun _ => fun
  | [d1, d2] => { results := [.lit (.bool true)], args := [d1, d2] }
  | _ => none }
def ringPlaysRow : OpenClaim := { program := "ytahojmioonpodaa", sum := "d11ad2736767b6d386d73fac8a04ee66e41325594998fa2ae60ab7cf44158fdb", func := "rondeau/rondeaulaw13.RingPlays", spec := "ringPlays", plainKeys := false, apart := false }
def RingPlaysSaid : Prop := ringPlaysRow.holds Try.pinned (OpenSpec.ofChange ringPlaysSpec)

/-- ITS FALSE NEIGHBOUR: 'it returns false'. Refute it at one input. -/
def ringPlaysWrong : ChangeSpec := { name := "ringPlays", fn := fun _ => fun
  | [d1, d2] => { results := [.lit (.bool false)], args := [d1, d2] }
  | _ => none }
def RingPlaysWrongFalsely : Prop := ringPlaysRow.holds Try.pinned (OpenSpec.ofChange ringPlaysWrong)

/-- 'rondeaulaw13.RingLoads': WHATEVER THE INPUT: true; the input reads as it did. -/
def ringLoadsSpec : ChangeSpec := { name := "ringLoads", fn := fun _ => fun
  | [d1, d2, d3] => { results := [.lit (.bool true)], args := [d1, d2, d3] }
  | _ => none }
def ringLoadsRow : OpenClaim := { program := "ytahojmioonpodaa", sum := "d11ad2736767b6d386d73fac8a04ee66e41325594998fa2ae60ab7cf44158fdb", func := "rondeau/rondeaulaw13.RingLoads", spec := "ringLoads", plainKeys := false, apart := false }
def RingLoadsSaid : Prop := ringLoadsRow.holds Try.pinned (OpenSpec.ofChange ringLoadsSpec)

/-- ITS FALSE NEIGHBOUR: 'it returns false'. Refute it at one input. -/
def ringLoadsWrong : ChangeSpec := { name := "ringLoads", fn := fun _ => fun
  | [d1, d2, d3] => { results := [.lit (.bool false)], args := [d1, d2, d3] }
  | _ => none }
def RingLoadsWrongFalsely : Prop := ringLoadsRow.holds Try.pinned (OpenSpec.ofChange ringLoadsWrong)

/-- 'rondeaulaw13.RingReady': WHATEVER THE INPUT: true; the input reads as it did. -/
def ringReadySpec : ChangeSpec := { name := "ringReady", fn := fun _ => fun
  | [d1, d2, d3] => { results := [.lit (.bool true)], args := [d1, d2, d3] }
  | _ => none }
def ringReadyRow : OpenClaim := { program := "ytahojmioonpodaa", sum := "d11ad2736767b6d386d73fac8a04ee66e41325594998fa2ae60ab7cf44158fdb", func := "rondeau/rondeaulaw13.RingReady", spec := "ringReady", plainKeys := false, apart := false }
def RingReadySaid : Prop := ringReadyRow.holds Try.pinned (OpenSpec.ofChange ringReadySpec)

/-- ITS FALSE NEIGHBOUR: 'it returns false'. Refute it at one input. -/
def ringReadyWrong : ChangeSpec := { name := "ringReady", fn := fun _ => fun
  | [d1, d2, d3] => { results := [.lit (.bool false)], args := [d1, d2, d3] }
  | _ => none }
def RingReadyWrongFalsely : Prop := ringReadyRow.holds Try.pinned (OpenSpec.ofChange ringReadyWrong)

/-- 'rondeaulaw13.RingCounts': WHATEVER THE INPUT: true; the input reads as it did. -/
def ringCountsSpec : ChangeSpec := { name := "ringCounts", fn := fun _ => fun
  | [d1, d2] => { results := [.lit (.bool true)], args := [d1, d2] }
  | _ => none }
def ringCountsRow : OpenClaim := { program := "ytahojmioonpodaa", sum := "d11ad2736767b6d386d73fac8a04ee66e41325594998fa2ae60ab7cf44158fdb", func := "rondeau/rondeaulaw13.RingCounts", spec := "ringCounts", plainKeys := false, apart := false }
def RingCountsSaid : Prop := ringCountsRow.holds Try.pinned (OpenSpec.ofChange ringCountsSpec)

/-- ITS FALSE NEIGHBOUR: 'it returns false'. Refute it at one input. -/
def ringCountsWrong : ChangeSpec := { name := "ringCounts", fn := fun _ => fun
  | [d1, d2] => { results := [.lit (.bool false)], args := [d1, d2] }
  | _ => none }
def RingCountsWrongFalsely : Prop := ringCountsRow.holds Try.pinned (OpenSpec.ofChange ringCountsWrong)

/-- 'rondeaulaw13.RingOrder': WHATEVER THE INPUT: true; the input reads as it did. -/
def ringOrderSpec : ChangeSpec := { name := "ringOrder", fn := fun _ => fun
  | [d1, d2] => { results := [.lit (.bool true)], args := [d1, d2] }
  | _ => none }
def ringOrderRow : OpenClaim := { program := "ytahojmioonpodaa", sum := "d11ad2736767b6d386d73fac8a04ee66e41325594998fa2ae60ab7cf44158fdb", func := "rondeau/rondeaulaw13.RingOrder", spec := "ringOrder", plainKeys := false, apart := false }
def RingOrderSaid : Prop := ringOrderRow.holds Try.pinned (OpenSpec.ofChange ringOrderSpec)

/-- ITS FALSE NEIGHBOUR: 'it returns false'. Refute it at one input. -/
def ringOrderWrong : ChangeSpec := { name := "ringOrder", fn := fun _ => fun
  | [d1, d2] => { results := [.lit (.bool false)], args := [d1, d2] }
  | _ => none }
def RingOrderWrongFalsely : Prop := ringOrderRow.holds Try.pinned (OpenSpec.ofChange ringOrderWrong)

/-- 'rondeaulaw13.RingClosed': WHATEVER THE INPUT: true; the input reads as it did. -/
def ringClosedSpec : ChangeSpec := { name := "ringClosed", fn := fun _ => fun
  | [d1, d2] => { results := [.lit (.bool true)], args := [d1, d2] }
  | _ => none }
def ringClosedRow : OpenClaim := { program := "ytahojmioonpodaa", sum := "d11ad2736767b6d386d73fac8a04ee66e41325594998fa2ae60ab7cf44158fdb", func := "rondeau/rondeaulaw13.RingClosed", spec := "ringClosed", plainKeys := false, apart := false }
def RingClosedSaid : Prop := ringClosedRow.holds Try.pinned (OpenSpec.ofChange ringClosedSpec)

/-- ITS FALSE NEIGHBOUR: 'it returns false'. Refute it at one input. -/
def ringClosedWrong : ChangeSpec := { name := "ringClosed", fn := fun _ => fun
  | [d1, d2] => { results := [.lit (.bool false)], args := [d1, d2] }
  | _ => none }
def RingClosedWrongFalsely : Prop := ringClosedRow.holds Try.pinned (OpenSpec.ofChange ringClosedWrong)

/-- 'rondeaulaw13.RingNil': WHATEVER THE INPUT: true; the input reads as it did. -/
def ringNilSpec : ChangeSpec := { name := "ringNil", fn := fun _ => fun
  | [d] => { results := [.lit (.bool true)], args := [d] }
  | _ => none }
def ringNilRow : OpenClaim := { program := "ytahojmioonpodaa", sum := "d11ad2736767b6d386d73fac8a04ee66e41325594998fa2ae60ab7cf44158fdb", func := "rondeau/rondeaulaw13.RingNil", spec := "ringNil", plainKeys := false, apart := false }
def RingNilSaid : Prop := ringNilRow.holds Try.pinned (OpenSpec.ofChange ringNilSpec)

/-- ITS FALSE NEIGHBOUR: 'it returns false'. Refute it at one input. -/
def ringNilWrong : ChangeSpec := { name := "ringNil", fn := fun _ => fun
  | [d] => { results := [.lit (.bool false)], args := [d] }
  | _ => none }
def RingNilWrongFalsely : Prop := ringNilRow.holds Try.pinned (OpenSpec.ofChange ringNilWrong)

/- THE SECOND FORM. 'bulk': how many values and letters a reading holds, each counted each time it is reached (what is shared counts as often as it is met; a slice's spare places count too). A statement '..UptoSaid' is the law's where the arguments, and the package variables that the reading takes, are together of bulk at most 1048576: NARROWER than '..Said'. Prove '..Said' where nothing that the law and all that it calls make is longer than what came in: it says more and counts as full. Else prove '..UptoSaid'. A law counts once. -/
mutual
def uptoBulk {H : Type} : DataW H → Nat
  | .lit (.string bytes) => bytes.length + 1
  | .lit _ => 1
  | .nil => 1
  | .ptr d => uptoBulk d + 1
  | .slice elems spare => uptoBulkAll elems + uptoBulkAll spare + 1
  | .agg parts => uptoBulkAll parts + 1
  | .iface _ d => uptoBulk d + 1
  | .map entries => uptoBulkEntries entries + 1
  | .held _ => 1
def uptoBulkAll {H : Type} : List (DataW H) → Nat
  | [] => 0
  | d :: r => uptoBulk d + uptoBulkAll r
def uptoBulkEntries {H : Type} : List (Lit × DataW H) → Nat
  | [] => 0
  | x :: r => uptoBulkEntry x + uptoBulkEntries r
def uptoBulkEntry {H : Type} : Lit × DataW H → Nat
  | (.string bytes, d) => bytes.length + uptoBulk d + 1
  | (_, d) => uptoBulk d + 1
 end
def uptoSmall : (H : Type) → List (DataW H) → Bool := fun _ ds => decide (uptoBulkAll ds ≤ 1048576)
def OpenSpec.upto (s : _root_.Go.ChangeSpec) : _root_.Go.OpenSpec := { _root_.Go.OpenSpec.ofChange s with cond := some uptoSmall }

/-- 'rondeaulaw13.RingPlays', WHERE WHAT IT READS IS OF BULK AT MOST 1048576: true; the input reads as it did. -/
def ringPlaysUptoRow : OpenClaim := { program := "ytahojmioonpodaa", sum := "d11ad2736767b6d386d73fac8a04ee66e41325594998fa2ae60ab7cf44158fdb", func := "rondeau/rondeaulaw13.RingPlays", spec := "ringPlays", plainKeys := false, apart := false, narrowed := true }
def RingPlaysUptoSaid : Prop := ringPlaysUptoRow.holds Try.pinned (OpenSpec.upto ringPlaysSpec)

/-- 'rondeaulaw13.RingLoads', WHERE WHAT IT READS IS OF BULK AT MOST 1048576: true; the input reads as it did. -/
def ringLoadsUptoRow : OpenClaim := { program := "ytahojmioonpodaa", sum := "d11ad2736767b6d386d73fac8a04ee66e41325594998fa2ae60ab7cf44158fdb", func := "rondeau/rondeaulaw13.RingLoads", spec := "ringLoads", plainKeys := false, apart := false, narrowed := true }
def RingLoadsUptoSaid : Prop := ringLoadsUptoRow.holds Try.pinned (OpenSpec.upto ringLoadsSpec)

/-- 'rondeaulaw13.RingReady', WHERE WHAT IT READS IS OF BULK AT MOST 1048576: true; the input reads as it did. -/
def ringReadyUptoRow : OpenClaim := { program := "ytahojmioonpodaa", sum := "d11ad2736767b6d386d73fac8a04ee66e41325594998fa2ae60ab7cf44158fdb", func := "rondeau/rondeaulaw13.RingReady", spec := "ringReady", plainKeys := false, apart := false, narrowed := true }
def RingReadyUptoSaid : Prop := ringReadyUptoRow.holds Try.pinned (OpenSpec.upto ringReadySpec)

/-- 'rondeaulaw13.RingCounts', WHERE WHAT IT READS IS OF BULK AT MOST 1048576: true; the input reads as it did. -/
def ringCountsUptoRow : OpenClaim := { program := "ytahojmioonpodaa", sum := "d11ad2736767b6d386d73fac8a04ee66e41325594998fa2ae60ab7cf44158fdb", func := "rondeau/rondeaulaw13.RingCounts", spec := "ringCounts", plainKeys := false, apart := false, narrowed := true }
def RingCountsUptoSaid : Prop := ringCountsUptoRow.holds Try.pinned (OpenSpec.upto ringCountsSpec)

/-- 'rondeaulaw13.RingOrder', WHERE WHAT IT READS IS OF BULK AT MOST 1048576: true; the input reads as it did. -/
def ringOrderUptoRow : OpenClaim := { program := "ytahojmioonpodaa", sum := "d11ad2736767b6d386d73fac8a04ee66e41325594998fa2ae60ab7cf44158fdb", func := "rondeau/rondeaulaw13.RingOrder", spec := "ringOrder", plainKeys := false, apart := false, narrowed := true }
def RingOrderUptoSaid : Prop := ringOrderUptoRow.holds Try.pinned (OpenSpec.upto ringOrderSpec)

/-- 'rondeaulaw13.RingClosed', WHERE WHAT IT READS IS OF BULK AT MOST 1048576: true; the input reads as it did. -/
def ringClosedUptoRow : OpenClaim := { program := "ytahojmioonpodaa", sum := "d11ad2736767b6d386d73fac8a04ee66e41325594998fa2ae60ab7cf44158fdb", func := "rondeau/rondeaulaw13.RingClosed", spec := "ringClosed", plainKeys := false, apart := false, narrowed := true }
def RingClosedUptoSaid : Prop := ringClosedUptoRow.holds Try.pinned (OpenSpec.upto ringClosedSpec)

/-- 'rondeaulaw13.RingNil', WHERE WHAT IT READS IS OF BULK AT MOST 1048576: true; the input reads as it did. -/
def ringNilUptoRow : OpenClaim := { program := "ytahojmioonpodaa", sum := "d11ad2736767b6d386d73fac8a04ee66e41325594998fa2ae60ab7cf44158fdb", func := "rondeau/rondeaulaw13.RingNil", spec := "ringNil", plainKeys := false, apart := false, narrowed := true }
def RingNilUptoSaid : Prop := ringNilUptoRow.holds Try.pinned (OpenSpec.upto ringNilSpec)

end Rows
end Go.Proofs.Ytahojmioonpodaa
