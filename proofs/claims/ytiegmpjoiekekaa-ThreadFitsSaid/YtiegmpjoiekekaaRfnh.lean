/-
  Up to what is seen (layer 16): the document's Next, of a thread that runs: what it stops at.
-/
import Derived.Test.YtiegmpjoiekekaaRfna
namespace Go.Proofs.Ytiegmpjoiekekaa
open Go.RowKit
set_option linter.unusedVariables false
set_option linter.unusedSimpArgs false
theorem plT_out {l : List In} {x : Th} {i : In} (ha : atT l x = i) (h : 17 < i.op) : plT l x = false := by
  unfold plT; rw [ha, decide_eq_false (show ¬ i.op ≤ 17 by omega), Bool.and_false, Bool.and_false]
theorem plT_end {l : List In} {x : Th} (h : x.at_ = (l.length : Int)) : plT l x = false := by
  unfold plT; rw [decide_eq_false (by omega), Bool.false_and]
theorem plT_in {l : List In} {x : Th} {i : In} (ha : atT l x = i) (hl : x.at_ < (l.length : Int)) (h1 : 1 ≤ i.op) (h : i.op ≤ 17) : plT l x = true := by
  unfold plT; rw [ha, decide_eq_true hl, decide_eq_true h, decide_eq_true h1]; rfl
theorem reqA_vis {l : List In} {x : Th} {i : In} (hs : x.st = 0) (hp : x.ph = 0) (h2 : x.at_ ≠ (l.length : Int)) (ha : atT l x = i) (h : 17 < i.op) : reqA l x = visA i x := by
  rw [reqA_in hs h2 ha, if_neg (by omega), if_neg (by omega), if_neg]
  rw [decide_eq_false (show ¬ i.op ≤ 17 by omega), Bool.and_false]; decide
theorem reqA_spin {l : List In} {x : Th} {i : In} (hs : x.st = 0) (hp : x.ph = 0) (h2 : x.at_ ≠ (l.length : Int)) (ha : atT l x = i) (h1 : 1 ≤ i.op) (h : i.op ≤ 17) : reqA l x = noneA 9 := by
  rw [reqA_in hs h2 ha, if_neg (by omega), if_neg (by omega), if_pos]
  rw [decide_eq_true h, decide_eq_true h1]; rfl
end Go.Proofs.Ytiegmpjoiekekaa
