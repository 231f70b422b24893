/-
  The program's own code: within, Plain, Seen, greatest, Right, Jumps.
-/
import Derived.Test.YtiegmpjoiekekaaPrg
import Derived.Test.YtiegmpjoiekekaaQuiet
import Derived.Test.YtiegmpjoiekekaaRows
namespace Go.Proofs.Ytiegmpjoiekekaa
open Go.RowKit
set_option linter.unusedVariables false
set_option linter.unusedSimpArgs false
theorem within_any (n m : Int) (w : World) : Calls Try.prog 45 #[.int .i64 n, .int .i64 m] w fun e w' => e = .returned (.bool (wB n m)) ∧ w = w' := by
  unfold wB
  by_cases h : (0 : Int) ≤ n
  · have e1 : decide ((0 : Int) ≤ n) = true := by simpa using h
    go_enter Try.func45, Try.ntmps45
    go_wp2
    go_ret
    exact ⟨by simp [h], rfl⟩
  · have e1 : decide ((0 : Int) ≤ n) = false := by simpa using h
    go_enter Try.func45, Try.ntmps45
    go_wp2
    go_ret
    exact ⟨by simp [h], rfl⟩
theorem plain_any (n : Int) (w : World) : Calls Try.prog 40 #[.int .i64 n] w fun e w' => e = .returned (.bool (decide (1 ≤ n) && decide (n ≤ 17))) ∧ w = w' := by
  by_cases h : (1 : Int) ≤ n
  · have e1 : decide ((1 : Int) ≤ n) = true := by simpa using h
    go_enter Try.func40, Try.ntmps40
    go_wp2
    go_ret
    exact ⟨by simp [h], rfl⟩
  · have e1 : decide ((1 : Int) ≤ n) = false := by simpa using h
    go_enter Try.func40, Try.ntmps40
    go_wp2
    go_ret
    exact ⟨by simp [h], rfl⟩
theorem seen_any (n : Int) (w : World) : Calls Try.prog 43 #[.int .i64 n] w fun e w' => e = .returned (.bool (decide (18 ≤ n) && decide (n ≤ 25))) ∧ w = w' := by
  by_cases h : (18 : Int) ≤ n
  · have e1 : decide ((18 : Int) ≤ n) = true := by simpa using h
    go_enter Try.func43, Try.ntmps43
    go_wp2
    go_ret
    exact ⟨by simp [h], rfl⟩
  · have e1 : decide ((18 : Int) ≤ n) = false := by simpa using h
    go_enter Try.func43, Try.ntmps43
    go_wp2
    go_ret
    exact ⟨by simp [h], rfl⟩
/-- What greatest makes. -/
def gV (op : Int) : Value := .agg #[.int .i64 0, .int .i64 (gL op).1, .int .i64 (gL op).2.1, .int .i64 (gL op).2.2.1, .int .i64 (gL op).2.2.2, .int .u64 (gK op : Int)]
set_option maxHeartbeats 8000000 in
theorem greatest_lit (op : Int) (w : World) (h : op = 1 ∨ op = 2 ∨ op = 3 ∨ op = 4 ∨ op = 5 ∨ op = 6 ∨ op = 7 ∨ op = 8 ∨ op = 9 ∨ op = 10 ∨ op = 11 ∨ op = 12 ∨ op = 13 ∨ op = 14 ∨ op = 15 ∨ op = 16 ∨ op = 17 ∨ op = 18 ∨ op = 19 ∨ op = 20 ∨ op = 21 ∨ op = 22 ∨ op = 23 ∨ op = 24 ∨ op = 25) :
    Calls Try.prog 44 #[.int .i64 op] w fun e w' => e = .returned (gV op) ∧ Below w.heap.size w w' := by
  rcases h with rfl | rfl | rfl | rfl | rfl | rfl | rfl | rfl | rfl | rfl | rfl | rfl | rfl | rfl | rfl | rfl | rfl | rfl | rfl | rfl | rfl | rfl | rfl | rfl | rfl
  all_goals
    go_enter Try.func44, Try.ntmps44
    go_wp2
    refine bodyPost_ret (v := gV _) (by simp [results, Try.results44, go_sem, gV, gL, gK]) rfl ⟨rfl, ?_⟩
    repeat (first | exact (Below.refl _ _).alloc (Nat.le_refl _) _ | refine Below.setCell ?_ (by simp) _)
theorem op_lit {op : Int} (h : opB op = true) : op = 1 ∨ op = 2 ∨ op = 3 ∨ op = 4 ∨ op = 5 ∨ op = 6 ∨ op = 7 ∨ op = 8 ∨ op = 9 ∨ op = 10 ∨ op = 11 ∨ op = 12 ∨ op = 13 ∨ op = 14 ∨ op = 15 ∨ op = 16 ∨ op = 17 ∨ op = 18 ∨ op = 19 ∨ op = 20 ∨ op = 21 ∨ op = 22 ∨ op = 23 ∨ op = 24 ∨ op = 25 := by
  have := of_decide_eq_true h
  omega
end Go.Proofs.Ytiegmpjoiekekaa
