import Derived.Test.YtghaddnpageemaaWriter
namespace Go.Proofs.Ytghaddnpageemaa
open Go.RowKit
set_option linter.unusedVariables false
set_option maxHeartbeats 1000000 in
theorem refTakeNeg (s : ByteArray) (i : Nat) (n : Int) (w : World) (hn : n < 0) :
    Calls Try.prog 11 #[.agg #[.string s, .int .i64 i], .int .i64 n] w fun e w' =>
    e = .returned (.tuple #[.string ⟨#[]⟩, .int .i64 1, .agg #[.string s, .int .i64 i]]) ∧ Below w.heap.size w w' := by
  go_enter Try.func11, Try.ntmps11
  go_wp2
  go_region
  all_goals
    go_wp2
    refine bodyPost_ret (v := .tuple #[.string ⟨#[]⟩, .int .i64 1, .agg #[.string s, .int .i64 i]]) (by simp [results, Try.results11, go_sem]) rfl ⟨rfl, ?_⟩
    exact (((Below.refl _ _).alloc (Nat.le_refl _) _).alloc (by simp) _).drew
set_option maxHeartbeats 1000000 in
theorem refTakeEnd (s : ByteArray) (i : Nat) (n : Int) (w : World) (hi : i ≤ s.size) (hs : s.size ≤ maxLen) (hn : (s.size : Int) - i < n) :
    Calls Try.prog 11 #[.agg #[.string s, .int .i64 i], .int .i64 n] w fun e w' =>
    e = .returned (.tuple #[.string ⟨#[]⟩, .int .i64 2, .agg #[.string s, .int .i64 i]]) ∧ Below w.heap.size w w' := by
  unfold maxLen at hs
  have h0 : ¬ n < 0 := by omega
  go_enter Try.func11, Try.ntmps11
  go_wp2
  go_region
  all_goals
    go_wp2
    refine bodyPost_ret (v := .tuple #[.string ⟨#[]⟩, .int .i64 2, .agg #[.string s, .int .i64 i]]) (by simp [results, Try.results11, go_sem]) rfl ⟨rfl, ?_⟩
    exact (((Below.refl _ _).alloc (Nat.le_refl _) _).alloc (by simp) _).drew
set_option maxHeartbeats 1000000 in
theorem refTakeOk (s : ByteArray) (i k : Nat) (w : World) (hi : i + k ≤ s.size) (hs : s.size ≤ maxLen) :
    Calls Try.prog 11 #[.agg #[.string s, .int .i64 i], .int .i64 k] w fun e w' =>
    e = .returned (.tuple #[.string (s.extract i (i + k)), .int .i64 0, .agg #[.string s, .int .i64 (i + k : Nat)]]) ∧ Below w.heap.size w w' := by
  unfold maxLen at hs
  have h0 : ¬ (k : Int) < 0 := by omega
  have h1 : ¬ (s.size : Int) - i < k := by omega
  have hsl := slice_text (P := Try.prog) 9 Try.underlying9 s i (i + k) i ((i : Int) + k) rfl (by omega) (by omega) hi
  go_enter Try.func11, Try.ntmps11
  go_wp2
  go_region
  all_goals
    go_wp2
    refine bodyPost_ret (v := .tuple #[.string (s.extract i (i + k)), .int .i64 0, .agg #[.string s, .int .i64 (i + k : Nat)]]) (by simp [results, Try.results11, go_sem]) rfl ⟨rfl, ?_⟩
    exact (((Below.refl _ _).alloc (Nat.le_refl _) _).alloc (by simp) _).drew
theorem refTake (s : ByteArray) (i : Nat) (n : Int) (w : World) (hi : i ≤ s.size) (hs : s.size ≤ maxLen) :
    Calls Try.prog 11 #[.agg #[.string s, .int .i64 i], .int .i64 n] w fun e w' =>
    e = .returned (.tuple #[.string (takeText s i n), .int .i64 (takeErr s i n), .agg #[.string s, .int .i64 (takeAt s i n)]]) ∧ Below w.heap.size w w' := by
  by_cases h1 : n < 0
  · simp only [takeText, takeErr, takeAt, h1, true_or, if_true]
    exact refTakeNeg s i n w h1
  · by_cases h2 : (s.size : Int) - i < n
    · simp only [takeText, takeErr, takeAt, h1, h2, or_true, if_true, if_false]
      exact refTakeEnd s i n w hi hs h2
    · simp only [takeText, takeErr, takeAt, h1, h2, or_self, if_false]
      obtain ⟨k, rfl⟩ := Int.eq_ofNat_of_zero_le (by omega : 0 ≤ n)
      exact refTakeOk s i k w (by omega) hs
theorem takeAt_le (s : ByteArray) (i : Nat) (n : Int) (hi : i ≤ s.size) : takeAt s i n ≤ s.size := by
  unfold takeAt; split <;> omega
end Go.Proofs.Ytghaddnpageemaa
