import Derived.Test.YtdlbgmkigfbfbaaAwake
namespace Go.Proofs.Ytdlbgmkigfbfbaa
open Go.RowKit
set_option linter.unusedVariables false
theorem u64_nat {a : Int} (h : (Lit.int .u64 a).wf = true) : ∃ n : Nat, a = n ∧ n < M64 := by
  have := Go.bounds_u64 h
  exact ⟨a.toNat, by omega, by unfold M64; omega⟩
/-- A list of numbers that came along, as naturals. -/
theorem argNats {w : World} {a : Option Addr} {len cap : Nat} {zs : List Int} (h : ArgInts .u64 w a len cap zs) :
    ∃ ns : List Nat, (∀ n ∈ ns, n < M64) ∧ ns.length = len ∧ len ≤ cap ∧ cap ≤ maxLen ∧ (a = none → len = 0 ∧ cap = 0) ∧ ArgRow w a (cells64 ns) := by
  obtain ⟨h0, h1, h2, h3, h4, h5⟩ := h
  have e : zs = (zs.map Int.toNat).map (fun (n : Nat) => (n : Int)) := by
    rw [List.map_map]
    conv => lhs; rw [← List.map_id zs]
    apply List.map_congr_left
    intro z hz
    have := Go.bounds_u64 (h5 z hz)
    simp; omega
  refine ⟨zs.map Int.toNat, ?_, by simpa using h3, h1, h2, h0, ?_⟩
  · intro n hn
    obtain ⟨z, hz, rfl⟩ := List.mem_map.1 hn
    have := Go.bounds_u64 (h5 z hz)
    unfold M64; omega
  · rw [e] at h4
    have : cells64 (zs.map Int.toNat) = ((zs.map Int.toNat).map (fun (n : Nat) => (n : Int))).map (Value.int .u64) := by simp [cells64]
    rw [this]; exact h4
set_option maxHeartbeats 2000000 in
theorem zigs_walk (n u m : Int) (w : World) (w0 : (Lit.int .i64 n).wf = true) (w1 : (Lit.int .u64 u).wf = true) (w2 : (Lit.int .i64 m).wf = true) :
    Calls Try.prog 3 #[.int .i64 n, .int .u64 u, .int .i64 m] w fun e w' => e = .returned (.bool true) ∧ Below w.heap.size w w' := by
  obtain ⟨n1, n2⟩ := Go.bounds_i64 w0
  obtain ⟨m1, m2⟩ := Go.bounds_i64 w2
  obtain ⟨U, rfl, hU⟩ := u64_nat w1
  clear w0 w1 w2
  have zn := zig_lt n n1 n2
  have zm := zig_lt m m1 m2
  have zu := zag_in U hU
  have HZ1 := Lib.hid (zag_zig n)
  have HZ2 := Lib.hid (zig_zag U)
  have hcase : (decide (0 ≤ n) = true ∧ decide (0 ≤ m) = true ∧ decide (n < m) = true ∧ decide (zig n < zig m) = true) ∨ (decide (0 ≤ n) = true ∧ decide (0 ≤ m) = true ∧ decide (n < m) = false ∧ decide (n < 0) = false) ∨
      (decide (0 ≤ n) = true ∧ decide (0 ≤ m) = false ∧ decide (n < 0) = false) ∨ (decide (0 ≤ n) = false ∧ decide (n < 0) = true ∧ decide (m < 0) = false) ∨
      (decide (0 ≤ n) = false ∧ decide (n < 0) = true ∧ decide (m < 0) = true ∧ decide (m < n) = true ∧ decide (zig n < zig m) = true) ∨ (decide (0 ≤ n) = false ∧ decide (n < 0) = true ∧ decide (m < 0) = true ∧ decide (m < n) = false) := by
    simp only [decide_eq_true_eq, decide_eq_false_iff_not]
    unfold zig
    split <;> split <;> omega
  rcases hcase with ⟨c1, c2, c3, c4⟩ | ⟨c1, c2, c3, c4⟩ | ⟨c1, c2, c3⟩ | ⟨c1, c2, c3⟩ | ⟨c1, c2, c3, c4, c5⟩ | ⟨c1, c2, c3, c4⟩
  all_goals
    go_enter Try.func3, Try.ntmps3
    go_wp2_with fail
    refine (awake_any w).mono ?_
    rintro e w1 ⟨rfl, k1⟩
    go_wp2_with fail
    refine (deltaZig n w1 n1 n2).mono ?_
    rintro e w' ⟨rfl, rfl⟩
    go_wp2_with fail
    refine (refZig n w1 n1 n2).mono ?_
    rintro e w' ⟨rfl, rfl⟩
    go_wp2_with fail
    refine (deltaZig n w1 n1 n2).mono ?_
    rintro e w' ⟨rfl, rfl⟩
    go_wp2_with fail
    refine (deltaZag (zig n) w1 zn).mono ?_
    rintro e w' ⟨rfl, rfl⟩
    rw [HZ1.out]
    go_wp2_with fail
    refine (deltaZag U w1 hU).mono ?_
    rintro e w' ⟨rfl, rfl⟩
    go_wp2_with fail
    refine (deltaZig (zag U) w1 zu.1 zu.2).mono ?_
    rintro e w' ⟨rfl, rfl⟩
    rw [HZ2.out]
    go_wp2_with fail
    try
      refine (deltaZig n w1 n1 n2).mono ?_
      rintro e w' ⟨rfl, rfl⟩
      go_wp2_with fail
      refine (deltaZig m w1 m1 m2).mono ?_
      rintro e w' ⟨rfl, rfl⟩
      go_wp2
    go_ret
    exact ⟨rfl, k1⟩
end Go.Proofs.Ytdlbgmkigfbfbaa
