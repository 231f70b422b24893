import Derived.Test.YtalbhgdlabapcaaRef
namespace Go.Proofs.Ytalbhgdlabapcaa
open Go.RowKit
set_option linter.unusedVariables false
/-- Whether the op is among the first k. -/
def among (op : Int) (k : Nat) : Bool := decide (3 ≤ op ∧ op < (k : Int) + 3)
theorem among_succ (op : Int) (k : Nat) : among op (k + 1) = (among op k || ((k : Int) + 3 == op)) := by
  rw [Bool.eq_iff_iff]; simp [among]; omega
theorem among_all (op : Int) : among op 12 = isOp op := by
  simp only [among, isOp]; congr 1; apply propext; omega
set_option maxHeartbeats 1000000 in
theorem does_walk (op a b : Int) (w : World) (w0 : (Lit.int .i64 op).wf = true) (w1 : (Lit.int .u64 a).wf = true) (w2 : (Lit.int .u64 b).wf = true) :
    Calls Try.prog 3 #[.int .i64 op, .int .u64 a, .int .u64 b] w fun e w' => e = .returned (.bool true) ∧ Below w.heap.size w w' := by
  have ha := u64_of _ w1
  have hb := u64_of _ w2
  clear w0 w1 w2
  go_enter Try.func3, Try.ntmps3
  go_wp2_with fail
  refine (do_any _ _ _ _ ha hb).mono ?_
  rintro e w' ⟨rfl, rfl⟩
  go_wp2_with fail
  refine (ref_any _ _ _ _ ha hb).mono ?_
  rintro e w' ⟨rfl, rfl⟩
  go_wp2_with fail
  refine (ops_any _).mono ?_
  rintro e w1 ⟨v, rfl, hown, hbel⟩
  obtain ⟨g, cap, rfl, hg, hgs, hn, hm, hc⟩ := ownsRow_open hown (by omega)
  have hcell : ∀ j : Nat, j < 12 → w1.cell? ⟨g, j, none⟩ = some (.int .i64 ((j : Int) + 3)) := fun j hj => hc j _ (by
    unfold opsTo; rw [List.getElem?_map, List.getElem?_range hj]; rfl)
  clear hc hown
  have HC := Lib.hid hcell
  clear hcell
  go_wp2_with fail
  go_loop [11, 32] (fun f i => ∃ (k : Nat) (t : Bool), k ≤ 12 ∧ i = .int .i64 k ∧ f = .bool t ∧ Hid (t = among op k)) (fun _ i => 12 - (intOf i).toNat)
  case atStart => exact ⟨0, false, by omega, rfl, rfl, by unfold among Hid; simp⟩
  case round =>
    obtain ⟨k, t, hk, rfl, rfl, ht⟩ := hrel
    by_cases hlt : k < 12
    · have c1 := HC.out k hlt
      have hs := Lib.hid (among_succ op k)
      cases t
      all_goals
        cases k with
        | zero =>
          go_wp2
          go_round
          case rel => exact ⟨0 + 1, _, by omega, by go_num, rfl, by unfold Hid; rw [hs.out, ← ht.out]; simp⟩
          case measure => simp [intOf]
        | succ j =>
          have c2 := HC.out j (by omega)
          go_wp2
          go_round
          case rel => exact ⟨j + 1 + 1, _, by omega, by go_num, rfl, by unfold Hid; rw [hs.out, ← ht.out]; simp⟩
          case measure => simp [intOf]; omega
    · obtain rfl : k = 12 := by omega
      obtain rfl : t = isOp op := ht.out.trans (among_all op)
      go_wp2_with (first
        | (go_at_call 12; refine (is_any _ _).mono ?_; rintro e w' ⟨rfl, rfl⟩)
        | (go_at_call 11; refine (awake_any _).mono ?_; rintro e w2 ⟨rfl, hb2⟩))
      go_ret
      exact ⟨rfl, then_ hbel hb2⟩
end Go.Proofs.Ytalbhgdlabapcaa
