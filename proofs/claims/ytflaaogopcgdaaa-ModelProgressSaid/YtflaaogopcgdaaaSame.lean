/-
  Two lists of numbers are compared.
-/
import Derived.Test.YtflaaogopcgdaaaNums
namespace Go.Proofs.Ytflaaogopcgdaaa
open Go.RowKit
set_option linter.unusedVariables false
set_option linter.unusedSimpArgs false
/-- Two lists of numbers are compared. -/
def vals (l : List Int) : List Value := l.map (Value.int .u64)
set_option maxHeartbeats 1000000 in
theorem refSame (v1 v2 : Value) (xs ys : List Int) (w : World) (h1 : SeqAt w v1 (vals xs)) (h2 : SeqAt w v2 (vals ys)) :
    Calls Try.prog 18 #[v1, v2] w fun e w' => e = .returned (.bool (decide (xs = ys))) ∧ ∃ n, w' = w.drewN n := by
  obtain ⟨A, c, rfl, a1, a2, a3⟩ := h1
  obtain ⟨B, d, rfl, b1, b2, b3⟩ := h2
  have e1 : (vals xs).length = xs.length := by simp [vals]
  have e2 : (vals ys).length = ys.length := by simp [vals]
  rw [e1, e2]
  have a1' : xs.length ≤ c := by rw [← e1]; exact a1
  have b1' : ys.length ≤ d := by rw [← e2]; exact b1
  clear a1 b1
  unfold maxLen at a2 b2
  have A3 := Lib.hid a3
  have B3 := Lib.hid b3
  clear a3 b3 e1 e2
  by_cases hl : xs.length = ys.length
  · have q1 : (xs.length != ys.length) = false := by simp [hl]
    go_enter Try.func18, Try.ntmps18
    have HL := Lib.hid hl
    clear hl
    go_wp2
    go_loopw [5] (fun i wr => ∃ k n : Nat, k ≤ xs.length ∧ i = .int .i64 k ∧ wr = w.drewN n ∧ Hid (xs.take k = ys.take k)) (fun i _ => xs.length - (intOf i).toNat)
    case atStart => exact ⟨0, 0, by omega, rfl, rfl, by unfold Hid; simp⟩
    case round =>
      obtain ⟨k, n, hk, rfl, rfl, ht⟩ := hrel
      by_cases hlt : k < xs.length
      · obtain ⟨x, hx⟩ : ∃ x, xs[k]? = some x := ⟨_, List.getElem?_eq_getElem hlt⟩
        obtain ⟨y, hy⟩ : ∃ y, ys[k]? = some y := ⟨_, List.getElem?_eq_getElem (by rw [← HL.out]; exact hlt)⟩
        obtain ⟨ba, oa, he, ca⟩ := A3.out k (.int .u64 x) (by simp [vals, hx])
        subst he
        obtain ⟨bb, ob, he, cb⟩ := B3.out k (.int .u64 y) (by simp [vals, hy])
        subst he
        have hk2 : (k : Int) < (xs.length : Int) := by omega
        have hk3 : (k : Int) < (ys.length : Int) := by rw [← HL.out]; exact hk2
        have HX := Lib.hid hx
        have HY := Lib.hid hy
        clear hx hy
        go_wp2_with fail
        go_quiet (fail)
        by_cases hxy : x = y
        · subst hxy
          go_wp2
          go_roundw
          case rel => exact ⟨k + 1, _, by omega, by go_num, (by first | rfl | exact World.drewN_drewN _ _ _), by
            have e1 : xs.take (k + 1) = xs.take k ++ [x] := by rw [List.take_add_one, HX.out]; rfl
            have e2 : ys.take (k + 1) = ys.take k ++ [x] := by rw [List.take_add_one, HY.out]; rfl
            unfold Hid; rw [e1, e2, ht.out]⟩
          case measure => simp [intOf]; omega
        · have q2 : (x != y) = true := by simpa using hxy
          go_wp2
          go_ret
          refine ⟨ret_bool ?_, _, by first | rfl | exact World.drewN_drewN _ _ _⟩
          have : xs ≠ ys := by
            intro h; subst h
            have h1 := HX.out; rw [HY.out] at h1; exact hxy (Option.some.inj h1).symm
          simp [this]
      · obtain rfl : k = xs.length := by omega
        go_wp2
        go_ret
        refine ⟨ret_bool ?_, _, by first | rfl | exact World.drewN_drewN _ _ _⟩
        have h := ht.out
        rw [List.take_of_length_le (Nat.le_refl _), List.take_of_length_le (by rw [HL.out]; exact Nat.le_refl _)] at h
        simp [h]
  · have q1 : (xs.length != ys.length) = true := by simpa using hl
    have HL := Lib.hid hl
    clear hl
    go_enter Try.func18, Try.ntmps18
    go_wp2
    go_ret
    refine ⟨ret_bool ?_, 0, rfl⟩
    have : xs ≠ ys := fun h => HL.out (by rw [h])
    simp [this]
/-- .. of naturals. -/
theorem vals_nat (l : List Nat) : vals (l.map fun (n : Nat) => (n : Int)) = cells64 l := by simp [vals, cells64]
theorem refSameNat (v1 v2 : Value) (xs ys : List Nat) (w : World) (h1 : SeqAt w v1 (cells64 xs)) (h2 : SeqAt w v2 (cells64 ys)) :
    Calls Try.prog 18 #[v1, v2] w fun e w' => e = .returned (.bool (decide (xs = ys))) ∧ ∃ n, w' = w.drewN n := by
  have := refSame v1 v2 (xs.map fun (n : Nat) => (n : Int)) (ys.map fun (n : Nat) => (n : Int)) w (by rw [vals_nat]; exact h1) (by rw [vals_nat]; exact h2)
  have e : decide ((xs.map fun (n : Nat) => (n : Int)) = (ys.map fun (n : Nat) => (n : Int))) = decide (xs = ys) := by
    congr 1
    apply propext
    constructor
    · intro h
      exact (List.map_inj_right (fun a b h => by omega)).1 h
    · intro h; rw [h]
  rw [e] at this
  exact this
end Go.Proofs.Ytflaaogopcgdaaa
