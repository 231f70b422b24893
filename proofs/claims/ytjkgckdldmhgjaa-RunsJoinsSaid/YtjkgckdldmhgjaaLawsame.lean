import Derived.Test.YtjkgckdldmhgjaaBack
namespace Go.Proofs.Ytjkgckdldmhgjaa
open Go.RowKit
set_option linter.unusedVariables false
set_option linter.unusedSimpArgs false
theorem below_drew0 (w : World) (n : Nat) : Below w.heap.size w (w.drewN n) := ⟨rfl, rfl, rfl, Nat.le_refl _, fun _ _ => rfl⟩
set_option maxHeartbeats 2000000 in
set_option maxRecDepth 100000 in
theorem lawSame (v1 v2 : Value) (xs ys : List (Nat × Nat)) (w : World) (h1 : SeqS w 2 v1 xs.length (cells2 xs)) (h2 : SeqS w 2 v2 ys.length (cells2 ys)) :
    Calls Try.prog 12 #[v1, v2] w fun e w' => e = .returned (.bool (decide (xs = ys))) ∧ ∃ n, w' = w.drewN n := by
  obtain ⟨A, c, rfl, a1, a2, _⟩ := h1.form
  obtain ⟨B, d, rfl, b1, b2, _⟩ := h2.form
  unfold maxLen at a2 b2
  have A3 := Lib.hid h1
  have B3 := Lib.hid h2
  clear h1 h2
  by_cases hl : xs.length = ys.length
  · have q1 : (xs.length != ys.length) = false := by simp [hl]
    have HL := Lib.hid hl
    clear hl
    go_enter Try.func12, Try.ntmps12
    go_wp2
    go_loopw [13] (fun i wr => ∃ k n : Nat, k ≤ xs.length ∧ i = .int .i64 k ∧ wr = w.drewN n ∧ Hid (xs.take k = ys.take k)) (fun i _ => xs.length - (intOf i).toNat)
    case atStart => exact ⟨0, 0, by omega, rfl, rfl, by unfold Hid; simp⟩
    case round =>
      obtain ⟨k, n, hk, rfl, rfl, ht⟩ := hrel
      by_cases hlt : k < xs.length
      · obtain ⟨⟨x, cx⟩, hx⟩ : ∃ x, xs[k]? = some x := ⟨_, List.getElem?_eq_getElem hlt⟩
        obtain ⟨⟨y, cy⟩, hy⟩ : ∃ y, ys[k]? = some y := ⟨_, List.getElem?_eq_getElem (by rw [← HL.out]; exact hlt)⟩
        obtain ⟨ba, oa, rfl, c1, c2⟩ := seq2_at A3.out hx hlt
        have hlt2 : k < ys.length := by rw [← HL.out]; exact hlt
        obtain ⟨bb, ob, rfl, c3, c4⟩ := seq2_at B3.out hy hlt2
        simp only at c1 c2 c3 c4
        have hk2 : (k : Int) < (xs.length : Int) := by omega
        have hk3 : (k : Int) < (ys.length : Int) := by omega
        have HX := Lib.hid hx
        have HY := Lib.hid hy
        clear hx hy
        by_cases hxy : x = y
        · have q2 : ((x : Int) != (y : Int)) = false := by simp [hxy]
          have HXY := Lib.hid hxy
          clear hxy
          by_cases hcc : cx = cy
          · have q3 : ((cx : Int) != (cy : Int)) = false := by simp [hcc]
            have HCC := Lib.hid hcc
            clear hcc
            go_wp2_with fail
            go_quiet (fail)
            go_wp2
            go_roundw
            case rel => exact ⟨k + 1, _, by omega, by go_num, (by first | rfl | exact World.drewN_drewN _ _ _), by
              have e1 : xs.take (k + 1) = xs.take k ++ [(x, cx)] := by rw [List.take_add_one, HX.out]; rfl
              have e2 : ys.take (k + 1) = ys.take k ++ [(y, cy)] := by rw [List.take_add_one, HY.out]; rfl
              unfold Hid; rw [e1, e2, ht.out, HXY.out, HCC.out]⟩
            case measure => simp [intOf]; omega
          · have q3 : ((cx : Int) != (cy : Int)) = true := by simp; omega
            have HCC := Lib.hid hcc
            clear hcc
            go_wp2_with fail
            go_quiet (fail)
            go_wp2
            go_ret
            refine ⟨ret_bool ?_, _, by first | rfl | exact World.drewN_drewN _ _ _⟩
            have : xs ≠ ys := by
              intro h; subst h
              have h1 := HX.out; rw [HY.out] at h1
              injection h1 with h1; injection h1 with _ h1; exact HCC.out h1.symm
            simp [this]
        · have q2 : ((x : Int) != (y : Int)) = true := by simp; omega
          have HXY := Lib.hid hxy
          clear hxy
          go_wp2_with fail
          go_quiet (fail)
          go_wp2
          go_ret
          refine ⟨ret_bool ?_, _, by first | rfl | exact World.drewN_drewN _ _ _⟩
          have : xs ≠ ys := by
            intro h; subst h
            have h1 := HX.out; rw [HY.out] at h1
            injection h1 with h1; injection h1 with h1 _; exact HXY.out h1.symm
          simp [this]
      · obtain rfl : k = xs.length := by omega
        go_wp2
        go_ret
        refine ⟨ret_bool ?_, _, by first | rfl | exact World.drewN_drewN _ _ _⟩
        have h := ht.out
        rw [List.take_of_length_le (Nat.le_refl _), List.take_of_length_le (by rw [HL.out]; exact Nat.le_refl _)] at h
        simp [h]
  · have q1 : (xs.length != ys.length) = true := by simpa using hl
    have HL := Lib.hid hl
    clear hl
    go_enter Try.func12, Try.ntmps12
    go_wp2
    go_ret
    refine ⟨ret_bool ?_, 0, rfl⟩
    have : xs ≠ ys := fun h => HL.out (by rw [h])
    simp [this]
end Go.Proofs.Ytjkgckdldmhgjaa
