import Derived.Test.YtnhbeddmphlieaaBits3
namespace Go.Proofs.Ytnhbeddmphlieaa
open Go.RowKit
set_option linter.unusedVariables false
set_option linter.unusedSimpArgs false
/-- Is only padding left? -/
def doneB (s : ByteArray) (i : Nat) : Bool := decide (8 * s.size - i < 8 ∧ numB (cutB s i (8 * s.size - i)) = 0)
def doneE (s : ByteArray) (i : Nat) : Nat := if doneB s i = true then 0 else 3
set_option maxHeartbeats 1000000 in
theorem bitsDone (g : Nat) (s : ByteArray) (i : Nat) (w : World) (h : BrAt w g s i) : Calls Try.prog 19 #[.pointer (some ⟨g, 0, none⟩)] w fun e w' =>
    e = .returned (.int .i64 (doneE s i : Nat)) ∧ Below w.heap.size w w' := by
  have HL := Lib.hid (fun n => bitsLeft g s i (w.drewN n) h)
  have H := Lib.hid h
  have hi := h.2.1
  have hs := h.2.2
  have c0 := (h.1.cell 0).trans (show _ = some (Value.string s) from rfl)
  have c1 := (h.1.cell 1).trans (show _ = some (Value.int .i64 (i : Int)) from rfl)
  clear h
  by_cases h8 : 8 ≤ 8 * s.size - i
  · have hE : doneE s i = 3 := by unfold doneE doneB; rw [decide_eq_false (by omega), if_neg (by decide)]
    have HE := Lib.hid hE
    have e0 : decide ((8 : Int) ≤ ((8 * s.size - i : Nat) : Int)) = true := by rw [decide_eq_true_eq]; omega
    clear hE
    go_enter Try.func19, Try.ntmps19
    go_wp2_with fail
    refine (HL.out 0).mono ?_
    rintro e w' ⟨rfl, n, rfl⟩
    go_wp2
    go_ret
    exact ⟨by rw [HE.out]; rfl, below_drewN (Below.refl _ _) _⟩
  · have e0 : decide ((8 : Int) ≤ ((8 * s.size - i : Nat) : Int)) = false := by rw [decide_eq_false_iff_not]; omega
    have hE : doneE s i = if numB (cutB s i (8 * s.size - i)) = 0 then 0 else 3 := by
      unfold doneE doneB
      by_cases hz : numB (cutB s i (8 * s.size - i)) = 0
      · rw [decide_eq_true ⟨by omega, hz⟩, if_pos rfl, if_pos hz]
      · rw [decide_eq_false (fun h => hz h.2), if_neg (by decide), if_neg hz]
    have HE := Lib.hid hE
    have hT := fun g' w' (hr : BrAt w' g' s i) => bitsTakeOk g' s i (8 * s.size - i) w' hr (by omega) (by omega)
    have HT := Lib.hid hT
    obtain ⟨N, hN⟩ : ∃ N, N = numB (cutB s i (8 * s.size - i)) := ⟨_, rfl⟩
    rw [← hN] at HT HE
    obtain ⟨L, hL⟩ : ∃ L, L = 8 * s.size - i := ⟨_, rfl⟩
    rw [← hL] at HT HL e0
    have HLE := Lib.hid hL
    clear hE hT hN hL
    go_enter Try.func19, Try.ntmps19
    go_wp2_with fail
    refine (HL.out 0).mono ?_
    rintro e w1 ⟨rfl, n, hw1⟩
    have hb1 : Below w.heap.size w w1 := by rw [hw1]; exact below_drewN (Below.refl _ _) _
    have h1 := H.out.later hb1
    have c0 := (h1.1.cell 0).trans (show _ = some (Value.string s) from rfl)
    have c1 := (h1.1.cell 1).trans (show _ = some (Value.int .i64 (i : Int)) from rfl)
    have HL1 := Lib.hid (fun n => bitsLeft g s i (w1.drewN n) h1)
    have hbA := hb1.alloc hb1.size (.cells #[.string s, .int .i64 (i : Int)] 54)
    have hrA : BrAt (w1.alloc (.cells #[.string s, .int .i64 (i : Int)] 54)) w1.heap.size s i := ⟨Lies.made _ _ _, hi, hs⟩
    have hgA := h1.later ((Below.refl w1.heap.size w1).alloc (Nat.le_refl _) (.cells #[.string s, .int .i64 (i : Int)] 54))
    have HRA := Lib.hid hrA
    have HGA := Lib.hid hgA
    have hg1 : w.heap.size ≤ w1.heap.size := hb1.size
    clear hw1 h1 HL hrA hgA H
    go_wp2_with fail
    generalize w1.alloc (.cells #[.string s, .int .i64 (i : Int)] 54) = w2 at *
    generalize w1.heap.size = g2 at *
    have HL2 := Lib.hid (bitsLeft g s i w2 HGA.out)
    rw [← HLE.out] at HL2
    clear c0 c1 HL1 hb1
    refine HL2.out.mono ?_
    rintro e w3 ⟨rfl, n3, hw3⟩
    have hr3 : BrAt w3 g2 s i := by rw [hw3]; exact HRA.out
    have hb3 : Below w.heap.size w w3 := by rw [hw3]; exact below_drewN hbA _
    have HT3 := Lib.hid (HT.out g2 w3 hr3)
    clear hw3 hr3 HL2 HRA HGA hbA HT
    go_wp2_with fail
    refine HT3.out.mono ?_
    rintro e w4 ⟨rfl, _, hk4⟩
    have hb4 : Below w.heap.size w w4 := hb3.trans (hk4.below (by have := hb3.size; omega) (fun k hk (e : k = g2) => by omega))
    clear hk4 HT3
    by_cases hz : N = 0
    · have hE := HE.out
      rw [if_pos hz] at hE
      have HE2 := Lib.hid hE
      have e5 : ((N : Int) != 0) = false := by simp; omega
      clear hE hz HE
      go_wp2
      go_ret
      exact ⟨by rw [HE2.out]; rfl, hb4⟩
    · have hE := HE.out
      rw [if_neg hz] at hE
      have HE2 := Lib.hid hE
      have e5 : ((N : Int) != 0) = true := by simp; omega
      clear hE hz HE
      go_wp2
      go_ret
      exact ⟨by rw [HE2.out]; rfl, hb4⟩
/-! ## The document's own -/
def cellsL (l : List Bool) : List Value := l.map Value.bool
theorem cellsL_length (l : List Bool) : (cellsL l).length = l.length := by simp [cellsL]
theorem cellsL_get {l : List Bool} {k : Nat} {b : Bool} (h : l[k]? = some b) : (cellsL l)[k]? = some (.bool b) := by simp [cellsL, h]
theorem cellsL_append (l m : List Bool) : cellsL (l ++ m) = cellsL l ++ cellsL m := by simp [cellsL]
theorem cellsL_one (l : List Bool) : ∀ u ∈ cellsL l, u.oneCell' = true := fun u hu => by obtain ⟨b, _, rfl⟩ := List.mem_map.1 hu; rfl
theorem take_next {α : Type} {l : List α} {k : Nat} {b : α} (h : l[k]? = some b) : l.take (k + 1) = l.take k ++ [b] := by rw [List.take_add_one, h]; rfl
set_option maxHeartbeats 1000000 in
theorem refNumber (v : Value) (l : List Bool) (w : World) (h : SeqAt w v (cellsL l)) (hl : l.length ≤ 64) :
    Calls Try.prog 17 #[v] w fun e w' => e = .returned (.int .u64 (numB l)) ∧ w = w' := by
  obtain ⟨A, c, rfl, h1, h2, h3⟩ := h
  rw [cellsL_length] at h1 ⊢
  unfold maxLen at h2
  have H3 := Lib.hid h3
  clear h3
  go_enter Try.func17, Try.ntmps17
  go_wp2
  go_loopw [3, 4] (fun t u wr => ∃ k : Nat, k ≤ l.length ∧ u = .int .i64 k ∧ t = .int .u64 (numB (l.take k)) ∧ wr = w)
    (fun _ u _ => l.length - (intOf u).toNat)
  case atStart => exact ⟨0, by omega, rfl, by simp [numB], rfl⟩
  case round =>
    obtain ⟨k, hk, rfl, rfl, rfl⟩ := hrel
    by_cases hlt : k < l.length
    · have hki : (k : Int) < (l.length : Int) := by omega
      obtain ⟨b, hg⟩ : ∃ b, l[k]? = some b := ⟨_, List.getElem?_eq_getElem hlt⟩
      obtain ⟨bb, off, rfl, c1⟩ := H3.out k _ (cellsL_get hg)
      have hnx := numB_snoc (l.take k) b
      rw [← take_next hg] at hnx
      have hln := numB_lt (l.take k)
      rw [List.length_take, Nat.min_eq_left hk] at hln
      have hln2 : numB (l.take k) < 9223372036854775808 := by
        have : 2 ^ k ≤ 2 ^ 63 := Nat.pow_le_pow_right (by decide) (by omega)
        omega
      have HNX := Lib.hid hnx
      clear hnx hg hln
      generalize numB (l.take k) = N at *
      cases b
      · go_wp2
        go_roundw
        case rel => exact ⟨k + 1, by omega, by go_num, by rw [HNX.out]; go_num, trivial⟩
        case measure => simp [intOf]; omega
      · go_wp2
        go_roundw
        case rel => exact ⟨k + 1, by omega, by go_num, by rw [HNX.out]; go_num, trivial⟩
        case measure => simp [intOf]; omega
    · obtain rfl : k = l.length := by omega
      rw [List.take_of_length_le (Nat.le_refl _)]
      obtain ⟨N, hN⟩ : ∃ N, N = numB l := ⟨_, rfl⟩
      rw [← hN]
      have HN := Lib.hid hN
      clear hN
      go_wp2
      go_ret
      exact ⟨by rw [← HN.out]; rfl, rfl⟩
end Go.Proofs.Ytnhbeddmphlieaa
