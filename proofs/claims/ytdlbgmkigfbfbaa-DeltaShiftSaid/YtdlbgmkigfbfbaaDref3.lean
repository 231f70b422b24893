import Derived.Test.YtdlbgmkigfbfbaaDref2
namespace Go.Proofs.Ytdlbgmkigfbfbaa
open Go.RowKit
set_option linter.unusedVariables false
theorem add_even (L n : Nat) (h : n % 2 = 0) (hL : L < M64) (hn : n < M64) : IntKind.u64.wrap ((L : Int) + (n : Int) / 2) = (addZ L n : Int) := by
  unfold M64 at *; rw [IntKind.wrap_u64]; unfold addZ zag; rw [if_pos h]; omega
theorem add_odd (L n : Nat) (h : ¬ n % 2 = 0) (hL : L < M64) (hn : n < M64) : IntKind.u64.wrap (IntKind.u64.wrap ((L : Int) - (n : Int) / 2) - 1) = (addZ L n : Int) := by
  unfold M64 at *; rw [IntKind.wrap_u64, IntKind.wrap_u64]; unfold addZ zag; rw [if_neg h]; omega
set_option maxHeartbeats 1000000 in
theorem refSums (v : Value) (xs : List Nat) (w : World) (h : SeqAt w v (cells64 xs)) (hx : ∀ n ∈ xs, n < M64) (hl : xs.length ≤ 1099511627776) :
    Calls Try.prog 16 #[v] w fun e w' => ∃ v', e = .returned v' ∧ w'.ownsRow w.heap.size 22 1 v' xs.length (cells64 (sums 0 xs)) ∧ Below w.heap.size w w' := by
  have hh := h
  obtain ⟨A, c, rfl, _, hc2, _⟩ := hh
  have hcl : (cells64 xs).length = xs.length := by simp [cells64]
  rw [hcl] at *
  unfold maxLen at hc2
  have H := Lib.hid h
  have HX := Lib.hid hx
  clear h hx hcl
  go_enter Try.func16, Try.ntmps16
  go_wp2_with fail
  go_loopw [3, 4, 5] (fun o t i wr => ∃ k : Nat, k ≤ xs.length ∧ i = .int .i64 k ∧ t = .int .u64 (((0 : Nat) :: sums 0 xs).getD k 0) ∧ wr.ownsRow w.heap.size 22 1 o k (cells64 ((sums 0 xs).take k)) ∧ Below w.heap.size w wr)
    (fun _ _ i _ => xs.length - (intOf i).toNat)
  case atStart => exact ⟨0, by omega, rfl, rfl, World.ownsRow_nil _ _ _ _, Below.refl _ _⟩
  case round =>
    obtain ⟨k, hk, rfl, rfl, ho, hb⟩ := hrel
    have hBr := hb.size
    by_cases hlt : k < xs.length
    · have hki : (k : Int) < (xs.length : Int) := by omega
      obtain ⟨n, hn⟩ : ∃ n, xs[k]? = some n := ⟨xs[k], List.getElem?_eq_getElem hlt⟩
      have hn2 := HX.out n (List.mem_of_getElem? hn)
      have hn3 : n ≤ 18446744073709551615 := by unfold M64 at hn2; omega
      have hs2 := state_lt (sums_lt xs 0) k
      have hd := sums_get xs 0 k n hn
      have hs3 := Lib.hid (state_next hd)
      obtain ⟨b, off, rfl, hbl, hc⟩ := H.out.get hb (cells64_get hn)
      have HD := Lib.hid (take_next hd)
      generalize ((0 : Nat) :: sums 0 xs).getD k 0 = L at *
      have hL : L ≤ 18446744073709551615 := by unfold M64 at hs2; omega
      have he := add_even L n
      have ho2 := add_odd L n
      have HE := Lib.hid he
      have HO := Lib.hid ho2
      have HS2 := Lib.hid hs2
      have HN2 := Lib.hid hn2
      clear hn hd he ho2 hs2 hn2
      by_cases hev : n % 2 = 0
      · have e0 : ((n : Int) % 2 == 0) = true := by simp; omega
        have hw := HE.out hev HS2.out HN2.out
        clear hev
        go_wp2_with (at_builtin; refine append_one wr (.int .u64 (addZ L n)) rfl (.tmp 33) (.tmp 35) 27 rfl w.heap.size 22 _ _ Try.underlying27 Try.infoU64 rfl rfl _ _ _ rfl ho rfl (by unfold maxLen; omega) (by omega) hBr ?_; intro v' w1 hown1 hb1 _)
        go_roundw
        case rel => exact ⟨k + 1, by omega, by go_num, by rw [hs3.out], by rw [HD.out] at hown1; exact hown1, hb.trans hb1⟩
        case measure => simp [intOf]; omega
      · have e0 : ((n : Int) % 2 == 0) = false := by simp; omega
        have hw := HO.out hev HS2.out HN2.out
        clear hev
        go_wp2_with (at_builtin; refine append_one wr (.int .u64 (addZ L n)) rfl (.tmp 33) (.tmp 35) 27 rfl w.heap.size 22 _ _ Try.underlying27 Try.infoU64 rfl rfl _ _ _ rfl ho rfl (by unfold maxLen; omega) (by omega) hBr ?_; intro v' w1 hown1 hb1 _)
        go_roundw
        case rel => exact ⟨k + 1, by omega, by go_num, by rw [hs3.out], by rw [HD.out] at hown1; exact hown1, hb.trans hb1⟩
        case measure => simp [intOf]; omega
    · obtain rfl : k = xs.length := by omega
      rw [List.take_of_length_le (by rw [sums_length]; exact Nat.le_refl _)] at ho
      go_wp2
      go_ret
      exact ⟨_, rfl, ho, hb⟩
theorem refDPrint (v : Value) (xs : List Nat) (w : World) (h : SeqAt w v (cells64 xs)) (hx : ∀ n ∈ xs, n < M64) (hl : xs.length ≤ 1099511627776) :
    Calls Try.prog 20 #[v] w fun e w' => e = .returned (.string (textB (encList (deltas 0 xs)))) ∧ Below w.heap.size w w' := by
  go_enter Try.func20, Try.ntmps20
  go_wp2_with fail
  refine (refDeltas v xs w h hx hl).mono ?_
  rintro e w1 ⟨v1, rfl, ho1, hb1⟩
  go_wp2_with fail
  refine (refPrintList v1 _ w1 (SeqAt.of_owns ho1) (deltas_lt xs 0) (by rw [deltas_length]; exact hl)).mono ?_
  rintro e w2 ⟨rfl, hb2⟩
  go_wp2
  go_ret
  exact ⟨rfl, then_ hb1 hb2⟩
end Go.Proofs.Ytdlbgmkigfbfbaa
