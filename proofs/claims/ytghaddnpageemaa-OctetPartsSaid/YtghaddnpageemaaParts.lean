import Derived.Test.YtghaddnpageemaaAwake
namespace Go.Proofs.Ytghaddnpageemaa
open Go.RowKit
set_option linter.unusedVariables false
set_option maxHeartbeats 1000000 in
theorem parts_far (n : Int) (s : ByteArray) (w : World) (w0 : s.size ≤ maxLen) (hs : 2000 < s.size) :
    Calls Try.prog 7 #[.string s, .int .i64 n] w fun e w' => e = .returned (.bool true) ∧ Below w.heap.size w w' := by
  have hl : decide ((2000 : Int) < (s.size : Int)) = true := by simp; omega
  have hbel := Below.refl w.heap.size w
  go_enter Try.func7, Try.ntmps7
  go_wp2_with (go_at_call 8; refine (awake_any _).mono ?_; rintro e w1 ⟨rfl, hb⟩; have hbel := then_ hbel hb; clear hb)
  go_ret
  exact ⟨rfl, hbel⟩
set_option maxHeartbeats 1000000 in
theorem parts_out (n : Int) (s : ByteArray) (w : World) (w0 : s.size ≤ maxLen) (hs : s.size ≤ 2000) (hn : n < 0 ∨ (s.size : Int) < n) :
    Calls Try.prog 7 #[.string s, .int .i64 n] w fun e w' => e = .returned (.bool true) ∧ Below w.heap.size w w' := by
  have hl : decide ((2000 : Int) < (s.size : Int)) = false := by simp; omega
  have HT : Hid (takeText s 0 n = ByteArray.empty ∧ takeErr s 0 n = (if n < 0 then 1 else 2) ∧ takeAt s 0 n = 0) := by
    unfold takeText takeErr takeAt Hid
    have : n < 0 ∨ (s.size : Int) - (0 : Nat) < n := by omega
    rw [if_pos this, if_pos this]
    refine ⟨rfl, ?_, rfl⟩
    by_cases h : n < 0
    · rw [if_pos h, if_pos h]
    · rw [if_neg h, if_neg h, if_pos (by omega)]
  go_enter Try.func7, Try.ntmps7
  go_wp2_with fail
  refine (awake_any _).mono ?_
  rintro e w1 ⟨rfl, k1⟩
  go_wp2_with fail
  refine (octetNew s w1 w0).mono ?_
  rintro e w2 ⟨rfl, r2, k2⟩
  have k2 := onto_none k1 k2
  have hg2 : w.heap.size ≤ w1.heap.size := k1.size
  have hl2 : w1.heap.size < w2.heap.size := r2.1.lt
  clear k1
  generalize w1.heap.size = g at *
  go_wp2_with fail
  refine (octetNew s w2 w0).mono ?_
  rintro e w3 ⟨rfl, _, k3⟩
  have r3 := r2.kept k3 (fun h => h)
  have k3 := onto_none k2 k3
  clear r2 k2
  go_wp2_with fail
  refine (octetTake g s 0 n w3 r3).mono ?_
  rintro e w4 ⟨rfl, r4, k4⟩
  rw [HT.out.1, HT.out.2.1]
  rw [HT.out.2.2] at r4
  have k4 := onto_one k3 k4 hg2
  clear r3 k3
  have HA : Hid (s.extract 0 (0 + (s.size : Int).toNat) = s) := by
    unfold Hid
    rw [Int.toNat_natCast, Nat.zero_add]
    exact ByteArray.extract_zero_size
  by_cases h : n < 0
  all_goals
    simp only [h, if_true, if_false]
    go_wp2_with fail
    refine (octetTakeOk g s 0 _ w4 r4 (by omega) (by omega)).mono ?_
    rintro e w5 ⟨rfl, r5, k5⟩
    rw [HA.out]
    have k5 := onto_one k4 k5 hg2
    go_wp2
    go_ret
    first | exact ⟨rfl, k5⟩ | exact ⟨ret_bool (by simpa using h), k5⟩

set_option maxHeartbeats 1000000 in
theorem parts_in (n : Nat) (s : ByteArray) (w : World) (w0 : s.size ≤ maxLen) (hs : s.size ≤ 2000) (hn : n ≤ s.size) :
    Calls Try.prog 7 #[.string s, .int .i64 n] w fun e w' => e = .returned (.bool true) ∧ Below w.heap.size w w' := by
  have hl : decide ((2000 : Int) < (s.size : Int)) = false := by simp; omega
  have hl2 : decide (s.size < n) = false := by simp; omega
  have hl3 : decide ((n : Int) < 0) = false := by simp
  go_enter Try.func7, Try.ntmps7
  go_wp2_with fail
  refine (awake_any _).mono ?_
  rintro e w1 ⟨rfl, k1⟩
  go_wp2_with fail
  refine (octetNew s w1 w0).mono ?_
  rintro e w2 ⟨rfl, r2, k2⟩
  have k2 := onto_none k1 k2
  have hg2 : w.heap.size ≤ w1.heap.size := k1.size
  have hl2 : w1.heap.size < w2.heap.size := r2.1.lt
  clear k1
  generalize w1.heap.size = g at *
  go_wp2_with fail
  refine (octetNew s w2 w0).mono ?_
  rintro e w3 ⟨rfl, q3, k3⟩
  have r3 := r2.kept k3 (fun h => h)
  have k3 := onto_none k2 k3
  clear r2 k2
  generalize hq : w2.heap.size = q at *
  clear hq
  go_wp2_with fail
  refine (octetTakeOk g s 0 n w3 r3 (by omega) (by omega)).mono ?_
  rintro e w4 ⟨rfl, r4, k4⟩
  have q4 := q3.kept k4 (fun (h : q = g) => by omega)
  have k4 := onto_one k3 k4 hg2
  rw [Int.toNat_natCast, Nat.zero_add] at *
  obtain ⟨t, ht⟩ : ∃ t, t = s.extract 0 n := ⟨_, rfl⟩
  have hts : t.size = n := by rw [ht, ByteArray.size_extract]; omega
  have HT : Hid (∀ j (h : j < t.size) (h' : j < s.size), t[j]'h = s[j]'h') := by
    intro j h h'
    subst ht; simp [ByteArray.getElem_extract]
  rw [← ht]
  clear ht r3 q3 k3
  subst hts
  go_wp2_with fail
  go_loopw [70] (fun i wr => ∃ k : Nat, k ≤ t.size ∧ i = .int .i64 k ∧ RdAt wr g s t.size ∧ RdAt wr q s k ∧ w.heap.size ≤ q ∧ g < q ∧ Below w.heap.size w wr) (fun i _ => t.size - (intOf i).toNat)
  case atStart => exact ⟨0, by omega, rfl, r4, q4, by omega, by omega, k4⟩
  case round =>
    obtain ⟨k, hk, rfl, r, qq, hq1, hq2, kb⟩ := hrel
    clear r4 q4 k4
    by_cases hlt : k < t.size
    · have hki : (k : Int) < (t.size : Int) := by omega
      go_wp2_with fail
      refine (octetByteOk q s k wr qq (by omega)).mono ?_
      rintro e w5 ⟨rfl, q5, k5⟩
      have r5 := r.kept k5 (fun (h : g = q) => by omega)
      have k5 := onto_one kb k5 (by omega)
      clear r qq kb
      rw [← HT.out k hlt (by omega)]
      go_wp2
      go_roundw
      case rel => exact ⟨k + 1, by omega, by go_num, r5, q5, hq1, hq2, k5⟩
      case measure => simp [intOf]; omega
    · obtain rfl : k = t.size := by omega
      have hne : w.heap.size ≤ wr.heap.size := kb.size
      go_wp2_with fail
      refine (octetAt g s _ _ r).mono ?_
      rintro e w' ⟨rfl, rfl⟩
      go_wp2_with fail
      refine (octetAt q s _ _ qq).mono ?_
      rintro e w' ⟨rfl, rfl⟩
      go_wp2_with fail
      refine (octetLeft g s _ _ r).mono ?_
      rintro e w' ⟨rfl, n6, rfl⟩
      go_wp2_with fail
      refine (octetLeft q s _ _ (show RdAt (wr.drewN n6) q s _ from qq)).mono ?_
      rintro e w' ⟨rfl, n7, rfl⟩
      go_wp2
      go_ret
      exact ⟨rfl, onto_none kb (Kept.drewN _ _ _)⟩
theorem parts_walk (s : ByteArray) (n : Int) (w : World) (w0 : s.size ≤ maxLen) (w1 : (Lit.int .i64 n).wf = true) :
    Calls Try.prog 7 #[.string s, .int .i64 n] w fun e w' => e = .returned (.bool true) ∧ Below w.heap.size w w' := by
  by_cases hs : 2000 < s.size
  · exact parts_far n s w w0 hs
  · by_cases hn : n < 0 ∨ (s.size : Int) < n
    · exact parts_out n s w w0 (by omega) hn
    · obtain ⟨k, rfl⟩ := Int.eq_ofNat_of_zero_le (by omega : 0 ≤ n)
      exact parts_in k s w w0 (by omega) (by omega)
end Go.Proofs.Ytghaddnpageemaa
