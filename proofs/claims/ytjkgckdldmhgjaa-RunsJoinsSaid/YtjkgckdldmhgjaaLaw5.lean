import Derived.Test.YtjkgckdldmhgjaaLaw4
namespace Go.Proofs.Ytjkgckdldmhgjaa
open Go.RowKit
set_option linter.unusedVariables false
set_option linter.unusedSimpArgs false
def sumC (rs : List (Nat × Nat)) : Nat := (rs.map (·.2)).sum
theorem sumC_take {rs : List (Nat × Nat)} {k : Nat} {p : Nat × Nat} (h : rs[k]? = some p) : sumC (rs.take (k + 1)) = sumC (rs.take k) + p.2 := by
  rw [List.take_add_one, h]; simp [sumC]
theorem sumC_le (rs : List (Nat × Nat)) (k : Nat) : sumC (rs.take k) ≤ sumC rs := by
  rw [show sumC rs = sumC (rs.take k) + sumC (rs.drop k) from by unfold sumC; rw [← List.sum_append, ← List.map_append, List.take_append_drop]]
  omega
set_option maxHeartbeats 2000000 in
set_option maxRecDepth 100000 in
theorem few_walk (a : Option Addr) (len cap : Nat) (zs : List Int) (w : World) (h : ArgInts .u64 w a len cap zs) :
    Calls Try.prog 7 #[.slice a len cap] w fun e w' => e = .returned (.bool true) ∧ Below w.heap.size w w' := by
  obtain ⟨l, h0⟩ := argNats h
  obtain ⟨hn, hlc, hcm, hll, hrow, hM⟩ := id h0
  have H := Lib.hid h0
  have HM := Lib.hid hM
  subst hll
  unfold maxLen at hcm
  clear h h0 hrow hM hn
  by_cases hz : l.length = 0
  · have e0 : ((l.length : Int) == 0) = true := by rw [beq_iff_eq]; omega
    clear hz
    have hbel := Below.refl w.heap.size w
    go_enter Try.func7, Try.ntmps7
    go_wp2_with (go_at_call 9; refine (awake_any _).mono ?_; rintro e w1 ⟨rfl, hb⟩; have hbel := then_ hbel hb; clear hb)
    go_ret
    exact ⟨rfl, hbel⟩
  have e0 : ((l.length : Int) == 0) = false := by rw [beq_eq_false_iff_ne]; omega
  by_cases hs : 500 < l.length
  · have e1 : decide ((500 : Int) < (l.length : Int)) = true := by simp; omega
    clear hz
    have hbel := Below.refl w.heap.size w
    go_enter Try.func7, Try.ntmps7
    go_wp2_with (go_at_call 9; refine (awake_any _).mono ?_; rintro e w1 ⟨rfl, hb⟩; have hbel := then_ hbel hb; clear hb)
    go_ret
    exact ⟨rfl, hbel⟩
  have e1 : decide ((500 : Int) < (l.length : Int)) = false := by simp; omega
  have hlen : l.length ≤ 500 := by omega
  have hpos : 0 < l.length := by omega
  clear hs hz
  have hbel := Below.refl w.heap.size w
  go_enter Try.func7, Try.ntmps7
  go_wp2_with fail
  refine (awake_any _).mono ?_
  rintro e wA ⟨rfl, hb⟩
  have hbel := then_ hbel hb
  clear hb
  go_wp2
  have hbs := hbel.size
  go_loopw [3, 24] (fun x c wr => ∃ k n : Nat, k ≤ l.length ∧ c = .int .i64 k ∧ x = .int .i64 n ∧ n ≤ k + 1 ∧ Hid (k = 0 → n = 1) ∧ Hid (0 < k → n = (packs (l.take k)).length) ∧ Below w.heap.size w wr)
    (fun _ c _ => l.length - (intOf c).toNat)
  case atStart => exact ⟨0, 1, by omega, rfl, rfl, by omega, fun _ => rfl, fun h => absurd h (by omega), hbel⟩
  case round =>
    clear hbel hbs
    obtain ⟨k, n, hk, rfl, rfl, hnk, hk0, hk1, hb⟩ := hrel
    by_cases hlt : k < l.length
    · have hki : (k : Int) < (l.length : Int) := by omega
      obtain ⟨y, hg⟩ : ∃ y, l[k]? = some y := ⟨_, List.getElem?_eq_getElem hlt⟩
      have hsq := H.out.seq hb
      rcases Nat.eq_zero_or_pos k with h0 | h0
      · have e7 : decide ((0 : Int) < (k : Int)) = false := by simp; omega
        have e9 : decide (0 < k) = false := by simp; omega
        have hn1 := hk0.out h0
        have hnew : Hid (0 < k + 1 → n = (packs (l.take (k + 1))).length) := fun _ => by
          rw [packs_next hg, h0]; simp [packs, pushRun, hn1]
        clear hg hsq h0 hk0 hk1 hn1
        go_wp2
        go_quiet (fail)
        go_wp2
        go_roundw
        case rel => exact ⟨k + 1, n, by omega, by go_num, rfl, by omega, fun h => absurd h (by omega), hnew, below_drewN hb _⟩
        case measure => simp [intOf]; omega
      · obtain ⟨m, hkm⟩ : ∃ m, k = m + 1 := ⟨k - 1, by omega⟩
        have e7 : decide ((0 : Int) < (k : Int)) = true := by simp; omega
        have e9 : decide (0 < k) = true := by simp; omega
        obtain ⟨x, hgm⟩ : ∃ x, l[m]? = some x := ⟨_, List.getElem?_eq_getElem (by omega)⟩
        obtain ⟨A, cp, hv, _, _, hcell⟩ := hsq
        rw [cells64_length] at hv
        simp only [Value.slice.injEq, true_and] at hv
        obtain ⟨rfl, rfl⟩ := hv
        obtain ⟨b, off, rfl, c1⟩ := hcell _ _ (cells64_get hg)
        obtain ⟨b', off', hbo, c2⟩ := hcell _ _ (cells64_get hgm)
        simp only [Option.some.injEq, Addr.mk.injEq, and_true] at hbo
        obtain ⟨rfl, rfl⟩ := hbo
        have hpl : (packs (l.take (k + 1))).length = (packs (l.take k)).length + if y = x then 0 else 1 := by
          have hg2 := hg
          rw [hkm] at hg2 ⊢
          exact push_length hgm hg2
        have hn1 := hk1.out h0
        rw [← hn1] at hpl
        have hmi : (m : Int) < (l.length : Int) := by omega
        have hk1' : (k : Int) - 1 = (m : Int) := by omega
        clear hg hgm hkm h0 hk0 hk1 hn1 hcell
        by_cases hxy : y = x
        · have e8 : ((y : Int) != (x : Int)) = false := by simp [hxy]
          rw [if_pos hxy] at hpl
          have hnew : Hid (0 < k + 1 → n = (packs (l.take (k + 1))).length) := fun _ => by rw [hpl]; rfl
          clear hxy hpl
          go_wp2
          go_quiet (fail)
          go_wp2
          go_roundw
          case rel => exact ⟨k + 1, n, by omega, by go_num, rfl, by omega, fun h => absurd h (by omega), hnew, below_drewN hb _⟩
          case measure => simp [intOf]; omega
        · have e8 : ((y : Int) != (x : Int)) = true := by simp; omega
          rw [if_neg hxy] at hpl
          have hnew : Hid (0 < k + 1 → n + 1 = (packs (l.take (k + 1))).length) := fun _ => by rw [hpl]
          clear hxy hpl
          go_wp2
          go_quiet (fail)
          go_wp2
          go_roundw
          case rel => exact ⟨k + 1, n + 1, by omega, by go_num, by go_num, by omega, fun h => absurd h (by omega), hnew, below_drewN hb _⟩
          case measure => simp [intOf]; omega
    · obtain rfl : k = l.length := by omega
      have hn1 := hk1.out hpos
      rw [List.take_of_length_le (Nat.le_refl _)] at hn1
      have hP := runsPack _ l wr (H.out.seq hb) (by omega) HM.out
      have hin := packs_in l
      have hsum : sumC (packs l) = l.length := by unfold sumC; rw [counts_sum, spreads_packs]
      generalize packs l = rs at *
      have HP := Lib.hid hP
      obtain ⟨hrl, hrc⟩ := hin
      have hbs := hb.size
      have HN1 := Lib.hid hn1
      have HSUM := Lib.hid hsum
      clear hk0 hk1 hn1 hP hsum
      go_wp2_with fail
      refine HP.out.mono ?_
      rintro e w2 ⟨vp, rfl, ho, hb2⟩
      have hsq := SeqS.of_owns ho
      obtain ⟨A, cp, rfl, hc1, hc2, _⟩ := hsq.form
      unfold maxLen at hc2
      have HQ := Lib.hid hsq
      have hb := hb.trans (hb2.mono hbs)
      clear ho hb2 hsq HP
      go_wp2
      go_loopw [6, 48] (fun x c wq => ∃ j : Nat, j ≤ rs.length ∧ c = .int .i64 j ∧ x = .int .u64 (sumC (rs.take j)) ∧ Below w2.heap.size w2 wq) (fun _ c _ => rs.length - (intOf c).toNat)
      case atStart => exact ⟨0, by omega, rfl, rfl, Below.refl _ _⟩
      case round =>
        obtain ⟨j, hj, rfl, rfl, hb2⟩ := hrel
        by_cases hjl : j < rs.length
        · have hji : (j : Int) < (rs.length : Int) := by omega
          have hg : rs[j]? = some rs[j] := List.getElem?_eq_getElem hjl
          obtain ⟨b, off, rfl, c1, c2⟩ := seq2_at (HQ.out.later hb2) hg hjl
          have hnx := sumC_take hg
          have hle := sumC_le rs (j + 1)
          rw [HSUM.out, hnx] at hle
          generalize rs[j] = p at *
          obtain ⟨x, c⟩ := p
          simp only at c1 c2 hnx hle
          generalize sumC (rs.take j) = S at *
          have HNX := Lib.hid hnx
          have hbq := hb2.alloc hb2.size (.cells #[.int .u64 (x : Int), .int .u64 (c : Int)] 36)
          clear hnx hg
          go_wp2
          go_roundw
          case rel => exact ⟨j + 1, by omega, by go_num, by rw [HNX.out]; go_num, hbq⟩
          case measure => simp [intOf]; omega
        · obtain rfl : j = rs.length := by omega
          rw [List.take_of_length_le (Nat.le_refl _), HSUM.out]
          have e12 : ((rs.length : Int) == (n : Int)) = true := by rw [HN1.out]; simp
          clear HN1 HSUM
          go_wp2
          go_ret
          exact ⟨rfl, hb.trans (hb2.mono hb.size)⟩
end Go.Proofs.Ytjkgckdldmhgjaa
