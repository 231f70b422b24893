import Derived.Test.YtebgcehcnenjiaaDoorNums
import Derived.Deep.DeepFit
namespace Go.Proofs.YtebgcehcnenjiaaDoor
open Go.RowKit
set_option linter.unusedVariables false
set_option linter.unusedSimpArgs false
def lowV : List UInt8 → Nat
  | [] => 0
  | b :: l => b.toNat % 128 + 128 * lowV l
theorem lowV_snoc (l : List UInt8) (b : UInt8) : lowV (l ++ [b]) = lowV l + b.toNat % 128 * 128 ^ l.length := by
  induction l with
  | nil => simp [lowV]
  | cons c l ih => simp only [List.cons_append, lowV, ih, List.length_cons, pow128_succ]; rw [Nat.mul_add, Nat.add_assoc]; congr 2; rw [Nat.mul_comm, Nat.mul_assoc]
theorem lowV_lt (l : List UInt8) : lowV l < 128 ^ l.length := by
  induction l with
  | nil => simp [lowV]
  | cons c l ih => simp only [lowV, List.length_cons, pow128_succ]; omega
theorem lowV_drop (l : List UInt8) (j : Nat) : lowV (l.drop j) ≤ lowV l := by
  induction l generalizing j with
  | nil => simp
  | cons c l ih =>
    cases j with
    | zero => exact Nat.le_refl _
    | succ j => have := ih j; simp only [List.drop_succ_cons, lowV]; omega

theorem lowV_step (l : List UInt8) (j : Nat) (h : j < l.length) : lowV (l.drop j) = l[j].toNat % 128 + 128 * lowV (l.drop (j + 1)) := by
  rw [List.drop_eq_getElem_cons h, lowV]
theorem ret_three {a b c d e f : Value} (h : a = b) (k : c = d) (l : e = f) : Ending.returned (.tuple #[a, c, e]) = .returned (.tuple #[b, d, f]) := by rw [h, k, l]
set_option maxHeartbeats 2000000 in
set_option maxRecDepth 100000 in
theorem refRead (s : ByteArray) (at_ : Nat) (w : World) (hs : s.size ≤ 9223372036854775000) (ha : at_ ≤ s.size) :
    Calls Tryd.prog 46 #[.string s, .int .i64 at_] w fun e w' =>
    e = .returned (.tuple #[.int .u64 (rd (restOf s at_)).1, .int .i64 (rd (restOf s at_)).2.1, .int .i64 (at_ + (rd (restOf s at_)).2.2 : Nat)]) ∧ w = w' := by
  go_enter Tryd.func46, Tryd.ntmps46
  go_wp2
  go_loop [7] (fun u => ∃ k : Nat, k ≤ 9 ∧ u = .int .i64 k ∧ at_ + k ≤ s.size ∧
      Hid (rd (restOf s at_) = ((rdV (9 - k + 1) k (lowV ((restOf s at_).take k)) (restOf s (at_ + k))).1, (rdV (9 - k + 1) k (lowV ((restOf s at_).take k)) (restOf s (at_ + k))).2.1, (rdV (9 - k + 1) k (lowV ((restOf s at_).take k)) (restOf s (at_ + k))).2.2 + k)))
    (fun u => 10 - (intOf u).toNat)
  case atStart => exact ⟨0, by omega, rfl, by omega, rfl⟩
  case round =>
    obtain ⟨k, hk, rfl, hp, hrd⟩ := hrel
    have hk2 : (k : Int) < 10 := by omega
    by_cases hend : at_ + k < s.size
    · have e0 : decide ((s.size : Int) ≤ (at_ : Int) + (k : Int)) = false := by simp; omega
      have e00 : ((at_ : Int) + (k : Int)) < (s.size : Int) := by omega
      have q2 : (0 : Int) ≤ (at_ : Int) + k := by omega
      have hL := rest_cons s (at_ + k) hend
      have hbl := (s[at_ + k]'hend).toNat_lt
      have hz : (s[at_ + k]'hend = 0) ↔ (s[at_ + k]'hend).toNat = 0 := by
        constructor
        · intro h; rw [h]; rfl
        · intro h; exact UInt8.toNat_inj.1 h
      cases hw : wrongB k (s[at_ + k]'hend)
      · have hw2 := hw
        unfold wrongB at hw2
        have hw2 := of_decide_eq_false hw2
        have hcase : (decide (0 < k) = false ∧ ((k : Int) == 9) = false) ∨ (decide (0 < k) = true ∧ (((s[at_ + k]'hend).toNat : Int) == 0) = false ∧ ((k : Int) == 9) = false) ∨
            (decide (0 < k) = true ∧ (((s[at_ + k]'hend).toNat : Int) == 0) = false ∧ ((k : Int) == 9) = true ∧ decide ((1 : Int) < ((s[at_ + k]'hend).toNat : Int)) = false) := by
          rw [hz] at hw2
          simp only [decide_eq_false_iff_not, decide_eq_true_eq, beq_eq_false_iff_ne, beq_iff_eq, ne_eq]
          omega
        have hk9 : ¬ (s[at_ + k]'hend).toNat < 128 → k ≤ 8 := by omega
        clear hw2 hz
        by_cases hlast : (s[at_ + k]'hend).toNat < 128
        · have e5 : decide (((s[at_ + k]'hend).toNat : Int) < 128) = true := by simp; omega
          have hres := hrd.out
          rw [hL, rdV_last _ _ _ _ _ hw hlast] at hres
          have HRES := Lib.hid hres
          have htk : (restOf s at_).take (k + 1) = (restOf s at_).take k ++ [s[at_ + k]'hend] := by
            rw [List.take_add_one]; congr 1
            unfold restOf
            rw [List.getElem?_drop, byte_at s (at_ + k) hend]; rfl
          have hlen : ((restOf s at_).take k).length = k := by unfold restOf; simp; omega
          have HV : Hid (lowV (((restOf s at_).take (k + 1)).drop 0) = lowV ((restOf s at_).take k) + (s[at_ + k]'hend).toNat * 128 ^ k) := by
            unfold Hid
            rw [List.drop_zero, htk, lowV_snoc, hlen, Nat.mod_eq_of_lt hlast]
          clear hres hrd hw hL hk9 htk hlen
          rcases hcase with ⟨c1, c2⟩ | ⟨c1, c2, c3⟩ | ⟨c1, c2, c3, c4⟩
          all_goals
            go_wp2_with fail
            go_loop [9, 10] (fun t u => ∃ j : Nat, j ≤ k + 1 ∧ u = .int .i64 ((j : Int) - 1) ∧ t = .int .u64 (lowV (((restOf s at_).take (k + 1)).drop j))) (fun _ u => (intOf u + 1).toNat)
            case atStart => exact ⟨k + 1, by omega, by go_num, by rw [List.drop_of_length_le (by simp; omega)]; rfl⟩
            case round =>
              obtain ⟨j, hj, rfl, rfl⟩ := hrel
              cases j with
              | zero =>
                go_wp2
                go_ret3
                exact ⟨ret_three (v_int (by rw [HRES.out]; have h := HV.out; rw [List.drop_zero] at h; rw [h])) (v_int (by rw [HRES.out]; rfl)) (v_int (by rw [HRES.out]; simp only; omega)), rfl⟩
              | succ j =>
                rw [show ((j + 1 : Nat) : Int) - 1 = (j : Int) by omega]
                have hju : (at_ : Int) + (j : Int) < (s.size : Int) := by omega
                have hjn : at_ + j < s.size := by omega
                have hst : lowV (((restOf s at_).take (k + 1)).drop j) = (s[at_ + j]'hjn).toNat % 128 + 128 * lowV (((restOf s at_).take (k + 1)).drop (j + 1)) := by
                  have hjl : j < ((restOf s at_).take (k + 1)).length := by unfold restOf; simp; omega
                  rw [lowV_step _ j hjl]
                  congr 2
                  have : ((restOf s at_).take (k + 1))[j]? = some (s[at_ + j]'hjn) := by
                    rw [List.getElem?_take_of_lt (by omega)]
                    unfold restOf
                    rw [List.getElem?_drop, byte_at s (at_ + j) hjn]
                  rw [List.getElem?_eq_getElem hjl] at this
                  rw [Option.some.inj this]
                have hbd : lowV (((restOf s at_).take (k + 1)).drop j) ≤ 18446744073709551615 := by
                  refine Nat.le_trans (lowV_drop _ _) ?_
                  have h := HV.out
                  rw [List.drop_zero] at h
                  rw [h]
                  have h2 := rd_bound (restOf s at_)
                  rw [HRES.out] at h2
                  exact h2
                have hjb := (s[at_ + j]'hjn).toNat_lt
                generalize lowV (((restOf s at_).take (k + 1)).drop (j + 1)) = X at *
                generalize hY : lowV (((restOf s at_).take (k + 1)).drop j) = Y at *
                have HY := Lib.hid hY
                have HST := Lib.hid hst
                have hxb : (X : Int) * 128 + ((s[at_ + j]'hjn).toNat : Int) % 128 ≤ 18446744073709551615 := by omega
                have hxb2 : (X : Int) * 128 ≤ 18446744073709551615 := by omega
                clear hY hst
                go_wp2
                go_round
                case rel => exact ⟨j, by omega, by first | rfl | go_num, v_int (by rw [HY.out, HST.out]; omega)⟩
                case measure => simp [intOf]
        · have e5 : decide (((s[at_ + k]'hend).toNat : Int) < 128) = false := by simp; omega
          have hk8 := hk9 hlast
          have htk : (restOf s at_).take (k + 1) = (restOf s at_).take k ++ [s[at_ + k]'hend] := by
            rw [List.take_add_one]; congr 1
            unfold restOf
            rw [List.getElem?_drop, byte_at s (at_ + k) hend]; rfl
          have hlen : ((restOf s at_).take k).length = k := by unfold restOf; simp; omega
          have hlow : lowV ((restOf s at_).take (k + 1)) = lowV ((restOf s at_).take k) + ((s[at_ + k]'hend).toNat - 128) * 128 ^ k := by
            rw [htk, lowV_snoc, hlen]; congr 2; omega
          have hres := hrd.out
          rw [hL, rdV_more _ _ _ _ _ hw hlast, ← hlow] at hres
          have HRES := Lib.hid hres
          clear hres hrd hw hL hk9 hlow htk hlen
          rcases hcase with ⟨c1, c2⟩ | ⟨c1, c2, c3⟩ | ⟨c1, c2, c3, c4⟩
          all_goals
            go_wp2
            go_round
            case rel =>
              refine ⟨k + 1, by omega, by go_num, by omega, ?_⟩
              have he : 9 - k = 9 - (k + 1) + 1 := by omega
              show _ = _
              rw [HRES.out, he]
              simp only [Nat.add_assoc, Nat.add_comm 1 k]
            case measure => simp [intOf]; omega
      · have hw2 := hw
        unfold wrongB at hw2
        have hw2 := of_decide_eq_true hw2
        have hcase : (decide (0 < k) = true ∧ (((s[at_ + k]'hend).toNat : Int) == 0) = true) ∨ (decide (0 < k) = true ∧ (((s[at_ + k]'hend).toNat : Int) == 0) = false ∧ ((k : Int) == 9) = true ∧ decide ((1 : Int) < ((s[at_ + k]'hend).toNat : Int)) = true) := by
          rw [hz] at hw2
          simp only [decide_eq_true_eq, beq_eq_false_iff_ne, beq_iff_eq, ne_eq]
          omega
        have hres := hrd.out
        rw [hL, rdV_wrong _ _ _ _ _ hw] at hres
        have HRES := Lib.hid hres
        clear hres hrd hw hL hw2 hz
        rcases hcase with ⟨c1, c2⟩ | ⟨c1, c2, c3, c4⟩
        all_goals
          go_wp2
          go_ret3
          exact ⟨ret_three (v_int (by rw [HRES.out]; rfl)) (v_int (by rw [HRES.out]; rfl)) (v_int (by rw [HRES.out]; simp only; omega)), rfl⟩
    · have hpos : at_ + k = s.size := by omega
      have e0 : decide ((s.size : Int) ≤ (at_ : Int) + (k : Int)) = true := by simp; omega
      have hres := hrd.out
      rw [hpos, rest_nil, rdV] at hres
      have HRES := Lib.hid hres
      have HP := Lib.hid hpos
      clear hres hrd hpos
      go_wp2
      go_ret3
      exact ⟨ret_three (v_int (by rw [HRES.out]; rfl)) (v_int (by rw [HRES.out]; rfl)) (v_int (by rw [HRES.out]; simp only; have := HP.out; omega)), rfl⟩
end Go.Proofs.YtebgcehcnenjiaaDoor
