import Derived.Test.YthlaadcldkefoaaVarlist
import Derived.Deep.DeepFit
namespace Go.Proofs.Ythlaadcldkefoaa
open Go.RowKit
set_option linter.unusedVariables false
/-- Two lists of numbers are compared. -/
def vals (l : List Int) : List Value := l.map (Value.int .u64)
set_option maxHeartbeats 1000000 in
theorem refSame (v1 v2 : Value) (xs ys : List Int) (w : World) (h1 : SeqAt w v1 (vals xs)) (h2 : SeqAt w v2 (vals ys)) :
    Calls Try.prog 19 #[v1, v2] w fun e w' => e = .returned (.bool (decide (xs = ys))) ∧ ∃ n, w' = w.drewN n := by
  obtain ⟨A, c, rfl, a1, a2, a3⟩ := h1
  obtain ⟨B, d, rfl, b1, b2, b3⟩ := h2
  have e1 : (vals xs).length = xs.length := by simp [vals]
  have e2 : (vals ys).length = ys.length := by simp [vals]
  rw [e1, e2]
  have a1' : xs.length ≤ c := by rw [← e1]; exact a1
  have b1' : ys.length ≤ d := by rw [← e2]; exact b1
  clear a1 b1
  unfold maxLen at a2 b2
  have A3 := Lib.hid a3
  have B3 := Lib.hid b3
  clear a3 b3 e1 e2
  by_cases hl : xs.length = ys.length
  · have q1 : (xs.length != ys.length) = false := by simp [hl]
    go_enter Try.func19, Try.ntmps19
    have HL := Lib.hid hl
    clear hl
    go_wp2
    go_loopw [5] (fun i wr => ∃ k n : Nat, k ≤ xs.length ∧ i = .int .i64 k ∧ wr = w.drewN n ∧ Hid (xs.take k = ys.take k)) (fun i _ => xs.length - (intOf i).toNat)
    case atStart => exact ⟨0, 0, by omega, rfl, rfl, by unfold Hid; simp⟩
    case round =>
      obtain ⟨k, n, hk, rfl, rfl, ht⟩ := hrel
      by_cases hlt : k < xs.length
      · obtain ⟨x, hx⟩ : ∃ x, xs[k]? = some x := ⟨_, List.getElem?_eq_getElem hlt⟩
        obtain ⟨y, hy⟩ : ∃ y, ys[k]? = some y := ⟨_, List.getElem?_eq_getElem (by rw [← HL.out]; exact hlt)⟩
        obtain ⟨ba, oa, he, ca⟩ := A3.out k (.int .u64 x) (by simp [vals, hx])
        subst he
        obtain ⟨bb, ob, he, cb⟩ := B3.out k (.int .u64 y) (by simp [vals, hy])
        subst he
        have hk2 : (k : Int) < (xs.length : Int) := by omega
        have hk3 : (k : Int) < (ys.length : Int) := by rw [← HL.out]; exact hk2
        have HX := Lib.hid hx
        have HY := Lib.hid hy
        clear hx hy
        go_wp2_with fail
        go_quiet (fail)
        by_cases hxy : x = y
        · subst hxy
          go_wp2
          go_roundw
          case rel => exact ⟨k + 1, _, by omega, by go_num, (by first | rfl | exact World.drewN_drewN _ _ _), by
            have e1 : xs.take (k + 1) = xs.take k ++ [x] := by rw [List.take_add_one, HX.out]; rfl
            have e2 : ys.take (k + 1) = ys.take k ++ [x] := by rw [List.take_add_one, HY.out]; rfl
            unfold Hid; rw [e1, e2, ht.out]⟩
          case measure => simp [intOf]; omega
        · have q2 : (x != y) = true := by simpa using hxy
          go_wp2
          go_ret
          refine ⟨ret_bool ?_, _, by first | rfl | exact World.drewN_drewN _ _ _⟩
          have : xs ≠ ys := by
            intro h; subst h
            have h1 := HX.out; rw [HY.out] at h1; exact hxy (Option.some.inj h1).symm
          simp [this]
      · obtain rfl : k = xs.length := by omega
        go_wp2
        go_ret
        refine ⟨ret_bool ?_, _, by first | rfl | exact World.drewN_drewN _ _ _⟩
        have h := ht.out
        rw [List.take_of_length_le (Nat.le_refl _), List.take_of_length_le (by rw [HL.out]; exact Nat.le_refl _)] at h
        simp [h]
  · have q1 : (xs.length != ys.length) = true := by simpa using hl
    have HL := Lib.hid hl
    clear hl
    go_enter Try.func19, Try.ntmps19
    go_wp2
    go_ret
    refine ⟨ret_bool ?_, 0, rfl⟩
    have : xs ≠ ys := fun h => HL.out (by rw [h])
    simp [this]
set_option maxHeartbeats 1000000 in
theorem refPrint (n : Nat) (w : World) (hn : n < M64) :
    Calls Try.prog 10 #[.int .u64 n] w fun e w' => e = .returned (.string (textB (enc n))) ∧ Below w.heap.size w w' := by
  have hn2 : n ≤ 18446744073709551615 := by unfold M64 at hn; omega
  go_enter Try.func10, Try.ntmps10
  go_wp2
  have ho0 := World.ownsRow_made (base := w.heap.size) (e := 5) (size := 1) w #[] 0 (Nat.le_refl _) (by unfold maxLen; omega) rfl
  have hb0 := (Below.refl w.heap.size w).alloc (Nat.le_refl _) (.cells #[] 5)
  go_loopw [0, 3] (fun i t wr => ∃ (f m : Nat) (d : List UInt8), i = .int .u64 m ∧ m ≤ 18446744073709551615 ∧ f ≤ 9 ∧ Hid (m < 128 ^ (f + 1)) ∧ Hid (d ++ leb f m = [] ++ enc n) ∧ d.length + (f + 1) ≤ 10 ∧ wr.ownsRow w.heap.size 5 1 t d.length (cellsB d) ∧ Below w.heap.size w wr)
    (fun i _ _ => (intOf i).toNat)
  case atStart => exact ⟨9, n, [], rfl, hn2, by omega, Nat.lt_of_lt_of_le hn m64_lt, rfl, by simp, ho0, hb0⟩
  case round =>
    clear ho0 hb0
    obtain ⟨f, m, d, rfl, hm, hf, hp, hd, hdl, ho, hb⟩ := hrel
    have hBr : w.heap.size ≤ wr.heap.size := hb.size
    by_cases h : m < 128
    · have e0 : decide ((127 : Int) < (m : Int)) = false := by simp; omega
      have hx := last_byte m h
      have hg := Lib.hid (grow_done hd.out h)
      generalize UInt8.ofNat m = b at *
      have HX := Lib.hid hx
      clear hx
      have hcv : ∀ (w1 : World) (v : Value), w1.ownsRow w.heap.size 5 1 v (d.length + 1) (cellsB d ++ [.int .u8 (b.toNat : Int)]) → (convert 40 9 v).run Try.prog w1 = .ok (.string (textB (d ++ [b]))) w1 := by
        intro w1 v h
        rw [cellsB_push] at h
        exact convert_owned w1 _ v _ _ (by simp) h
      have HCV := Lib.hid hcv
      clear hcv
      go_wp2_with (at_builtin; rw [HX.out]; refine append_one wr (.int .u8 b.toNat) rfl (.tmp 16) (.tmp 19) 40 rfl w.heap.size 5 _ _ Try.underlying40 Try.infoU8 rfl rfl _ _ _ rfl ho rfl (by unfold maxLen; omega) (by omega) hBr ?_; intro v' w1 hown1 hb1 _; have hcv1 := HCV.out w1 v' hown1; clear hown1)
      go_ret
      exact ⟨ret_text (by rw [hg.out]; rfl), hb.trans hb1⟩
    · have e0 : decide ((127 : Int) < (m : Int)) = true := by simp; omega
      obtain ⟨f', rfl, hd', hp'⟩ := grow_step hd.out hp.out h
      have HD := Lib.hid hd'
      have HP := Lib.hid hp'
      have hx : (m : Int) % 128 + 128 = ((UInt8.ofNat (m % 128 + 128)).toNat : Int) := by rw [UInt8.toNat_ofNat']; omega
      clear hd hp hd' hp'
      generalize UInt8.ofNat (m % 128 + 128) = b at *
      go_wp2_with (at_builtin; refine append_one wr (.int .u8 b.toNat) rfl (.tmp 7) (.tmp 12) 40 rfl w.heap.size 5 _ _ Try.underlying40 Try.infoU8 rfl rfl _ _ _ rfl ho rfl (by unfold maxLen; omega) (by omega) hBr ?_; intro v' w1 hown1 hb1 _)
      rw [cellsB_push] at hown1
      go_roundw
      case rel => exact ⟨f', m / 128, d ++ [b], by go_num, by omega, by omega, HP, HD, by rw [List.length_append]; simp; omega, by rw [List.length_append]; exact hown1, hb.trans hb1⟩
      case measure => simp [intOf]; omega
/-- The ref's reading, one group behind the other. -/
def lowV : List UInt8 → Nat
  | [] => 0
  | b :: l => b.toNat % 128 + 128 * lowV l
theorem lowV_snoc (l : List UInt8) (b : UInt8) : lowV (l ++ [b]) = lowV l + b.toNat % 128 * 128 ^ l.length := by
  induction l with
  | nil => simp [lowV]
  | cons c l ih => simp only [List.cons_append, lowV, ih, List.length_cons, pow128_succ]; rw [Nat.mul_add, Nat.add_assoc]; congr 2; rw [Nat.mul_comm, Nat.mul_assoc]
theorem lowV_lt (l : List UInt8) : lowV l < 128 ^ l.length := by
  induction l with
  | nil => simp [lowV]
  | cons c l ih => simp only [lowV, List.length_cons, pow128_succ]; omega
theorem lowV_drop (l : List UInt8) (j : Nat) : lowV (l.drop j) ≤ lowV l := by
  induction l generalizing j with
  | nil => simp
  | cons c l ih =>
    cases j with
    | zero => exact Nat.le_refl _
    | succ j => have := ih j; simp only [List.drop_succ_cons, lowV]; omega

theorem lowV_step (l : List UInt8) (j : Nat) (h : j < l.length) : lowV (l.drop j) = l[j].toNat % 128 + 128 * lowV (l.drop (j + 1)) := by
  rw [List.drop_eq_getElem_cons h, lowV]
theorem ret_three {a b c d e f : Value} (h : a = b) (k : c = d) (l : e = f) : Ending.returned (.tuple #[a, c, e]) = .returned (.tuple #[b, d, f]) := by rw [h, k, l]
set_option maxHeartbeats 2000000 in
set_option maxRecDepth 100000 in
theorem refRead (s : ByteArray) (at_ : Nat) (w : World) (hs : s.size ≤ 9223372036854775000) (ha : at_ ≤ s.size) :
    Calls Try.prog 16 #[.string s, .int .i64 at_] w fun e w' =>
    e = .returned (.tuple #[.int .u64 (rd (restOf s at_)).1, .int .i64 (rd (restOf s at_)).2.1, .int .i64 (at_ + (rd (restOf s at_)).2.2 : Nat)]) ∧ w = w' := by
  go_enter Try.func16, Try.ntmps16
  go_wp2
  go_loop [7] (fun u => ∃ k : Nat, k ≤ 9 ∧ u = .int .i64 k ∧ at_ + k ≤ s.size ∧
      Hid (rd (restOf s at_) = ((rdV (9 - k + 1) k (lowV ((restOf s at_).take k)) (restOf s (at_ + k))).1, (rdV (9 - k + 1) k (lowV ((restOf s at_).take k)) (restOf s (at_ + k))).2.1, (rdV (9 - k + 1) k (lowV ((restOf s at_).take k)) (restOf s (at_ + k))).2.2 + k)))
    (fun u => 10 - (intOf u).toNat)
  case atStart => exact ⟨0, by omega, rfl, by omega, rfl⟩
  case round =>
    obtain ⟨k, hk, rfl, hp, hrd⟩ := hrel
    have hk2 : (k : Int) < 10 := by omega
    by_cases hend : at_ + k < s.size
    · have e0 : decide ((s.size : Int) ≤ (at_ : Int) + (k : Int)) = false := by simp; omega
      have e00 : ((at_ : Int) + (k : Int)) < (s.size : Int) := by omega
      have q2 : (0 : Int) ≤ (at_ : Int) + k := by omega
      have hL := rest_cons s (at_ + k) hend
      have hbl := (s[at_ + k]'hend).toNat_lt
      have hz : (s[at_ + k]'hend = 0) ↔ (s[at_ + k]'hend).toNat = 0 := by
        constructor
        · intro h; rw [h]; rfl
        · intro h; exact UInt8.toNat_inj.1 h
      cases hw : wrongB k (s[at_ + k]'hend)
      · have hw2 := hw
        unfold wrongB at hw2
        have hw2 := of_decide_eq_false hw2
        have hcase : (decide (0 < k) = false ∧ ((k : Int) == 9) = false) ∨ (decide (0 < k) = true ∧ (((s[at_ + k]'hend).toNat : Int) == 0) = false ∧ ((k : Int) == 9) = false) ∨
            (decide (0 < k) = true ∧ (((s[at_ + k]'hend).toNat : Int) == 0) = false ∧ ((k : Int) == 9) = true ∧ decide ((1 : Int) < ((s[at_ + k]'hend).toNat : Int)) = false) := by
          rw [hz] at hw2
          simp only [decide_eq_false_iff_not, decide_eq_true_eq, beq_eq_false_iff_ne, beq_iff_eq, ne_eq]
          omega
        have hk9 : ¬ (s[at_ + k]'hend).toNat < 128 → k ≤ 8 := by omega
        clear hw2 hz
        by_cases hlast : (s[at_ + k]'hend).toNat < 128
        · have e5 : decide (((s[at_ + k]'hend).toNat : Int) < 128) = true := by simp; omega
          have hres := hrd.out
          rw [hL, rdV_last _ _ _ _ _ hw hlast] at hres
          have HRES := Lib.hid hres
          have htk : (restOf s at_).take (k + 1) = (restOf s at_).take k ++ [s[at_ + k]'hend] := by
            rw [List.take_add_one]; congr 1
            unfold restOf
            rw [List.getElem?_drop, byte_at s (at_ + k) hend]; rfl
          have hlen : ((restOf s at_).take k).length = k := by unfold restOf; simp; omega
          have HV : Hid (lowV (((restOf s at_).take (k + 1)).drop 0) = lowV ((restOf s at_).take k) + (s[at_ + k]'hend).toNat * 128 ^ k) := by
            unfold Hid
            rw [List.drop_zero, htk, lowV_snoc, hlen, Nat.mod_eq_of_lt hlast]
          clear hres hrd hw hL hk9 htk hlen
          rcases hcase with ⟨c1, c2⟩ | ⟨c1, c2, c3⟩ | ⟨c1, c2, c3, c4⟩
          all_goals
            go_wp2_with fail
            go_loop [9, 10] (fun t u => ∃ j : Nat, j ≤ k + 1 ∧ u = .int .i64 ((j : Int) - 1) ∧ t = .int .u64 (lowV (((restOf s at_).take (k + 1)).drop j))) (fun _ u => (intOf u + 1).toNat)
            case atStart => exact ⟨k + 1, by omega, by go_num, by rw [List.drop_of_length_le (by simp; omega)]; rfl⟩
            case round =>
              obtain ⟨j, hj, rfl, rfl⟩ := hrel
              cases j with
              | zero =>
                go_wp2
                go_ret3
                exact ⟨ret_three (v_int (by rw [HRES.out]; have h := HV.out; rw [List.drop_zero] at h; rw [h])) (v_int (by rw [HRES.out]; rfl)) (v_int (by rw [HRES.out]; simp only; omega)), rfl⟩
              | succ j =>
                rw [show ((j + 1 : Nat) : Int) - 1 = (j : Int) by omega]
                have hju : (at_ : Int) + (j : Int) < (s.size : Int) := by omega
                have hjn : at_ + j < s.size := by omega
                have hst : lowV (((restOf s at_).take (k + 1)).drop j) = (s[at_ + j]'hjn).toNat % 128 + 128 * lowV (((restOf s at_).take (k + 1)).drop (j + 1)) := by
                  have hjl : j < ((restOf s at_).take (k + 1)).length := by unfold restOf; simp; omega
                  rw [lowV_step _ j hjl]
                  congr 2
                  have : ((restOf s at_).take (k + 1))[j]? = some (s[at_ + j]'hjn) := by
                    rw [List.getElem?_take_of_lt (by omega)]
                    unfold restOf
                    rw [List.getElem?_drop, byte_at s (at_ + j) hjn]
                  rw [List.getElem?_eq_getElem hjl] at this
                  rw [Option.some.inj this]
                have hbd : lowV (((restOf s at_).take (k + 1)).drop j) ≤ 18446744073709551615 := by
                  refine Nat.le_trans (lowV_drop _ _) ?_
                  have h := HV.out
                  rw [List.drop_zero] at h
                  rw [h]
                  have h2 := rd_bound (restOf s at_)
                  rw [HRES.out] at h2
                  exact h2
                have hjb := (s[at_ + j]'hjn).toNat_lt
                generalize lowV (((restOf s at_).take (k + 1)).drop (j + 1)) = X at *
                generalize hY : lowV (((restOf s at_).take (k + 1)).drop j) = Y at *
                have HY := Lib.hid hY
                have HST := Lib.hid hst
                have hxb : (X : Int) * 128 + ((s[at_ + j]'hjn).toNat : Int) % 128 ≤ 18446744073709551615 := by omega
                have hxb2 : (X : Int) * 128 ≤ 18446744073709551615 := by omega
                clear hY hst
                go_wp2
                go_round
                case rel => exact ⟨j, by omega, by first | rfl | go_num, v_int (by rw [HY.out, HST.out]; omega)⟩
                case measure => simp [intOf]
        · have e5 : decide (((s[at_ + k]'hend).toNat : Int) < 128) = false := by simp; omega
          have hk8 := hk9 hlast
          have htk : (restOf s at_).take (k + 1) = (restOf s at_).take k ++ [s[at_ + k]'hend] := by
            rw [List.take_add_one]; congr 1
            unfold restOf
            rw [List.getElem?_drop, byte_at s (at_ + k) hend]; rfl
          have hlen : ((restOf s at_).take k).length = k := by unfold restOf; simp; omega
          have hlow : lowV ((restOf s at_).take (k + 1)) = lowV ((restOf s at_).take k) + ((s[at_ + k]'hend).toNat - 128) * 128 ^ k := by
            rw [htk, lowV_snoc, hlen]; congr 2; omega
          have hres := hrd.out
          rw [hL, rdV_more _ _ _ _ _ hw hlast, ← hlow] at hres
          have HRES := Lib.hid hres
          clear hres hrd hw hL hk9 hlow htk hlen
          rcases hcase with ⟨c1, c2⟩ | ⟨c1, c2, c3⟩ | ⟨c1, c2, c3, c4⟩
          all_goals
            go_wp2
            go_round
            case rel =>
              refine ⟨k + 1, by omega, by go_num, by omega, ?_⟩
              have he : 9 - k = 9 - (k + 1) + 1 := by omega
              show _ = _
              rw [HRES.out, he]
              simp only [Nat.add_assoc, Nat.add_comm 1 k]
            case measure => simp [intOf]; omega
      · have hw2 := hw
        unfold wrongB at hw2
        have hw2 := of_decide_eq_true hw2
        have hcase : (decide (0 < k) = true ∧ (((s[at_ + k]'hend).toNat : Int) == 0) = true) ∨ (decide (0 < k) = true ∧ (((s[at_ + k]'hend).toNat : Int) == 0) = false ∧ ((k : Int) == 9) = true ∧ decide ((1 : Int) < ((s[at_ + k]'hend).toNat : Int)) = true) := by
          rw [hz] at hw2
          simp only [decide_eq_true_eq, beq_eq_false_iff_ne, beq_iff_eq, ne_eq]
          omega
        have hres := hrd.out
        rw [hL, rdV_wrong _ _ _ _ _ hw] at hres
        have HRES := Lib.hid hres
        clear hres hrd hw hL hw2 hz
        rcases hcase with ⟨c1, c2⟩ | ⟨c1, c2, c3, c4⟩
        all_goals
          go_wp2
          go_ret3
          exact ⟨ret_three (v_int (by rw [HRES.out]; rfl)) (v_int (by rw [HRES.out]; rfl)) (v_int (by rw [HRES.out]; simp only; omega)), rfl⟩
    · have hpos : at_ + k = s.size := by omega
      have e0 : decide ((s.size : Int) ≤ (at_ : Int) + (k : Int)) = true := by simp; omega
      have hres := hrd.out
      rw [hpos, rest_nil, rdV] at hres
      have HRES := Lib.hid hres
      have HP := Lib.hid hpos
      clear hres hrd hpos
      go_wp2
      go_ret3
      exact ⟨ret_three (v_int (by rw [HRES.out]; rfl)) (v_int (by rw [HRES.out]; rfl)) (v_int (by rw [HRES.out]; simp only; have := HP.out; omega)), rfl⟩
end Go.Proofs.Ythlaadcldkefoaa
