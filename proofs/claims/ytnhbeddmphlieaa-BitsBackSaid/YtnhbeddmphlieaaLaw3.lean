import Derived.Test.YtnhbeddmphlieaaLaw2
namespace Go.Proofs.Ytnhbeddmphlieaa
open Go.RowKit
set_option linter.unusedVariables false
set_option linter.unusedSimpArgs false
theorem seq_cut {w : World} {A : Option Addr} {n c l h : Nat} {xs : List Value} (hs : SeqAt w (.slice A n c) xs) (h1 : l ≤ h) (h2 : h ≤ n) : SeqAt w (sliced A l h c 1) ((xs.drop l).take (h - l)) := by
  obtain ⟨A', c', e, hl, hm, hc⟩ := hs
  injection e with e1 e2 e3
  subst e1 e3
  have hn : xs.length = n := e2.symm
  refine ⟨if c = l then A else A.map (·.add (l * 1)), c - l, ?_, ?_, by omega, fun k u hu => ?_⟩
  · unfold sliced; rw [List.length_take, List.length_drop, hn, Nat.min_eq_left (by omega)]
  · rw [List.length_take]; omega
  · have hk : k < h - l := by
      have := (List.getElem?_eq_some_iff.1 hu).1
      rw [List.length_take] at this; omega
    rw [List.getElem?_take, if_pos hk, List.getElem?_drop] at hu
    obtain ⟨b, off, e, hcc⟩ := hc _ _ hu
    rw [if_neg (by omega), e]
    exact ⟨b, off + l, by rw [Option.map_some, addr_plus, Nat.mul_one], by rw [Nat.add_assoc]; exact hcc⟩
theorem cellsL_drop (l : List Bool) (n : Nat) : (cellsL l).drop n = cellsL (l.drop n) := by simp [cellsL, List.map_drop]
theorem cellsL_take (l : List Bool) (n : Nat) : (cellsL l).take n = cellsL (l.take n) := by simp [cellsL, List.map_take]
/-- None of these is true. -/
def noneB (l : List Bool) : Bool := l.all (!·)
theorem noneB_snoc (l : List Bool) (b : Bool) : noneB (l ++ [b]) = (noneB l && !b) := by simp [noneB]
theorem noneB_num (l : List Bool) : noneB l = decide (numB l = 0) := by
  induction l with
  | nil => rfl
  | cons b l ih =>
    rw [numB_cons]
    have hp := Nat.two_pow_pos l.length
    cases b
    · simpa [noneB] using ih
    · simp [noneB]
theorem cutB_rest (s : ByteArray) (i : Nat) : cutB s i (8 * s.size - i) = (allB s).drop i := by
  unfold cutB; rw [List.take_of_length_le]; rw [List.length_drop, allB_length]; omega
theorem done_is (s : ByteArray) (i : Nat) : (decide (8 * s.size - i < 8) && noneB ((allB s).drop i)) = doneB s i := by
  rw [noneB_num, ← cutB_rest]; unfold doneB; simp
set_option maxHeartbeats 2000000 in
set_option maxRecDepth 100000 in
theorem reads_walk (s0 : ByteArray) (a1 : Option Addr) (len1 cap1 : Nat) (z1 : List Int) (w : World) (hs0 : s0.size ≤ maxLen) (h : ArgInts .i64 w a1 len1 cap1 z1) :
    Calls Try.prog 4 #[.string s0, .slice a1 len1 cap1] w fun e w' => e = .returned (.bool true) ∧ Below w.heap.size w w' := by
  obtain ⟨hn, hlc, hcm, hll, hrow, hwf⟩ := h
  unfold maxLen at hs0 hcm
  subst hll
  have HR := Lib.hid hrow
  have HM := Lib.hid hwf
  clear hrow hwf hn
  by_cases hs : 200 < s0.size
  · have e0 : decide ((200 : Int) < (s0.size : Int)) = true := by simp; omega
    have hbel := Below.refl w.heap.size w
    go_enter Try.func4, Try.ntmps4
    go_wp2_with (go_at_call 8; refine (awake_any _).mono ?_; rintro e w1 ⟨rfl, hb⟩; have hbel := then_ hbel hb; clear hb)
    go_ret
    exact ⟨rfl, hbel⟩
  have e0 : decide ((200 : Int) < (s0.size : Int)) = false := by simp; omega
  by_cases hz : 100 < z1.length
  · have e1 : decide ((100 : Int) < (z1.length : Int)) = true := by simp; omega
    have hbel := Below.refl w.heap.size w
    go_enter Try.func4, Try.ntmps4
    go_wp2_with (go_at_call 8; refine (awake_any _).mono ?_; rintro e w1 ⟨rfl, hb⟩; have hbel := then_ hbel hb; clear hb)
    go_ret
    exact ⟨rfl, hbel⟩
  have e1 : decide ((100 : Int) < (z1.length : Int)) = false := by simp; omega
  have hlen : z1.length ≤ 100 := by omega
  have hsl : s0.size ≤ 200 := by omega
  clear hs hz
  have hbel := Below.refl w.heap.size w
  go_enter Try.func4, Try.ntmps4
  go_wp2_with fail
  refine (awake_any _).mono ?_
  rintro e wA ⟨rfl, hb⟩
  have hbel := then_ hbel hb
  clear hb
  go_wp2_with fail
  refine (bitsNew s0 wA (by omega)).mono ?_
  rintro e wB ⟨rfl, hrB, hkB⟩
  have hbA : Below wA.heap.size wA wB := hkB.below (Nat.le_refl _) (fun _ _ hf => hf)
  have hbB := hbel.trans (hbA.mono hbel.size)
  have hgA : w.heap.size ≤ wA.heap.size := hbel.size
  have hgB : wA.heap.size < wB.heap.size := hrB.lt
  have HB := Lib.hid hrB
  clear hrB hkB hbA hbel
  generalize wA.heap.size = g at *
  go_wp2_with fail
  refine (refAll s0 wB (by omega)).mono ?_
  rintro e wC ⟨v, rfl, hoC, hbC⟩
  have hseq := SeqAt.of_owns hoC
  obtain ⟨A5, cp5, rfl, h51, h52, _⟩ := id hseq
  rw [cellsL_length, allB_length] at h51
  rw [cellsL_length] at hoC ⊢
  rw [allB_length] at hoC ⊢
  unfold maxLen at h52
  have HOC := Lib.hid hoC
  have HRC := Lib.hid (HB.out.later hbC)
  have hbC' := hbB.trans (hbC.mono hbB.size)
  have hgC : g < wC.heap.size := Nat.lt_of_lt_of_le hgB hbC.size
  clear hseq hoC hbC hbB HB hgB
  go_wp2
  go_loopw [7, 34] (fun t u wr => ∃ k i : Nat, k ≤ z1.length ∧ u = .int .i64 k ∧ t = .int .i64 i ∧ BrAt wr g s0 i ∧ wr.ownsRow wB.heap.size 4 1 (.slice A5 (8 * s0.size) cp5) (8 * s0.size) (cellsL (allB s0)) ∧ g < wr.heap.size ∧ Below w.heap.size w wr)
    (fun _ u _ => z1.length - (intOf u).toNat)
  case atStart => exact ⟨0, 0, by omega, rfl, rfl, HRC.out, HOC.out, hgC, hbC'⟩
  case round =>
    clear HRC HOC hbC' hgC
    obtain ⟨k, i, hk, rfl, rfl, hr, hsq, hgr, hb⟩ := hrel
    by_cases hlt : k < z1.length
    · have hki : (k : Int) < (z1.length : Int) := by omega
      obtain ⟨c, hg⟩ : ∃ c, z1[k]? = some c := ⟨_, List.getElem?_eq_getElem hlt⟩
      obtain ⟨hcl, hch⟩ := Go.bounds_i64 (HM.out _ (List.mem_of_getElem? hg))
      obtain ⟨b, off, rfl, c1⟩ := HR.out.get hb (show (z1.map (Value.int .i64))[k]? = some (.int .i64 c) by simp [hg])
      have HR4 := Lib.hid hr
      have HSQ := Lib.hid hsq
      have hi8 := hr.2.1
      clear hr hsq hg
      by_cases hc : c < 0 ∨ 64 < c
      · have hT := bitsTakeNo g s0 i c wr HR4.out hc
        have HT := Lib.hid hT
        have HRX := HR4
        have HOX := HSQ
        have hix := hi8
        have hbx := hb
        have hgx := hgr
        clear hT HR4 HSQ hi8 hb hgr
        by_cases hc0 : c < 0
        · have hcc : decide (c < 0) = true := by simpa using hc0
          clear hc
          go_wp2_with fail
          refine HT.out.mono ?_
          rintro e w2 ⟨rfl, rfl⟩
          clear HT
          obtain ⟨B5, hB5⟩ : ∃ B5, (if cp5 = i then A5 else A5.map (fun x => x.add i)) = B5 := ⟨_, rfl⟩
          have hc5 := seq_cut (SeqAt.of_owns HOX.out) hix (Nat.le_refl _)
          unfold sliced at hc5
          rw [Nat.mul_one, hB5, cellsL_drop, cellsL_take, List.take_of_length_le (by rw [List.length_drop, allB_length]; omega)] at hc5
          obtain ⟨b8, hb8⟩ : ∃ b8, decide (8 * s0.size - i < 8) = b8 := ⟨_, rfl⟩
          have hb8i : decide ((8 : Int) * (s0.size : Int) - (i : Int) < 8) = b8 := by rw [← hb8]; congr 1; apply propext; omega
          have hd5 := done_is s0 i
          have hdl : ((allB s0).drop i).length = 8 * s0.size - i := by rw [List.length_drop, allB_length]
          rw [hb8] at hd5
          generalize (allB s0).drop i = D at *
          have HC5 := Lib.hid hc5
          have HD5 := Lib.hid hd5
          have HDL := Lib.hid hdl
          have hdl2 : 8 * s0.size - i ≤ D.length := by omega
          have hdl3 : D.length ≤ 8 * s0.size - i := by omega
          clear hc5 hd5 hdl hb8
          go_wp2_with fail
          clear hb8i
          go_loopw [12, 95] (fun d j wq => ∃ q : Nat, q ≤ D.length ∧ j = .int .i64 q ∧ d = .bool (b8 && noneB (D.take q)) ∧ wr = wq) (fun _ j _ => D.length - (intOf j).toNat)
          case atStart => exact ⟨0, by omega, rfl, by simp [noneB], rfl⟩
          case round =>
            obtain ⟨q, hq, rfl, rfl, rfl⟩ := hrel
            by_cases hlq : q < D.length
            · have hqi : (q : Int) < ((8 * s0.size - i : Nat) : Int) := by omega
              obtain ⟨x, hx⟩ : ∃ x, D[q]? = some x := ⟨_, List.getElem?_eq_getElem hlq⟩
              have hnx : (b8 && noneB (D.take (q + 1))) = ((b8 && noneB (D.take q)) && !x) := by rw [take_next hx, noneB_snoc, Bool.and_assoc]
              obtain ⟨b5, off5, hB, c5⟩ := HC5.out.get (Below.refl _ _) (cellsL_get hx)
              generalize (b8 && noneB (D.take q)) = N at *
              have HNX := Lib.hid hnx
              clear hnx hx
              obtain rfl := hB
              cases N <;> cases x
              all_goals
                go_wp2
                go_roundw
                case rel => exact ⟨q + 1, by omega, by go_num, by rw [HNX.out]; rfl, trivial⟩
                case measure => simp [intOf]; omega
            · obtain rfl : q = D.length := by omega
              have hd5 := HD5.out
              have hql : decide (((D.length : Nat) : Int) < ((8 * s0.size - i : Nat) : Int)) = false := by rw [decide_eq_false_iff_not]; omega
              rw [List.take_of_length_le (Nat.le_refl _), hd5]
              have hde : doneE s0 i = if doneB s0 i = true then 0 else 3 := rfl
              have HD1 := Lib.hid (bitsDone g s0 i wr HRX.out)
              have HA1 := Lib.hid (bitsAt g s0 i wr HRX.out)
              generalize doneB s0 i = db at *
              obtain ⟨de, hdn⟩ : ∃ de, doneE s0 i = de := ⟨_, rfl⟩
              rw [hdn] at HD1 hde
              have HDN := Lib.hid hdn
              clear hd5 HD5 HC5 hdn
              have HDE := Lib.hid hde
              clear hde
              go_wp2_with fail
              refine HA1.out.mono ?_
              rintro e w' ⟨rfl, rfl⟩
              go_wp2_with fail
              refine HD1.out.mono ?_
              rintro e w5 ⟨rfl, hb5⟩
              have hb6 := hbx.trans (hb5.mono hbx.size)
              have hr6 := HRX.out.later hb5
              have hs6 := owns_below HOX.out hb5
              have hg6 := Nat.lt_of_lt_of_le hgx hb5.size
              have hd6 := bitsDone g s0 i w5 hr6
              have hw6 : doneE s0 i = de := HDN.out
              rw [hw6] at hd6
              have HD6 := Lib.hid hd6
              have HR6 := Lib.hid hr6
              have HS6 := Lib.hid hs6
              clear hr6 hs6 hd6 hw6 hb5 HD1 HA1 HRX HOX
              cases db
              · obtain rfl : de = 3 := HDE.out
                clear HDE
                go_wp2_with fail
                refine HD6.out.mono ?_
                rintro e w7 ⟨rfl, hb7⟩
                have hb8 := hb6.trans (hb7.mono hb6.size)
                have hr8 := HR6.out.later hb7
                have hs8 := owns_below HS6.out hb7
                have hg8 := Nat.lt_of_lt_of_le hg6 hb7.size
                go_wp2
                go_roundw
                case rel => exact ⟨k + 1, i, by omega, by go_num, by go_num, hr8, hs8, hg8, hb8⟩
                case measure => simp [intOf]; omega
              · obtain rfl : de = 0 := HDE.out
                clear HDE
                go_wp2
                go_roundw
                case rel => exact ⟨k + 1, i, by omega, by go_num, by go_num, HR6.out, HS6.out, hg6, hb6⟩
                case measure => simp [intOf]; omega
        · have hcc : decide (c < 0) = false := by simpa using hc0
          have hcd : decide (64 < c) = true := by simp; omega
          clear hc
          go_wp2_with fail
          refine HT.out.mono ?_
          rintro e w2 ⟨rfl, rfl⟩
          clear HT
          obtain ⟨B5, hB5⟩ : ∃ B5, (if cp5 = i then A5 else A5.map (fun x => x.add i)) = B5 := ⟨_, rfl⟩
          have hc5 := seq_cut (SeqAt.of_owns HOX.out) hix (Nat.le_refl _)
          unfold sliced at hc5
          rw [Nat.mul_one, hB5, cellsL_drop, cellsL_take, List.take_of_length_le (by rw [List.length_drop, allB_length]; omega)] at hc5
          obtain ⟨b8, hb8⟩ : ∃ b8, decide (8 * s0.size - i < 8) = b8 := ⟨_, rfl⟩
          have hb8i : decide ((8 : Int) * (s0.size : Int) - (i : Int) < 8) = b8 := by rw [← hb8]; congr 1; apply propext; omega
          have hd5 := done_is s0 i
          have hdl : ((allB s0).drop i).length = 8 * s0.size - i := by rw [List.length_drop, allB_length]
          rw [hb8] at hd5
          generalize (allB s0).drop i = D at *
          have HC5 := Lib.hid hc5
          have HD5 := Lib.hid hd5
          have HDL := Lib.hid hdl
          have hdl2 : 8 * s0.size - i ≤ D.length := by omega
          have hdl3 : D.length ≤ 8 * s0.size - i := by omega
          clear hc5 hd5 hdl hb8
          go_wp2_with fail
          clear hb8i
          go_loopw [12, 95] (fun d j wq => ∃ q : Nat, q ≤ D.length ∧ j = .int .i64 q ∧ d = .bool (b8 && noneB (D.take q)) ∧ wr = wq) (fun _ j _ => D.length - (intOf j).toNat)
          case atStart => exact ⟨0, by omega, rfl, by simp [noneB], rfl⟩
          case round =>
            obtain ⟨q, hq, rfl, rfl, rfl⟩ := hrel
            by_cases hlq : q < D.length
            · have hqi : (q : Int) < ((8 * s0.size - i : Nat) : Int) := by omega
              obtain ⟨x, hx⟩ : ∃ x, D[q]? = some x := ⟨_, List.getElem?_eq_getElem hlq⟩
              have hnx : (b8 && noneB (D.take (q + 1))) = ((b8 && noneB (D.take q)) && !x) := by rw [take_next hx, noneB_snoc, Bool.and_assoc]
              obtain ⟨b5, off5, hB, c5⟩ := HC5.out.get (Below.refl _ _) (cellsL_get hx)
              generalize (b8 && noneB (D.take q)) = N at *
              have HNX := Lib.hid hnx
              clear hnx hx
              obtain rfl := hB
              cases N <;> cases x
              all_goals
                go_wp2
                go_roundw
                case rel => exact ⟨q + 1, by omega, by go_num, by rw [HNX.out]; rfl, trivial⟩
                case measure => simp [intOf]; omega
            · obtain rfl : q = D.length := by omega
              have hd5 := HD5.out
              have hql : decide (((D.length : Nat) : Int) < ((8 * s0.size - i : Nat) : Int)) = false := by rw [decide_eq_false_iff_not]; omega
              rw [List.take_of_length_le (Nat.le_refl _), hd5]
              have hde : doneE s0 i = if doneB s0 i = true then 0 else 3 := rfl
              have HD1 := Lib.hid (bitsDone g s0 i wr HRX.out)
              have HA1 := Lib.hid (bitsAt g s0 i wr HRX.out)
              generalize doneB s0 i = db at *
              obtain ⟨de, hdn⟩ : ∃ de, doneE s0 i = de := ⟨_, rfl⟩
              rw [hdn] at HD1 hde
              have HDN := Lib.hid hdn
              clear hd5 HD5 HC5 hdn
              have HDE := Lib.hid hde
              clear hde
              go_wp2_with fail
              refine HA1.out.mono ?_
              rintro e w' ⟨rfl, rfl⟩
              go_wp2_with fail
              refine HD1.out.mono ?_
              rintro e w5 ⟨rfl, hb5⟩
              have hb6 := hbx.trans (hb5.mono hbx.size)
              have hr6 := HRX.out.later hb5
              have hs6 := owns_below HOX.out hb5
              have hg6 := Nat.lt_of_lt_of_le hgx hb5.size
              have hd6 := bitsDone g s0 i w5 hr6
              have hw6 : doneE s0 i = de := HDN.out
              rw [hw6] at hd6
              have HD6 := Lib.hid hd6
              have HR6 := Lib.hid hr6
              have HS6 := Lib.hid hs6
              clear hr6 hs6 hd6 hw6 hb5 HD1 HA1 HRX HOX
              cases db
              · obtain rfl : de = 3 := HDE.out
                clear HDE
                go_wp2_with fail
                refine HD6.out.mono ?_
                rintro e w7 ⟨rfl, hb7⟩
                have hb8 := hb6.trans (hb7.mono hb6.size)
                have hr8 := HR6.out.later hb7
                have hs8 := owns_below HS6.out hb7
                have hg8 := Nat.lt_of_lt_of_le hg6 hb7.size
                go_wp2
                go_roundw
                case rel => exact ⟨k + 1, i, by omega, by go_num, by go_num, hr8, hs8, hg8, hb8⟩
                case measure => simp [intOf]; omega
              · obtain rfl : de = 0 := HDE.out
                clear HDE
                go_wp2
                go_roundw
                case rel => exact ⟨k + 1, i, by omega, by go_num, by go_num, HR6.out, HS6.out, hg6, hb6⟩
                case measure => simp [intOf]; omega
      · obtain ⟨n, rfl⟩ : ∃ n : Nat, c = (n : Int) := ⟨c.toNat, by omega⟩
        have hn : n ≤ 64 := by omega
        have e2 : decide ((n : Int) < 0) = false := by simp
        have e3 : decide ((64 : Int) < (n : Int)) = false := by simp; omega
        by_cases he : 8 * s0.size < i + n
        · have HT := Lib.hid (bitsTakeEnd g s0 i n wr HR4.out hn he)
          have e4 : decide ((8 : Int) * (s0.size : Int) - (i : Int) < (n : Int)) = true := by simp; omega
          have hix := hi8
          clear hc hi8
          go_wp2_with fail
          refine HT.out.mono ?_
          rintro e w2 ⟨rfl, m, hw2⟩
          have hb2 : Below wr.heap.size wr w2 := by rw [hw2]; exact below_drewN (Below.refl _ _) _
          have HRX := Lib.hid (HR4.out.later hb2)
          have HOX := Lib.hid (owns_below HSQ.out hb2)
          have hbx := hb.trans (hb2.mono hb.size)
          have hgx := Nat.lt_of_lt_of_le hgr hb2.size
          clear HT HR4 HSQ hb hgr hb2 hw2
          obtain ⟨B5, hB5⟩ : ∃ B5, (if cp5 = i then A5 else A5.map (fun x => x.add i)) = B5 := ⟨_, rfl⟩
          have hc5 := seq_cut (SeqAt.of_owns HOX.out) hix (Nat.le_refl _)
          unfold sliced at hc5
          rw [Nat.mul_one, hB5, cellsL_drop, cellsL_take, List.take_of_length_le (by rw [List.length_drop, allB_length]; omega)] at hc5
          obtain ⟨b8, hb8⟩ : ∃ b8, decide (8 * s0.size - i < 8) = b8 := ⟨_, rfl⟩
          have hb8i : decide ((8 : Int) * (s0.size : Int) - (i : Int) < 8) = b8 := by rw [← hb8]; congr 1; apply propext; omega
          have hd5 := done_is s0 i
          have hdl : ((allB s0).drop i).length = 8 * s0.size - i := by rw [List.length_drop, allB_length]
          rw [hb8] at hd5
          generalize (allB s0).drop i = D at *
          have HC5 := Lib.hid hc5
          have HD5 := Lib.hid hd5
          have HDL := Lib.hid hdl
          have hdl2 : 8 * s0.size - i ≤ D.length := by omega
          have hdl3 : D.length ≤ 8 * s0.size - i := by omega
          clear hc5 hd5 hdl hb8
          go_wp2_with fail
          clear hb8i
          go_loopw [12, 95] (fun d j wq => ∃ q : Nat, q ≤ D.length ∧ j = .int .i64 q ∧ d = .bool (b8 && noneB (D.take q)) ∧ w2 = wq) (fun _ j _ => D.length - (intOf j).toNat)
          case atStart => exact ⟨0, by omega, rfl, by simp [noneB], rfl⟩
          case round =>
            obtain ⟨q, hq, rfl, rfl, rfl⟩ := hrel
            by_cases hlq : q < D.length
            · have hqi : (q : Int) < ((8 * s0.size - i : Nat) : Int) := by omega
              obtain ⟨x, hx⟩ : ∃ x, D[q]? = some x := ⟨_, List.getElem?_eq_getElem hlq⟩
              have hnx : (b8 && noneB (D.take (q + 1))) = ((b8 && noneB (D.take q)) && !x) := by rw [take_next hx, noneB_snoc, Bool.and_assoc]
              obtain ⟨b5, off5, hB, c5⟩ := HC5.out.get (Below.refl _ _) (cellsL_get hx)
              generalize (b8 && noneB (D.take q)) = N at *
              have HNX := Lib.hid hnx
              clear hnx hx
              obtain rfl := hB
              cases N <;> cases x
              all_goals
                go_wp2
                go_roundw
                case rel => exact ⟨q + 1, by omega, by go_num, by rw [HNX.out]; rfl, trivial⟩
                case measure => simp [intOf]; omega
            · obtain rfl : q = D.length := by omega
              have hd5 := HD5.out
              have hql : decide (((D.length : Nat) : Int) < ((8 * s0.size - i : Nat) : Int)) = false := by rw [decide_eq_false_iff_not]; omega
              rw [List.take_of_length_le (Nat.le_refl _), hd5]
              have hde : doneE s0 i = if doneB s0 i = true then 0 else 3 := rfl
              have HD1 := Lib.hid (bitsDone g s0 i w2 HRX.out)
              have HA1 := Lib.hid (bitsAt g s0 i w2 HRX.out)
              generalize doneB s0 i = db at *
              obtain ⟨de, hdn⟩ : ∃ de, doneE s0 i = de := ⟨_, rfl⟩
              rw [hdn] at HD1 hde
              have HDN := Lib.hid hdn
              clear hd5 HD5 HC5 hdn
              have HDE := Lib.hid hde
              clear hde
              go_wp2_with fail
              refine HA1.out.mono ?_
              rintro e w' ⟨rfl, rfl⟩
              go_wp2_with fail
              refine HD1.out.mono ?_
              rintro e w5 ⟨rfl, hb5⟩
              have hb6 := hbx.trans (hb5.mono hbx.size)
              have hr6 := HRX.out.later hb5
              have hs6 := owns_below HOX.out hb5
              have hg6 := Nat.lt_of_lt_of_le hgx hb5.size
              have hd6 := bitsDone g s0 i w5 hr6
              have hw6 : doneE s0 i = de := HDN.out
              rw [hw6] at hd6
              have HD6 := Lib.hid hd6
              have HR6 := Lib.hid hr6
              have HS6 := Lib.hid hs6
              clear hr6 hs6 hd6 hw6 hb5 HD1 HA1 HRX HOX
              cases db
              · obtain rfl : de = 3 := HDE.out
                clear HDE
                go_wp2_with fail
                refine HD6.out.mono ?_
                rintro e w7 ⟨rfl, hb7⟩
                have hb8 := hb6.trans (hb7.mono hb6.size)
                have hr8 := HR6.out.later hb7
                have hs8 := owns_below HS6.out hb7
                have hg8 := Nat.lt_of_lt_of_le hg6 hb7.size
                go_wp2
                go_roundw
                case rel => exact ⟨k + 1, i, by omega, by go_num, by go_num, hr8, hs8, hg8, hb8⟩
                case measure => simp [intOf]; omega
              · obtain rfl : de = 0 := HDE.out
                clear HDE
                go_wp2
                go_roundw
                case rel => exact ⟨k + 1, i, by omega, by go_num, by go_num, HR6.out, HS6.out, hg6, hb6⟩
                case measure => simp [intOf]; omega
        · have HT := Lib.hid (bitsTakeOk g s0 i n wr HR4.out hn (by omega))
          have e4 : decide ((8 : Int) * (s0.size : Int) - (i : Int) < (n : Int)) = false := by simp; omega
          clear hc hi8
          go_wp2_with fail
          refine HT.out.mono ?_
          rintro e w2 ⟨rfl, hr2, hk2⟩
          have HOX := Lib.hid (owns_kept HSQ.out hk2 (fun r cur _ hl (e : r = g) => by subst e; exact absurd (hl.same HR4.out.1).1 (by decide)))
          have HRX := Lib.hid hr2
          have hbx := hb.trans (hk2.below hb.size (fun j hj (e : j = g) => by omega))
          have hgx : g < w2.heap.size := hr2.lt
          clear HT HR4 HSQ hb hgr hk2 hr2
          obtain ⟨B4, hB4⟩ : ∃ B4, (if cp5 = i then A5 else A5.map (fun x => x.add i)) = B4 := ⟨_, rfl⟩
          have hc4 := seq_cut (SeqAt.of_owns HOX.out) (show i ≤ i + n by omega) (show i + n ≤ 8 * s0.size by omega)
          unfold sliced at hc4
          rw [Nat.mul_one, hB4, cellsL_drop, cellsL_take, Nat.add_sub_cancel_left] at hc4
          have HN4 := Lib.hid (refNumber _ _ w2 hc4 (by rw [List.length_take]; omega))
          have hin : i + n ≤ 8 * s0.size := by omega
          clear hc4
          unfold cutB
          generalize numB (((allB s0).drop i).take n) = N4 at *
          go_wp2_with fail
          refine HN4.out.mono ?_
          rintro e w3 ⟨rfl, rfl⟩
          clear HN4 hB4
          obtain ⟨i2, hi2⟩ : ∃ i2, i + n = i2 := ⟨_, rfl⟩
          have hi2i : (i : Int) + (n : Int) = (i2 : Int) := by omega
          have hix : i2 ≤ 8 * s0.size := by omega
          rw [hi2] at HRX
          clear hi2 hin
          obtain ⟨B5, hB5⟩ : ∃ B5, (if cp5 = i2 then A5 else A5.map (fun x => x.add i2)) = B5 := ⟨_, rfl⟩
          have hc5 := seq_cut (SeqAt.of_owns HOX.out) hix (Nat.le_refl _)
          unfold sliced at hc5
          rw [Nat.mul_one, hB5, cellsL_drop, cellsL_take, List.take_of_length_le (by rw [List.length_drop, allB_length]; omega)] at hc5
          obtain ⟨b8, hb8⟩ : ∃ b8, decide (8 * s0.size - i2 < 8) = b8 := ⟨_, rfl⟩
          have hb8i : decide ((8 : Int) * (s0.size : Int) - (i2 : Int) < 8) = b8 := by rw [← hb8]; congr 1; apply propext; omega
          have hd5 := done_is s0 i2
          have hdl : ((allB s0).drop i2).length = 8 * s0.size - i2 := by rw [List.length_drop, allB_length]
          rw [hb8] at hd5
          generalize (allB s0).drop i2 = D at *
          have HC5 := Lib.hid hc5
          have HD5 := Lib.hid hd5
          have HDL := Lib.hid hdl
          have hdl2 : 8 * s0.size - i2 ≤ D.length := by omega
          have hdl3 : D.length ≤ 8 * s0.size - i2 := by omega
          clear hc5 hd5 hdl hb8
          go_wp2_with fail
          clear hb8i
          go_loopw [12, 95] (fun d j wq => ∃ q : Nat, q ≤ D.length ∧ j = .int .i64 q ∧ d = .bool (b8 && noneB (D.take q)) ∧ w2 = wq) (fun _ j _ => D.length - (intOf j).toNat)
          case atStart => exact ⟨0, by omega, rfl, by simp [noneB], rfl⟩
          case round =>
            obtain ⟨q, hq, rfl, rfl, rfl⟩ := hrel
            by_cases hlq : q < D.length
            · have hqi : (q : Int) < ((8 * s0.size - i2 : Nat) : Int) := by omega
              obtain ⟨x, hx⟩ : ∃ x, D[q]? = some x := ⟨_, List.getElem?_eq_getElem hlq⟩
              have hnx : (b8 && noneB (D.take (q + 1))) = ((b8 && noneB (D.take q)) && !x) := by rw [take_next hx, noneB_snoc, Bool.and_assoc]
              obtain ⟨b5, off5, hB, c5⟩ := HC5.out.get (Below.refl _ _) (cellsL_get hx)
              generalize (b8 && noneB (D.take q)) = N at *
              have HNX := Lib.hid hnx
              clear hnx hx
              obtain rfl := hB
              cases N <;> cases x
              all_goals
                go_wp2
                go_roundw
                case rel => exact ⟨q + 1, by omega, by go_num, by rw [HNX.out]; rfl, trivial⟩
                case measure => simp [intOf]; omega
            · obtain rfl : q = D.length := by omega
              have hd5 := HD5.out
              have hql : decide (((D.length : Nat) : Int) < ((8 * s0.size - i2 : Nat) : Int)) = false := by rw [decide_eq_false_iff_not]; omega
              rw [List.take_of_length_le (Nat.le_refl _), hd5]
              have hde : doneE s0 i2 = if doneB s0 i2 = true then 0 else 3 := rfl
              have HD1 := Lib.hid (bitsDone g s0 i2 w2 HRX.out)
              have HA1 := Lib.hid (bitsAt g s0 i2 w2 HRX.out)
              generalize doneB s0 i2 = db at *
              obtain ⟨de, hdn⟩ : ∃ de, doneE s0 i2 = de := ⟨_, rfl⟩
              rw [hdn] at HD1 hde
              have HDN := Lib.hid hdn
              clear hd5 HD5 HC5 hdn
              have HDE := Lib.hid hde
              clear hde
              go_wp2_with fail
              refine HA1.out.mono ?_
              rintro e w' ⟨rfl, rfl⟩
              go_wp2_with fail
              refine HD1.out.mono ?_
              rintro e w5 ⟨rfl, hb5⟩
              have hb6 := hbx.trans (hb5.mono hbx.size)
              have hr6 := HRX.out.later hb5
              have hs6 := owns_below HOX.out hb5
              have hg6 := Nat.lt_of_lt_of_le hgx hb5.size
              have hd6 := bitsDone g s0 i2 w5 hr6
              have hw6 : doneE s0 i2 = de := HDN.out
              rw [hw6] at hd6
              have HD6 := Lib.hid hd6
              have HR6 := Lib.hid hr6
              have HS6 := Lib.hid hs6
              clear hr6 hs6 hd6 hw6 hb5 HD1 HA1 HRX HOX
              cases db
              · obtain rfl : de = 3 := HDE.out
                clear HDE
                go_wp2_with fail
                refine HD6.out.mono ?_
                rintro e w7 ⟨rfl, hb7⟩
                have hb8 := hb6.trans (hb7.mono hb6.size)
                have hr8 := HR6.out.later hb7
                have hs8 := owns_below HS6.out hb7
                have hg8 := Nat.lt_of_lt_of_le hg6 hb7.size
                go_wp2
                go_roundw
                case rel => exact ⟨k + 1, i2, by omega, by go_num, by go_num, hr8, hs8, hg8, hb8⟩
                case measure => simp [intOf]; omega
              · obtain rfl : de = 0 := HDE.out
                clear HDE
                go_wp2
                go_roundw
                case rel => exact ⟨k + 1, i2, by omega, by go_num, by go_num, HR6.out, HS6.out, hg6, hb6⟩
                case measure => simp [intOf]; omega
    · go_wp2
      go_ret
      exact ⟨rfl, hb⟩
end Go.Proofs.Ytnhbeddmphlieaa
