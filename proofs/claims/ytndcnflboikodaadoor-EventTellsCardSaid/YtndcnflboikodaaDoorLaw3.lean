/-
  EventTells: its walk.
-/
import Derived.Test.YtndcnflboikodaaDoorLaw1
namespace Go.Proofs.YtndcnflboikodaaDoor
open Go.RowKit
set_option linter.unusedVariables false
set_option linter.unusedSimpArgs false
theorem nms_first (k : Int) : (nmsB k = ⟨#[82, 84]⟩ ∧ ringB k = true) ∨ (nmsB k = ⟨#[82]⟩ ∧ ringB k = true) ∨ (nmsB k = ⟨#[86]⟩ ∧ ringB k = false) ∨ (nmsB k = ⟨#[]⟩ ∧ ringB k = false) := by
  unfold nmsB
  rcases kinds_apart k with ⟨h1, h2, h3⟩ | ⟨h1, h2, h3⟩ | ⟨h1, h2, h3⟩ | ⟨h1, h2, h3⟩
  all_goals
    rw [h1, h2, h3]
    simp
theorem name_back (s : ByteArray) : (efN s != 0) = ((!s.toList.isEmpty) && ((evnB (efN s : Int)).toList == s.toList)) := by
  by_cases h : efN s = 0
  · rw [h]
    cases he : s.toList.isEmpty with
    | true => rfl
    | false =>
      have h0 : evnB ((0 : Nat) : Int) = ⟨#[]⟩ := by decide +kernel
      rw [h0]
      have hne : (⟨#[]⟩ : ByteArray) ≠ s := fun e => by subst e; simp [ByteArray.toList_eq] at he
      rw [text_ne hne]; rfl
  · have h1 := efN_get h
    have h2 : evnB (efN s : Int) = s := by rw [evn_get (kind_efN h), Int.toNat_natCast]; exact h1.2.2
    have h3 : (efN s != 0) = true := by rw [bne_iff_ne]; exact h
    obtain ⟨b, r, hc⟩ := evn_cons (kind_efN h)
    rw [h2] at hc
    rw [h3, h2, hc]; simp
theorem own_back (k : Int) : (evnB k).toList.isEmpty = true ∨ ((evnB k).toList.isEmpty = false ∧ (efN (evnB k) : Int) = k ∧ (efN (evnB k) != 0) = true) := by
  cases hk : kindB k with
  | false => exact .inl (by rw [evn_no hk]; decide +kernel)
  | true =>
    obtain ⟨b, r, hc⟩ := evn_cons hk
    have h1 := efN_name hk
    have h2 := kindB_iff.1 hk
    exact .inr ⟨by rw [hc]; rfl, h1, by rw [bne_iff_ne]; omega⟩
set_option maxHeartbeats 16000000 in
set_option maxRecDepth 100000 in
theorem tells_walk (z : Ev) (s : ByteArray) (W : World) (hok : evOk z) (hs : s.size ≤ maxLen) (hN : EvnAt W) :
    Calls Tryd.prog 3 #[.agg (evC z), .string s] W fun e w' => e = .returned (.bool true) ∧ Below W.heap.size W w' := by
  have hgl := hN.lt
  have HEN := Lib.hid (fun (q : World) (hq : Below W.heap.size W q) => hN.later hq hgl)
  have hb0 : Below W.heap.size W (W.alloc (.cells (evC z) 24)) := (Below.refl _ _).alloc (Nat.le_refl _) _
  have l0 := Lies.made W 24 (evC z)
  obtain ⟨x, hx⟩ : ∃ x : Ev, z = x := ⟨_, rfl⟩
  subst hx
  have HB := Lib.hid hb0
  have HL := Lib.hid l0
  have HOK := Lib.hid hok
  unfold maxLen at hs
  clear hN hb0 l0 hok
  obtain ⟨N, hN⟩ : ∃ N, W.heap.size = N := ⟨_, rfl⟩
  rw [hN] at HL
  have HNN := Lib.hid hN
  by_cases hl : 50 < s.size
  · have e1 : decide (50 < s.size) = true := decide_eq_true hl
    have e2 : decide ((50 : Int) < (s.size : Int)) = true := decide_eq_true (by omega)
    clear hN
    go_enter Tryd.func3, Tryd.ntmps3
    go_wp2_with fail
    refine (awake_any _ (HEN.out _ HB.out)).mono ?_
    rintro e wn ⟨rfl, hbm⟩
    replace HB := Lib.hid (HB.out.trans (hbm.mono HB.out.size))
    clear hbm
    go_wp2_with fail
    refine (awake_any _ (HEN.out _ HB.out)).mono ?_
    rintro e wn ⟨rfl, hbm⟩
    replace HB := Lib.hid (HB.out.trans (hbm.mono HB.out.size))
    clear hbm
    go_wp2
    go_ret
    exact ⟨rfl, HB.out⟩
  have e1 : decide (50 < s.size) = false := decide_eq_false hl
  have e2 : decide ((50 : Int) < (s.size : Int)) = false := decide_eq_false (by omega)
  have HLN := Lib.hid (fun w h => line15 z w h HOK.out)
  have HRR := Lib.hid (fun w => rfRight15 z w)
  have HRI := Lib.hid (fun w => right15 z w)
  have HRP := Lib.hid (@right_parts z)
  have HLR := Lib.hid (fun w h0 h1 h2 h3 h4 => rfLine15 z w h0 h1 h2 h3 h4 HOK.out.2.2.2.2)
  have HS9 : Hid (lnS z = if rightE z = true then textB (lineE z) else ⟨#[]⟩) := rfl
  have HM9 : Hid (lnN z = if rightE z = true then 0 else 3) := rfl
  go_enter Tryd.func3, Tryd.ntmps3
  go_wp2_with fail
  try simp only [hN]
  clear hN
  generalize W.alloc (.cells (evC z) 24) = w1 at *
  refine (awake_any _ (HEN.out _ HB.out)).mono ?_
  rintro e wn ⟨rfl, hbm⟩
  replace HB := Lib.hid (HB.out.trans (hbm.mono HB.out.size))
  replace HL := Lib.hid (HL.out.below hbm HL.out.lt)
  clear hbm
  have c0 := (HL.out.cell 0).trans (show _ = some (Value.int .i64 z.th) from rfl)
  have c1 := (HL.out.cell 1).trans (show _ = some (Value.int .i64 z.kd) from rfl)
  have c2 := (HL.out.cell 2).trans (show _ = some (Value.int .i64 z.rg) from rfl)
  have c3 := (HL.out.cell 3).trans (show _ = some (Value.int .u64 (z.tk : Int)) from rfl)
  have c4 := (HL.out.cell 4).trans (show _ = some (Value.int .u64 (z.vl : Int)) from rfl)
  have cl := HL.out.lt
  go_wp2_with fail
  refine (HLN.out _ (HEN.out _ HB.out)).mono ?_
  rintro e wa ⟨rfl, hbm⟩
  clear c0 c1 c2 c3 c4 cl HLN
  replace HB := Lib.hid (HB.out.trans (hbm.mono HB.out.size))
  replace HL := Lib.hid (HL.out.below hbm HL.out.lt)
  clear hbm
  have c0 := (HL.out.cell 0).trans (show _ = some (Value.int .i64 z.th) from rfl)
  have c1 := (HL.out.cell 1).trans (show _ = some (Value.int .i64 z.kd) from rfl)
  have c2 := (HL.out.cell 2).trans (show _ = some (Value.int .i64 z.rg) from rfl)
  have c3 := (HL.out.cell 3).trans (show _ = some (Value.int .u64 (z.tk : Int)) from rfl)
  have c4 := (HL.out.cell 4).trans (show _ = some (Value.int .u64 (z.vl : Int)) from rfl)
  have cl := HL.out.lt
  go_wp2_with fail
  refine (HRR.out _).mono ?_
  rintro e wb ⟨rfl, hbm⟩
  clear c0 c1 c2 c3 c4 cl HRR
  replace HB := Lib.hid (HB.out.trans (hbm.mono HB.out.size))
  replace HL := Lib.hid (HL.out.below hbm HL.out.lt)
  clear hbm
  have c0 := (HL.out.cell 0).trans (show _ = some (Value.int .i64 z.th) from rfl)
  have c1 := (HL.out.cell 1).trans (show _ = some (Value.int .i64 z.kd) from rfl)
  have c2 := (HL.out.cell 2).trans (show _ = some (Value.int .i64 z.rg) from rfl)
  have c3 := (HL.out.cell 3).trans (show _ = some (Value.int .u64 (z.tk : Int)) from rfl)
  have c4 := (HL.out.cell 4).trans (show _ = some (Value.int .u64 (z.vl : Int)) from rfl)
  have cl := HL.out.lt
  go_wp2_with fail
  refine (HRI.out _).mono ?_
  rintro e wc ⟨rfl, hbm⟩
  clear c0 c1 c2 c3 c4 cl HRI
  replace HB := Lib.hid (HB.out.trans (hbm.mono HB.out.size))
  replace HL := Lib.hid (HL.out.below hbm HL.out.lt)
  clear hbm
  have c0 := (HL.out.cell 0).trans (show _ = some (Value.int .i64 z.th) from rfl)
  have c1 := (HL.out.cell 1).trans (show _ = some (Value.int .i64 z.kd) from rfl)
  have c2 := (HL.out.cell 2).trans (show _ = some (Value.int .i64 z.rg) from rfl)
  have c3 := (HL.out.cell 3).trans (show _ = some (Value.int .u64 (z.tk : Int)) from rfl)
  have c4 := (HL.out.cell 4).trans (show _ = some (Value.int .u64 (z.vl : Int)) from rfl)
  have cl := HL.out.lt
  generalize lnS z = ls at *
  generalize lnN z = ln at *
  generalize hrz : rightE z = r at *
  cases r with
  | false =>
    rw [if_neg (by decide)] at HS9 HM9
    rw [HS9.out, HM9.out]
    clear HS9 HM9 HLR HRP
    have HNAM := Lib.hid (fun w => rfEvName z.kd w)
    have HNA2 := Lib.hid (fun w h => evname_any z.kd w h)
    have HOB := Lib.hid (own_back z.kd)
    have HFD := Lib.hid (fun w h => efind_any s w h)
    have HFO := Lib.hid (fun w h => efind_any (evnB z.kd) w h)
    have HNK := Lib.hid (fun w => rfEvName (efN s : Int) w)
    have HNB := Lib.hid (name_back s)
    have HNS := Lib.hid (fun w => rfNames z.kd w)
    have HNF := Lib.hid (nms_first z.kd)
    have HRG := Lib.hid (fun w => rings_any z.kd w)
    go_wp2_with fail
    refine (HNAM.out _).mono ?_
    rintro e we ⟨rfl, hbm⟩
    clear c0 c1 c2 c3 c4 cl HNAM
    replace HB := Lib.hid (HB.out.trans (hbm.mono HB.out.size))
    replace HL := Lib.hid (HL.out.below hbm HL.out.lt)
    clear hbm
    have c0 := (HL.out.cell 0).trans (show _ = some (Value.int .i64 z.th) from rfl)
    have c1 := (HL.out.cell 1).trans (show _ = some (Value.int .i64 z.kd) from rfl)
    have c2 := (HL.out.cell 2).trans (show _ = some (Value.int .i64 z.rg) from rfl)
    have c3 := (HL.out.cell 3).trans (show _ = some (Value.int .u64 (z.tk : Int)) from rfl)
    have c4 := (HL.out.cell 4).trans (show _ = some (Value.int .u64 (z.vl : Int)) from rfl)
    have cl := HL.out.lt
    go_wp2_with fail
    refine (HFD.out _ (HEN.out _ HB.out)).mono ?_
    rintro e w' ⟨rfl, rfl⟩
    go_wp2_with fail
    refine (HFO.out _ (HEN.out _ HB.out)).mono ?_
    rintro e w' ⟨rfl, rfl⟩
    go_wp2_with fail
    refine (HNS.out _).mono ?_
    rintro e w' ⟨rfl, rfl⟩
    go_wp2_with fail
    refine (HNA2.out _ (HEN.out _ HB.out)).mono ?_
    rintro e w' ⟨rfl, rfl⟩
    go_wp2_with fail
    refine (HRG.out _).mono ?_
    rintro e w' ⟨rfl, rfl⟩
    clear HFD HFO HNS HNA2 HRG
    rcases HNF.out with ⟨n1, n2⟩ | ⟨n1, n2⟩ | ⟨n1, n2⟩ | ⟨n1, n2⟩
    all_goals
      rw [n1, n2]
      clear n1 n2 HNF
      rcases HOB.out with o1 | ⟨o1, o2, o3⟩
      all_goals
        clear HOB
        by_cases hs0 : s.toList.isEmpty = true
        · have hm := HNB.out
          rw [hs0] at hm
          simp only [Bool.not_true, Bool.false_and] at hm
          have hm2 : efN s = 0 := by simpa using hm
          rw [hm2]
          clear hm hm2 HNB HNK
          go_wp2
          go_ret
          exact ⟨ret_bool (by simp [*]), HB.out⟩
        · have hs1 : s.toList.isEmpty = false := by simpa using hs0
          clear hs0
          go_wp2_with fail
          refine (HNK.out _).mono ?_
          rintro e wf ⟨rfl, hbm⟩
          clear c0 c1 c2 c3 c4 cl HNK
          replace HB := Lib.hid (HB.out.trans (hbm.mono HB.out.size))
          replace HL := Lib.hid (HL.out.below hbm HL.out.lt)
          clear hbm
          have c0 := (HL.out.cell 0).trans (show _ = some (Value.int .i64 z.th) from rfl)
          have c1 := (HL.out.cell 1).trans (show _ = some (Value.int .i64 z.kd) from rfl)
          have c2 := (HL.out.cell 2).trans (show _ = some (Value.int .i64 z.rg) from rfl)
          have c3 := (HL.out.cell 3).trans (show _ = some (Value.int .u64 (z.tk : Int)) from rfl)
          have c4 := (HL.out.cell 4).trans (show _ = some (Value.int .u64 (z.vl : Int)) from rfl)
          have cl := HL.out.lt
          have hm := HNB.out
          rw [hs1] at hm
          obtain ⟨b, hb⟩ : ∃ b, ((evnB (efN s : Int)).toList == s.toList) = b := ⟨_, rfl⟩
          rw [hb] at hm
          simp only [Bool.not_false, Bool.true_and] at hm
          have h5 : ((efN s : Int) == 0) = !b := by
            rw [← hm]
            cases he : efN s == 0 with
            | true =>
              rw [beq_iff_eq] at he
              rw [he]; rfl
            | false =>
              rw [beq_eq_false_iff_ne] at he
              have h6 : (efN s != 0) = true := by rw [bne_iff_ne]; exact he
              rw [h6, beq_eq_false_iff_ne.2 (by omega)]; rfl
          clear HNB
          generalize efN s = m9 at *
          cases b
          all_goals
            simp only [Bool.not_true, Bool.not_false] at h5
            go_wp2
            go_ret
            exact ⟨ret_bool (by simp [*]), HB.out⟩
  | true =>
    rw [if_pos rfl] at HS9 HM9
    rw [HS9.out, HM9.out]
    obtain ⟨k1, ⟨r1, r2, r3, r4, r5⟩, q1, q2, q3⟩ := HRP.out rfl
    clear HS9 HM9 HRP q1 q2 q3 k1
    go_wp2_with fail
    refine (HLR.out _ r1 (by omega) r3 (by omega) (by omega)).mono ?_
    rintro e wd ⟨rfl, hbm⟩
    clear c0 c1 c2 c3 c4 cl HLR r1 r2 r3 r4 r5
    replace HB := Lib.hid (HB.out.trans (hbm.mono HB.out.size))
    replace HL := Lib.hid (HL.out.below hbm HL.out.lt)
    clear hbm
    have c0 := (HL.out.cell 0).trans (show _ = some (Value.int .i64 z.th) from rfl)
    have c1 := (HL.out.cell 1).trans (show _ = some (Value.int .i64 z.kd) from rfl)
    have c2 := (HL.out.cell 2).trans (show _ = some (Value.int .i64 z.rg) from rfl)
    have c3 := (HL.out.cell 3).trans (show _ = some (Value.int .u64 (z.tk : Int)) from rfl)
    have c4 := (HL.out.cell 4).trans (show _ = some (Value.int .u64 (z.vl : Int)) from rfl)
    have cl := HL.out.lt
    have HNAM := Lib.hid (fun w => rfEvName z.kd w)
    have HNA2 := Lib.hid (fun w h => evname_any z.kd w h)
    have HOB := Lib.hid (own_back z.kd)
    have HFD := Lib.hid (fun w h => efind_any s w h)
    have HFO := Lib.hid (fun w h => efind_any (evnB z.kd) w h)
    have HNK := Lib.hid (fun w => rfEvName (efN s : Int) w)
    have HNB := Lib.hid (name_back s)
    have HNS := Lib.hid (fun w => rfNames z.kd w)
    have HNF := Lib.hid (nms_first z.kd)
    have HRG := Lib.hid (fun w => rings_any z.kd w)
    go_wp2_with fail
    refine (HNAM.out _).mono ?_
    rintro e we ⟨rfl, hbm⟩
    clear c0 c1 c2 c3 c4 cl HNAM
    replace HB := Lib.hid (HB.out.trans (hbm.mono HB.out.size))
    replace HL := Lib.hid (HL.out.below hbm HL.out.lt)
    clear hbm
    have c0 := (HL.out.cell 0).trans (show _ = some (Value.int .i64 z.th) from rfl)
    have c1 := (HL.out.cell 1).trans (show _ = some (Value.int .i64 z.kd) from rfl)
    have c2 := (HL.out.cell 2).trans (show _ = some (Value.int .i64 z.rg) from rfl)
    have c3 := (HL.out.cell 3).trans (show _ = some (Value.int .u64 (z.tk : Int)) from rfl)
    have c4 := (HL.out.cell 4).trans (show _ = some (Value.int .u64 (z.vl : Int)) from rfl)
    have cl := HL.out.lt
    go_wp2_with fail
    refine (HFD.out _ (HEN.out _ HB.out)).mono ?_
    rintro e w' ⟨rfl, rfl⟩
    go_wp2_with fail
    refine (HFO.out _ (HEN.out _ HB.out)).mono ?_
    rintro e w' ⟨rfl, rfl⟩
    go_wp2_with fail
    refine (HNS.out _).mono ?_
    rintro e w' ⟨rfl, rfl⟩
    go_wp2_with fail
    refine (HNA2.out _ (HEN.out _ HB.out)).mono ?_
    rintro e w' ⟨rfl, rfl⟩
    go_wp2_with fail
    refine (HRG.out _).mono ?_
    rintro e w' ⟨rfl, rfl⟩
    clear HFD HFO HNS HNA2 HRG
    rcases HNF.out with ⟨n1, n2⟩ | ⟨n1, n2⟩ | ⟨n1, n2⟩ | ⟨n1, n2⟩
    all_goals
      rw [n1, n2]
      clear n1 n2 HNF
      rcases HOB.out with o1 | ⟨o1, o2, o3⟩
      all_goals
        clear HOB
        by_cases hs0 : s.toList.isEmpty = true
        · have hm := HNB.out
          rw [hs0] at hm
          simp only [Bool.not_true, Bool.false_and] at hm
          have hm2 : efN s = 0 := by simpa using hm
          rw [hm2]
          clear hm hm2 HNB HNK
          go_wp2
          go_ret
          exact ⟨ret_bool (by simp [*]), HB.out⟩
        · have hs1 : s.toList.isEmpty = false := by simpa using hs0
          clear hs0
          go_wp2_with fail
          refine (HNK.out _).mono ?_
          rintro e wf ⟨rfl, hbm⟩
          clear c0 c1 c2 c3 c4 cl HNK
          replace HB := Lib.hid (HB.out.trans (hbm.mono HB.out.size))
          replace HL := Lib.hid (HL.out.below hbm HL.out.lt)
          clear hbm
          have c0 := (HL.out.cell 0).trans (show _ = some (Value.int .i64 z.th) from rfl)
          have c1 := (HL.out.cell 1).trans (show _ = some (Value.int .i64 z.kd) from rfl)
          have c2 := (HL.out.cell 2).trans (show _ = some (Value.int .i64 z.rg) from rfl)
          have c3 := (HL.out.cell 3).trans (show _ = some (Value.int .u64 (z.tk : Int)) from rfl)
          have c4 := (HL.out.cell 4).trans (show _ = some (Value.int .u64 (z.vl : Int)) from rfl)
          have cl := HL.out.lt
          have hm := HNB.out
          rw [hs1] at hm
          obtain ⟨b, hb⟩ : ∃ b, ((evnB (efN s : Int)).toList == s.toList) = b := ⟨_, rfl⟩
          rw [hb] at hm
          simp only [Bool.not_false, Bool.true_and] at hm
          have h5 : ((efN s : Int) == 0) = !b := by
            rw [← hm]
            cases he : efN s == 0 with
            | true =>
              rw [beq_iff_eq] at he
              rw [he]; rfl
            | false =>
              rw [beq_eq_false_iff_ne] at he
              have h6 : (efN s != 0) = true := by rw [bne_iff_ne]; exact he
              rw [h6, beq_eq_false_iff_ne.2 (by omega)]; rfl
          clear HNB
          generalize efN s = m9 at *
          cases b
          all_goals
            simp only [Bool.not_true, Bool.not_false] at h5
            go_wp2
            go_ret
            exact ⟨ret_bool (by simp [*]), HB.out⟩
end Go.Proofs.YtndcnflboikodaaDoor
