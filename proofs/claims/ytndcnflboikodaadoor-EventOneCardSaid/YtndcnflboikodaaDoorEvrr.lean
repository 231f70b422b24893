/-
  The document's Right of events (layer 15).
-/
import Derived.Test.YtndcnflboikodaaDoorEvh
namespace Go.Proofs.YtndcnflboikodaaDoor
open Go.RowKit
set_option linter.unusedVariables false
set_option linter.unusedSimpArgs false
def inB (x : Ev) : Bool := decide (0 ≤ x.th ∧ x.th ≤ 7 ∧ 0 ≤ x.rg ∧ x.rg ≤ 7 ∧ x.tk < 4611686018427387904)
theorem rightE2 (x : Ev) : rightE x = (kindB x.kd && (inB x && ((ringB x.kd || x.rg == 0) && ((ticketB x.kd || x.tk == 0) && (valueB x.kd || x.vl == 0))))) := by
  obtain ⟨th, kd, rg, tk, vl⟩ := x
  unfold rightE inB
  simp only
  rw [Bool.eq_iff_iff]
  cases kindB kd <;> cases ringB kd <;> cases ticketB kd <;> cases valueB kd
  all_goals
    simp only [Bool.true_and, Bool.false_and, Bool.and_eq_true, decide_eq_true_eq, Bool.or_eq_true, if_true, if_false, Bool.false_eq_true, false_or, true_or, beq_iff_eq, false_and, and_true, true_and]
  all_goals omega
theorem evL_pos : ∀ i, i < 16 → 1 ≤ i → evL.getD i ByteArray.empty ≠ ByteArray.empty := by decide +kernel
theorem evn_cons {k : Int} (h : kindB k = true) : ∃ b r, (evnB k).toList = b :: r := by
  have h2 := kindB_iff.1 h
  have hne : evnB k ≠ ByteArray.empty := by
    unfold evnB
    rw [h, if_pos rfl]
    exact evL_pos _ (by omega) (by omega)
  cases hl : (evnB k).toList with
  | nil =>
    exfalso
    apply hne
    rw [ByteArray.toList_eq] at hl
    exact eq_of_data hl
  | cons b r => exact ⟨b, r, rfl⟩
theorem evn_no {k : Int} (h : kindB k = false) : evnB k = ⟨#[]⟩ := by unfold evnB; rw [h]; rfl
set_option maxHeartbeats 16000000 in
set_option maxRecDepth 100000 in
theorem rfRight15 (x : Ev) (w : World) : Calls Tryd.prog 11 #[.agg (evC x)] w fun e w' => e = .returned (.bool (rightE x)) ∧ Below w.heap.size w w' := by
  have hb0 : Below w.heap.size w (w.alloc (.cells (evC x) 24)) := (Below.refl _ _).alloc (Nat.le_refl _) _
  have l0 := Lies.made w 24 (evC x)
  have HB := Lib.hid hb0
  have HL := Lib.hid l0
  have HR := Lib.hid (rightE2 x)
  have HN := Lib.hid (fun w => rfEvName x.kd w)
  clear hb0 l0
  go_enter Tryd.func11, Tryd.ntmps11
  go_wp2_with fail
  generalize w.alloc (.cells (evC x) 24) = w1 at *
  have c0 := (HL.out.cell 0).trans (show _ = some (Value.int .i64 x.th) from rfl)
  have c1 := (HL.out.cell 1).trans (show _ = some (Value.int .i64 x.kd) from rfl)
  have c2 := (HL.out.cell 2).trans (show _ = some (Value.int .i64 x.rg) from rfl)
  have c3 := (HL.out.cell 3).trans (show _ = some (Value.int .u64 (x.tk : Int)) from rfl)
  have c4 := (HL.out.cell 4).trans (show _ = some (Value.int .u64 (x.vl : Int)) from rfl)
  have cl := HL.out.lt
  refine (rfNames x.kd _).mono ?_
  rintro e w2 ⟨rfl, rfl⟩
  go_wp2_with fail
  refine (HN.out _).mono ?_
  rintro e w3 ⟨rfl, hbm⟩
  have HB3 := Lib.hid (HB.out.trans (hbm.mono HB.out.size))
  have HL3 := Lib.hid (HL.out.below hbm HL.out.lt)
  clear hbm c0 c1 c2 c3 c4 cl HN HB HL
  have c0 := (HL3.out.cell 0).trans (show _ = some (Value.int .i64 x.th) from rfl)
  have c1 := (HL3.out.cell 1).trans (show _ = some (Value.int .i64 x.kd) from rfl)
  have c2 := (HL3.out.cell 2).trans (show _ = some (Value.int .i64 x.rg) from rfl)
  have c3 := (HL3.out.cell 3).trans (show _ = some (Value.int .u64 (x.tk : Int)) from rfl)
  have c4 := (HL3.out.cell 4).trans (show _ = some (Value.int .u64 (x.vl : Int)) from rfl)
  have cl := HL3.out.lt
  cases hk : kindB x.kd with
  | false =>
    have HE : Hid (rightE x = false) := by
      show _ = _
      rw [HR.out, hk]; rfl
    rw [evn_no hk]
    clear hk HR
    go_wp2
    go_ret
    exact ⟨ret_bool (by rw [HE.out]), HB3.out⟩
  | true =>
  obtain ⟨b0, r0, hcons⟩ := evn_cons hk
  rw [hk] at HR
  clear hk
  generalize evnB x.kd = nm at *
  by_cases hin : 0 ≤ x.th ∧ x.th ≤ 7 ∧ 0 ≤ x.rg ∧ x.rg ≤ 7 ∧ x.tk < 4611686018427387904
  case neg =>
    have HE : Hid (rightE x = false) := by
      show _ = _
      rw [HR.out]
      unfold inB
      rw [decide_eq_false hin]; rfl
    clear HR
    have hcs : (x.th < 0) ∨ (¬ x.th < 0 ∧ 7 < x.th) ∨ (¬ x.th < 0 ∧ ¬ 7 < x.th ∧ x.rg < 0) ∨ (¬ x.th < 0 ∧ ¬ 7 < x.th ∧ ¬ x.rg < 0 ∧ 7 < x.rg) ∨ (¬ x.th < 0 ∧ ¬ 7 < x.th ∧ ¬ x.rg < 0 ∧ ¬ 7 < x.rg ∧ 4611686018427387904 ≤ x.tk) := by omega
    clear hin
    rcases hcs with q1 | ⟨q1, q2⟩ | ⟨q1, q2, q3⟩ | ⟨q1, q2, q3, q4⟩ | ⟨q1, q2, q3, q4, q5⟩
    · have g1 : decide (x.th < 0) = true := decide_eq_true q1
      go_wp2
      go_ret
      exact ⟨ret_bool (by rw [HE.out]), HB3.out⟩
    · have g1 : decide (x.th < 0) = false := decide_eq_false q1
      have g2 : decide (7 < x.th) = true := decide_eq_true q2
      go_wp2
      go_ret
      exact ⟨ret_bool (by rw [HE.out]), HB3.out⟩
    · have g1 : decide (x.th < 0) = false := decide_eq_false q1
      have g2 : decide (7 < x.th) = false := decide_eq_false q2
      have g3 : decide (x.rg < 0) = true := decide_eq_true q3
      go_wp2
      go_ret
      exact ⟨ret_bool (by rw [HE.out]), HB3.out⟩
    · have g1 : decide (x.th < 0) = false := decide_eq_false q1
      have g2 : decide (7 < x.th) = false := decide_eq_false q2
      have g3 : decide (x.rg < 0) = false := decide_eq_false q3
      have g4 : decide (7 < x.rg) = true := decide_eq_true q4
      go_wp2
      go_ret
      exact ⟨ret_bool (by rw [HE.out]), HB3.out⟩
    · have g1 : decide (x.th < 0) = false := decide_eq_false q1
      have g2 : decide (7 < x.th) = false := decide_eq_false q2
      have g3 : decide (x.rg < 0) = false := decide_eq_false q3
      have g4 : decide (7 < x.rg) = false := decide_eq_false q4
      have g5 : decide ((4611686018427387904 : Int) ≤ (x.tk : Int)) = true := decide_eq_true (by omega)
      have g6 : decide (4611686018427387904 ≤ x.tk) = true := decide_eq_true q5
      go_wp2
      go_ret
      exact ⟨ret_bool (by rw [HE.out]), HB3.out⟩
  have g1 : decide (x.th < 0) = false := decide_eq_false (by omega)
  have g2 : decide (7 < x.th) = false := decide_eq_false (by omega)
  have g3 : decide (x.rg < 0) = false := decide_eq_false (by omega)
  have g4 : decide (7 < x.rg) = false := decide_eq_false (by omega)
  have g5 : decide ((4611686018427387904 : Int) ≤ (x.tk : Int)) = false := decide_eq_false (by omega)
  have g6 : decide (4611686018427387904 ≤ x.tk) = false := decide_eq_false (by omega)
  have hi : inB x = true := decide_eq_true hin
  rw [hi] at HR
  simp only [Bool.true_and] at HR
  clear hi hin
  have H0 := Lib.hid (rfHasRing x.kd)
  have H1 := Lib.hid (rfHasTicket x.kd)
  have H2 := Lib.hid (rfHasValue x.kd)
  generalize nmsB x.kd = ns at *
  generalize ringB x.kd = rb at *
  generalize ticketB x.kd = tb at *
  generalize valueB x.kd = vb at *
  go_wp2_with fail
  refine (H0.out _).mono ?_
  rintro e w4 ⟨rfl, rfl⟩
  cases rb with
  | true =>
    go_wp2_with fail
    refine (H1.out _).mono ?_
    rintro e w4 ⟨rfl, rfl⟩
    cases tb with
    | true =>
      go_wp2_with fail
      refine (H2.out _).mono ?_
      rintro e w4 ⟨rfl, rfl⟩
      cases vb with
      | true =>
        have HE := Lib.hid (HR.out)
        go_wp2
        go_ret
        exact ⟨ret_bool (by rw [HR.out]; simp [*]), HB3.out⟩
      | false =>
        by_cases z2 : x.vl = 0
        · have y2 : ((x.vl : Int) == 0) = true := by rw [beq_iff_eq]; omega
          have u2 : (x.vl == 0) = true := by rw [beq_iff_eq]; exact z2
          have HE := Lib.hid (HR.out)
          go_wp2
          go_ret
          exact ⟨ret_bool (by rw [HR.out]; simp [*]), HB3.out⟩
        · have y2 : ((x.vl : Int) == 0) = false := by rw [beq_eq_false_iff_ne]; omega
          have u2 : (x.vl == 0) = false := by rw [beq_eq_false_iff_ne]; exact z2
          go_wp2
          go_ret
          exact ⟨ret_bool (by rw [HR.out]; simp [*]), HB3.out⟩
    | false =>
      by_cases z1 : x.tk = 0
      · have y1 : ((x.tk : Int) == 0) = true := by rw [beq_iff_eq]; omega
        have u1 : (x.tk == 0) = true := by rw [beq_iff_eq]; exact z1
        go_wp2_with fail
        refine (H2.out _).mono ?_
        rintro e w4 ⟨rfl, rfl⟩
        cases vb with
        | true =>
          have HE := Lib.hid (HR.out)
          go_wp2
          go_ret
          exact ⟨ret_bool (by rw [HR.out]; simp [*]), HB3.out⟩
        | false =>
          by_cases z2 : x.vl = 0
          · have y2 : ((x.vl : Int) == 0) = true := by rw [beq_iff_eq]; omega
            have u2 : (x.vl == 0) = true := by rw [beq_iff_eq]; exact z2
            have HE := Lib.hid (HR.out)
            go_wp2
            go_ret
            exact ⟨ret_bool (by rw [HR.out]; simp [*]), HB3.out⟩
          · have y2 : ((x.vl : Int) == 0) = false := by rw [beq_eq_false_iff_ne]; omega
            have u2 : (x.vl == 0) = false := by rw [beq_eq_false_iff_ne]; exact z2
            go_wp2
            go_ret
            exact ⟨ret_bool (by rw [HR.out]; simp [*]), HB3.out⟩
      · have y1 : ((x.tk : Int) == 0) = false := by rw [beq_eq_false_iff_ne]; omega
        have u1 : (x.tk == 0) = false := by rw [beq_eq_false_iff_ne]; exact z1
        go_wp2
        go_ret
        exact ⟨ret_bool (by rw [HR.out]; simp [*]), HB3.out⟩
  | false =>
    by_cases z0 : x.rg = 0
    · have y0 : (x.rg == 0) = true := by rw [beq_iff_eq]; omega
      go_wp2_with fail
      refine (H1.out _).mono ?_
      rintro e w4 ⟨rfl, rfl⟩
      cases tb with
      | true =>
        go_wp2_with fail
        refine (H2.out _).mono ?_
        rintro e w4 ⟨rfl, rfl⟩
        cases vb with
        | true =>
          have HE := Lib.hid (HR.out)
          go_wp2
          go_ret
          exact ⟨ret_bool (by rw [HR.out]; simp [*]), HB3.out⟩
        | false =>
          by_cases z2 : x.vl = 0
          · have y2 : ((x.vl : Int) == 0) = true := by rw [beq_iff_eq]; omega
            have u2 : (x.vl == 0) = true := by rw [beq_iff_eq]; exact z2
            have HE := Lib.hid (HR.out)
            go_wp2
            go_ret
            exact ⟨ret_bool (by rw [HR.out]; simp [*]), HB3.out⟩
          · have y2 : ((x.vl : Int) == 0) = false := by rw [beq_eq_false_iff_ne]; omega
            have u2 : (x.vl == 0) = false := by rw [beq_eq_false_iff_ne]; exact z2
            go_wp2
            go_ret
            exact ⟨ret_bool (by rw [HR.out]; simp [*]), HB3.out⟩
      | false =>
        by_cases z1 : x.tk = 0
        · have y1 : ((x.tk : Int) == 0) = true := by rw [beq_iff_eq]; omega
          have u1 : (x.tk == 0) = true := by rw [beq_iff_eq]; exact z1
          go_wp2_with fail
          refine (H2.out _).mono ?_
          rintro e w4 ⟨rfl, rfl⟩
          cases vb with
          | true =>
            have HE := Lib.hid (HR.out)
            go_wp2
            go_ret
            exact ⟨ret_bool (by rw [HR.out]; simp [*]), HB3.out⟩
          | false =>
            by_cases z2 : x.vl = 0
            · have y2 : ((x.vl : Int) == 0) = true := by rw [beq_iff_eq]; omega
              have u2 : (x.vl == 0) = true := by rw [beq_iff_eq]; exact z2
              have HE := Lib.hid (HR.out)
              go_wp2
              go_ret
              exact ⟨ret_bool (by rw [HR.out]; simp [*]), HB3.out⟩
            · have y2 : ((x.vl : Int) == 0) = false := by rw [beq_eq_false_iff_ne]; omega
              have u2 : (x.vl == 0) = false := by rw [beq_eq_false_iff_ne]; exact z2
              go_wp2
              go_ret
              exact ⟨ret_bool (by rw [HR.out]; simp [*]), HB3.out⟩
        · have y1 : ((x.tk : Int) == 0) = false := by rw [beq_eq_false_iff_ne]; omega
          have u1 : (x.tk == 0) = false := by rw [beq_eq_false_iff_ne]; exact z1
          go_wp2
          go_ret
          exact ⟨ret_bool (by rw [HR.out]; simp [*]), HB3.out⟩
    · have y0 : (x.rg == 0) = false := by rw [beq_eq_false_iff_ne]; omega
      go_wp2
      go_ret
      exact ⟨ret_bool (by rw [HR.out]; simp [*]), HB3.out⟩
end Go.Proofs.YtndcnflboikodaaDoor
