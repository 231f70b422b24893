/-
  Which events may be (layer 15): event.Right.
-/
import Derived.Test.YtiegmpjoiekekaaEv
import Derived.Test.YtiegmpjoiekekaaOwn
namespace Go.Proofs.Ytiegmpjoiekekaa
open Go.RowKit
set_option linter.unusedVariables false
set_option linter.unusedSimpArgs false
def rightE (x : Ev) : Bool := kindB x.kd && (decide (0 ≤ x.th) && (decide (x.th < 8) && ((if ringB x.kd = true then decide (0 ≤ x.rg ∧ x.rg < 8) else x.rg == 0) && ((if ticketB x.kd = true then decide (x.tk < 4611686018427387904) else x.tk == 0) && (valueB x.kd || x.vl == 0)))))
/-- What the kind names of an event. -/
def rest15 (x : Ev) : Ev := ⟨x.th, x.kd, if ringB x.kd = true ∧ 0 ≤ x.rg ∧ x.rg < 8 then x.rg else 0, if ticketB x.kd = true ∧ x.tk < 4611686018427387904 then x.tk else 0, if valueB x.kd = true then x.vl else 0⟩
theorem right_rest {x : Ev} (hk : kindB x.kd = true) (h0 : 0 ≤ x.th) (h8 : x.th < 8) : rightE x = decide (rest15 x = x) := by
  obtain ⟨th, kd, rg, tk, vl⟩ := x
  simp only at hk h0 h8
  unfold rightE rest15
  simp only
  rw [hk, decide_eq_true h0, decide_eq_true h8, Bool.eq_iff_iff]
  simp only [Bool.true_and, Bool.and_eq_true, decide_eq_true_eq, Ev.mk.injEq, true_and, Bool.or_eq_true]
  cases ringB kd <;> cases ticketB kd <;> cases valueB kd
  all_goals
    simp only [if_true, if_false, Bool.false_eq_true, false_and, true_and, false_or, true_or, decide_eq_true_eq, beq_iff_eq]
    constructor
    · rintro ⟨q1, q2, q3⟩
      first
        | (refine ⟨?_, ?_, ?_⟩ <;> first | omega | (split <;> omega) | rfl)
        | (refine ⟨?_, ?_⟩ <;> first | omega | (split <;> omega) | rfl)
    · rintro ⟨q1, q2, q3⟩
      refine ⟨?_, ?_, ?_⟩
      all_goals first
        | omega
        | (split at q1 <;> omega)
        | (split at q2 <;> omega)
        | trivial
theorem evEql (x y : Ev) (w : World) : (binOp .eql 42 (.agg (evC x)) (.agg (evC y))).run Try.prog w = .ok (.bool (decide (x = y))) w := by
  have h1 := evHeld
  rw [run_eql_struct, run_equalIn_agg w 9999 _ _ _ (by simp only [Program.fieldsOf, Try.underlying42]) h1]
  simp only [Program.fieldsOf, Try.underlying42]
  obtain ⟨a, b, c, d, e⟩ := x
  obtain ⟨a', b', c', d', e'⟩ := y
  simp [go_sem]
  by_cases e1 : a = a'
  · by_cases e2 : b = b'
    · by_cases e3 : c = c'
      · by_cases e4 : d = d'
        · by_cases e5 : e = e'
          · simp [e1, e2, e3, e4, e5]
          · simp [e1, e2, e3, e4, e5]; try omega
        · simp [e1, e2, e3, e4]; try omega
      · simp [e1, e2, e3]; try omega
    · simp [e1, e2]; try omega
  · simp [e1]; try omega
theorem ev_leaf {x : Ev} {R : Int} {T V : Nat} (hrest : rest15 x = ⟨x.th, x.kd, R, T, V⟩) {D : Bool} (hD : decide (rest15 x = x) = D) (w : World) :
    (binOp .eql 42 (.agg #[.int .i64 x.th, .int .i64 x.kd, .int .i64 R, .int .u64 (T : Int), .int .u64 (V : Int)]) (.agg (evC x))).run Try.prog w = .ok (.bool D) w := by
  have h := evEql (rest15 x) x w
  rw [hD, hrest] at h
  exact h
theorem rightE_no {x : Ev} (h : kindB x.kd = false ∨ x.th < 0 ∨ 8 ≤ x.th) : rightE x = false := by
  unfold rightE
  rcases h with h | h | h
  · rw [h]; rfl
  · rw [decide_eq_false (p := 0 ≤ x.th) (by omega)]; simp
  · rw [decide_eq_false (p := x.th < 8) (by omega)]; simp
set_option maxHeartbeats 8000000 in
set_option maxRecDepth 100000 in
theorem right15 (x : Ev) (w : World) : Calls Try.prog 33 #[.agg (evC x)] w fun e w' => e = .returned (.bool (rightE x)) ∧ Below w.heap.size w w' := by
  have hb0 : Below w.heap.size w (w.alloc (.cells (evC x) 42)) := (Below.refl _ _).alloc (Nat.le_refl _) _
  have l0 := Lies.made w 42 (evC x)
  have HK := Lib.hid (isKind_any x.kd)
  have HNO := Lib.hid (@rightE_no x)
  have HYES := Lib.hid (@right_rest x)
  have HB := Lib.hid hb0
  have HL := Lib.hid l0
  clear hb0 l0
  by_cases hbad : kindB x.kd = false ∨ x.th < 0 ∨ 8 ≤ x.th
  · have HE := Lib.hid (HNO.out hbad)
    clear HNO HYES
    have c0 := (HL.out.cell 0).trans (show _ = some (Value.int .i64 x.th) from rfl)
    have c1 := (HL.out.cell 1).trans (show _ = some (Value.int .i64 x.kd) from rfl)
    have cl := HL.out.lt
    have hcs : kindB x.kd = false ∨ (kindB x.kd = true ∧ x.th < 0) ∨ (kindB x.kd = true ∧ ¬ x.th < 0 ∧ 8 ≤ x.th) := by
      cases hk : kindB x.kd with
      | false => exact .inl rfl
      | true =>
        rw [hk] at hbad
        by_cases h0 : x.th < 0
        · exact .inr (.inl ⟨rfl, h0⟩)
        · exact .inr (.inr ⟨rfl, h0, by rcases hbad with h | h | h <;> first | cases h | omega⟩)
    clear hbad
    generalize kindB x.kd = kb at *
    rcases hcs with rfl | ⟨rfl, h0⟩ | ⟨rfl, h0, h8⟩
    · go_enter Try.func33, Try.ntmps33
      go_wp2_with fail
      generalize w.alloc (.cells (evC x) 42) = w1 at *
      refine (HK.out _).mono ?_
      rintro e w2 ⟨rfl, rfl⟩
      go_wp2
      go_ret
      exact ⟨ret_bool (by rw [HE.out]), HB.out⟩
    · have e1 : decide (x.th < 0) = true := decide_eq_true h0
      go_enter Try.func33, Try.ntmps33
      go_wp2_with fail
      generalize w.alloc (.cells (evC x) 42) = w1 at *
      refine (HK.out _).mono ?_
      rintro e w2 ⟨rfl, rfl⟩
      go_wp2
      go_ret
      exact ⟨ret_bool (by rw [HE.out]), HB.out⟩
    · have e1 : decide (x.th < 0) = false := decide_eq_false h0
      have e2 : decide (8 ≤ x.th) = true := decide_eq_true h8
      go_enter Try.func33, Try.ntmps33
      go_wp2_with fail
      generalize w.alloc (.cells (evC x) 42) = w1 at *
      refine (HK.out _).mono ?_
      rintro e w2 ⟨rfl, rfl⟩
      go_wp2
      go_ret
      exact ⟨ret_bool (by rw [HE.out]), HB.out⟩
  · have hk : kindB x.kd = true := by
      cases hk : kindB x.kd with
      | true => rfl
      | false => exact absurd (.inl hk) hbad
    have h0 : 0 ≤ x.th := by
      apply Classical.byContradiction
      intro h
      exact hbad (.inr (.inl (by omega)))
    have h8 : x.th < 8 := by
      apply Classical.byContradiction
      intro h
      exact hbad (.inr (.inr (by omega)))
    obtain ⟨D, hD⟩ : ∃ D, decide (rest15 x = x) = D := ⟨_, rfl⟩
    have hre := HYES.out hk h0 h8
    rw [hD] at hre
    have HRE := Lib.hid hre
    have HD := Lib.hid hD
    have HR := Lib.hid (rings_any x.kd)
    have HT := Lib.hid (hasTicket_any x.kd)
    have HV := Lib.hid (hasValue_any x.kd)
    rw [hk] at HK
    have e1 : decide (x.th < 0) = false := decide_eq_false (by omega)
    have e2 : decide (8 ≤ x.th) = false := decide_eq_false (by omega)
    clear hbad HNO HYES hre hD h0 h8 hk HB HL
    have hka := kinds_apart x.kd
    have HRS : Hid (rest15 x = ⟨x.th, x.kd, if ringB x.kd = true ∧ 0 ≤ x.rg ∧ x.rg < 8 then x.rg else 0, if ticketB x.kd = true ∧ x.tk < 4611686018427387904 then x.tk else 0, if valueB x.kd = true then x.vl else 0⟩) := rfl
    generalize ringB x.kd = rb at *
    generalize ticketB x.kd = tb at *
    generalize valueB x.kd = vb at *
    rcases hka with ⟨rfl, rfl, rfl⟩ | ⟨rfl, rfl, rfl⟩ | ⟨rfl, rfl, rfl⟩ | ⟨rfl, rfl, rfl⟩
    · by_cases r0 : 0 ≤ x.rg
      · have r1 : decide (0 ≤ x.rg) = true := decide_eq_true r0
        by_cases r8 : x.rg < 8
        · have r2 : decide (x.rg < 8) = true := decide_eq_true r8
          by_cases t0 : x.tk < 4611686018427387904
          · have t1 : decide ((x.tk : Int) < 4611686018427387904) = true := decide_eq_true (by omega)
            have t2 : decide (x.tk < 4611686018427387904) = true := decide_eq_true t0
            have hrest : rest15 x = ⟨x.th, x.kd, x.rg, x.tk, 0⟩ := by (rw [HRS.out]; simp [r0, r8, t0])
            have hq : ∀ w : World, (binOp .eql 42 (.agg #[.int .i64 x.th, .int .i64 x.kd, .int .i64 (x.rg), .int .u64 ((x.tk : Nat) : Int), .int .u64 ((0 : Nat) : Int)]) (.agg (evC x))).run Try.prog w = .ok (.bool D) w := fun w => ev_leaf hrest HD.out w
            simp only [Int.natCast_zero] at hq
            have hg := evGuard
            clear hrest
            go_enter Try.func33, Try.ntmps33
            go_wp2_with fail
            refine (HK.out _).mono ?_
            rintro e w2 ⟨rfl, rfl⟩
            go_wp2_with fail
            refine (HR.out _).mono ?_
            rintro e w2 ⟨rfl, rfl⟩
            go_wp2_with fail
            refine (HT.out _).mono ?_
            rintro e w2 ⟨rfl, rfl⟩
            go_wp2_with fail
            refine (HV.out _).mono ?_
            rintro e w2 ⟨rfl, rfl⟩
            go_wp2
            go_ret
            exact ⟨ret_bool (by rw [HRE.out]), ((Below.refl _ _).alloc (Nat.le_refl _) _).alloc (by simp) _⟩
          · have t1 : decide ((x.tk : Int) < 4611686018427387904) = false := decide_eq_false (by omega)
            have t2 : decide (x.tk < 4611686018427387904) = false := decide_eq_false t0
            have hrest : rest15 x = ⟨x.th, x.kd, x.rg, 0, 0⟩ := by (rw [HRS.out]; simp [r0, r8, t0])
            have hq : ∀ w : World, (binOp .eql 42 (.agg #[.int .i64 x.th, .int .i64 x.kd, .int .i64 (x.rg), .int .u64 ((0 : Nat) : Int), .int .u64 ((0 : Nat) : Int)]) (.agg (evC x))).run Try.prog w = .ok (.bool D) w := fun w => ev_leaf hrest HD.out w
            simp only [Int.natCast_zero] at hq
            have hg := evGuard
            clear hrest
            go_enter Try.func33, Try.ntmps33
            go_wp2_with fail
            refine (HK.out _).mono ?_
            rintro e w2 ⟨rfl, rfl⟩
            go_wp2_with fail
            refine (HR.out _).mono ?_
            rintro e w2 ⟨rfl, rfl⟩
            go_wp2_with fail
            refine (HT.out _).mono ?_
            rintro e w2 ⟨rfl, rfl⟩
            go_wp2_with fail
            refine (HV.out _).mono ?_
            rintro e w2 ⟨rfl, rfl⟩
            go_wp2
            go_ret
            exact ⟨ret_bool (by rw [HRE.out]), ((Below.refl _ _).alloc (Nat.le_refl _) _).alloc (by simp) _⟩
        · have r2 : decide (x.rg < 8) = false := decide_eq_false r8
          by_cases t0 : x.tk < 4611686018427387904
          · have t1 : decide ((x.tk : Int) < 4611686018427387904) = true := decide_eq_true (by omega)
            have t2 : decide (x.tk < 4611686018427387904) = true := decide_eq_true t0
            have hrest : rest15 x = ⟨x.th, x.kd, 0, x.tk, 0⟩ := by (rw [HRS.out]; simp [r0, r8, t0])
            have hq : ∀ w : World, (binOp .eql 42 (.agg #[.int .i64 x.th, .int .i64 x.kd, .int .i64 (0), .int .u64 ((x.tk : Nat) : Int), .int .u64 ((0 : Nat) : Int)]) (.agg (evC x))).run Try.prog w = .ok (.bool D) w := fun w => ev_leaf hrest HD.out w
            simp only [Int.natCast_zero] at hq
            have hg := evGuard
            clear hrest
            go_enter Try.func33, Try.ntmps33
            go_wp2_with fail
            refine (HK.out _).mono ?_
            rintro e w2 ⟨rfl, rfl⟩
            go_wp2_with fail
            refine (HR.out _).mono ?_
            rintro e w2 ⟨rfl, rfl⟩
            go_wp2_with fail
            refine (HT.out _).mono ?_
            rintro e w2 ⟨rfl, rfl⟩
            go_wp2_with fail
            refine (HV.out _).mono ?_
            rintro e w2 ⟨rfl, rfl⟩
            go_wp2
            go_ret
            exact ⟨ret_bool (by rw [HRE.out]), ((Below.refl _ _).alloc (Nat.le_refl _) _).alloc (by simp) _⟩
          · have t1 : decide ((x.tk : Int) < 4611686018427387904) = false := decide_eq_false (by omega)
            have t2 : decide (x.tk < 4611686018427387904) = false := decide_eq_false t0
            have hrest : rest15 x = ⟨x.th, x.kd, 0, 0, 0⟩ := by (rw [HRS.out]; simp [r0, r8, t0])
            have hq : ∀ w : World, (binOp .eql 42 (.agg #[.int .i64 x.th, .int .i64 x.kd, .int .i64 (0), .int .u64 ((0 : Nat) : Int), .int .u64 ((0 : Nat) : Int)]) (.agg (evC x))).run Try.prog w = .ok (.bool D) w := fun w => ev_leaf hrest HD.out w
            simp only [Int.natCast_zero] at hq
            have hg := evGuard
            clear hrest
            go_enter Try.func33, Try.ntmps33
            go_wp2_with fail
            refine (HK.out _).mono ?_
            rintro e w2 ⟨rfl, rfl⟩
            go_wp2_with fail
            refine (HR.out _).mono ?_
            rintro e w2 ⟨rfl, rfl⟩
            go_wp2_with fail
            refine (HT.out _).mono ?_
            rintro e w2 ⟨rfl, rfl⟩
            go_wp2_with fail
            refine (HV.out _).mono ?_
            rintro e w2 ⟨rfl, rfl⟩
            go_wp2
            go_ret
            exact ⟨ret_bool (by rw [HRE.out]), ((Below.refl _ _).alloc (Nat.le_refl _) _).alloc (by simp) _⟩
      · have r1 : decide (0 ≤ x.rg) = false := decide_eq_false r0
        by_cases t0 : x.tk < 4611686018427387904
        · have t1 : decide ((x.tk : Int) < 4611686018427387904) = true := decide_eq_true (by omega)
          have t2 : decide (x.tk < 4611686018427387904) = true := decide_eq_true t0
          have hrest : rest15 x = ⟨x.th, x.kd, 0, x.tk, 0⟩ := by (rw [HRS.out]; simp [r0, t0])
          have hq : ∀ w : World, (binOp .eql 42 (.agg #[.int .i64 x.th, .int .i64 x.kd, .int .i64 (0), .int .u64 ((x.tk : Nat) : Int), .int .u64 ((0 : Nat) : Int)]) (.agg (evC x))).run Try.prog w = .ok (.bool D) w := fun w => ev_leaf hrest HD.out w
          simp only [Int.natCast_zero] at hq
          have hg := evGuard
          clear hrest
          go_enter Try.func33, Try.ntmps33
          go_wp2_with fail
          refine (HK.out _).mono ?_
          rintro e w2 ⟨rfl, rfl⟩
          go_wp2_with fail
          refine (HR.out _).mono ?_
          rintro e w2 ⟨rfl, rfl⟩
          go_wp2_with fail
          refine (HT.out _).mono ?_
          rintro e w2 ⟨rfl, rfl⟩
          go_wp2_with fail
          refine (HV.out _).mono ?_
          rintro e w2 ⟨rfl, rfl⟩
          go_wp2
          go_ret
          exact ⟨ret_bool (by rw [HRE.out]), ((Below.refl _ _).alloc (Nat.le_refl _) _).alloc (by simp) _⟩
        · have t1 : decide ((x.tk : Int) < 4611686018427387904) = false := decide_eq_false (by omega)
          have t2 : decide (x.tk < 4611686018427387904) = false := decide_eq_false t0
          have hrest : rest15 x = ⟨x.th, x.kd, 0, 0, 0⟩ := by (rw [HRS.out]; simp [r0, t0])
          have hq : ∀ w : World, (binOp .eql 42 (.agg #[.int .i64 x.th, .int .i64 x.kd, .int .i64 (0), .int .u64 ((0 : Nat) : Int), .int .u64 ((0 : Nat) : Int)]) (.agg (evC x))).run Try.prog w = .ok (.bool D) w := fun w => ev_leaf hrest HD.out w
          simp only [Int.natCast_zero] at hq
          have hg := evGuard
          clear hrest
          go_enter Try.func33, Try.ntmps33
          go_wp2_with fail
          refine (HK.out _).mono ?_
          rintro e w2 ⟨rfl, rfl⟩
          go_wp2_with fail
          refine (HR.out _).mono ?_
          rintro e w2 ⟨rfl, rfl⟩
          go_wp2_with fail
          refine (HT.out _).mono ?_
          rintro e w2 ⟨rfl, rfl⟩
          go_wp2_with fail
          refine (HV.out _).mono ?_
          rintro e w2 ⟨rfl, rfl⟩
          go_wp2
          go_ret
          exact ⟨ret_bool (by rw [HRE.out]), ((Below.refl _ _).alloc (Nat.le_refl _) _).alloc (by simp) _⟩
    · by_cases r0 : 0 ≤ x.rg
      · have r1 : decide (0 ≤ x.rg) = true := decide_eq_true r0
        by_cases r8 : x.rg < 8
        · have r2 : decide (x.rg < 8) = true := decide_eq_true r8
          have hrest : rest15 x = ⟨x.th, x.kd, x.rg, 0, 0⟩ := by (rw [HRS.out]; simp [r0, r8])
          have hq : ∀ w : World, (binOp .eql 42 (.agg #[.int .i64 x.th, .int .i64 x.kd, .int .i64 (x.rg), .int .u64 ((0 : Nat) : Int), .int .u64 ((0 : Nat) : Int)]) (.agg (evC x))).run Try.prog w = .ok (.bool D) w := fun w => ev_leaf hrest HD.out w
          simp only [Int.natCast_zero] at hq
          have hg := evGuard
          clear hrest
          go_enter Try.func33, Try.ntmps33
          go_wp2_with fail
          refine (HK.out _).mono ?_
          rintro e w2 ⟨rfl, rfl⟩
          go_wp2_with fail
          refine (HR.out _).mono ?_
          rintro e w2 ⟨rfl, rfl⟩
          go_wp2_with fail
          refine (HT.out _).mono ?_
          rintro e w2 ⟨rfl, rfl⟩
          go_wp2_with fail
          refine (HV.out _).mono ?_
          rintro e w2 ⟨rfl, rfl⟩
          go_wp2
          go_ret
          exact ⟨ret_bool (by rw [HRE.out]), ((Below.refl _ _).alloc (Nat.le_refl _) _).alloc (by simp) _⟩
        · have r2 : decide (x.rg < 8) = false := decide_eq_false r8
          have hrest : rest15 x = ⟨x.th, x.kd, 0, 0, 0⟩ := by (rw [HRS.out]; simp [r0, r8])
          have hq : ∀ w : World, (binOp .eql 42 (.agg #[.int .i64 x.th, .int .i64 x.kd, .int .i64 (0), .int .u64 ((0 : Nat) : Int), .int .u64 ((0 : Nat) : Int)]) (.agg (evC x))).run Try.prog w = .ok (.bool D) w := fun w => ev_leaf hrest HD.out w
          simp only [Int.natCast_zero] at hq
          have hg := evGuard
          clear hrest
          go_enter Try.func33, Try.ntmps33
          go_wp2_with fail
          refine (HK.out _).mono ?_
          rintro e w2 ⟨rfl, rfl⟩
          go_wp2_with fail
          refine (HR.out _).mono ?_
          rintro e w2 ⟨rfl, rfl⟩
          go_wp2_with fail
          refine (HT.out _).mono ?_
          rintro e w2 ⟨rfl, rfl⟩
          go_wp2_with fail
          refine (HV.out _).mono ?_
          rintro e w2 ⟨rfl, rfl⟩
          go_wp2
          go_ret
          exact ⟨ret_bool (by rw [HRE.out]), ((Below.refl _ _).alloc (Nat.le_refl _) _).alloc (by simp) _⟩
      · have r1 : decide (0 ≤ x.rg) = false := decide_eq_false r0
        have hrest : rest15 x = ⟨x.th, x.kd, 0, 0, 0⟩ := by (rw [HRS.out]; simp [r0])
        have hq : ∀ w : World, (binOp .eql 42 (.agg #[.int .i64 x.th, .int .i64 x.kd, .int .i64 (0), .int .u64 ((0 : Nat) : Int), .int .u64 ((0 : Nat) : Int)]) (.agg (evC x))).run Try.prog w = .ok (.bool D) w := fun w => ev_leaf hrest HD.out w
        simp only [Int.natCast_zero] at hq
        have hg := evGuard
        clear hrest
        go_enter Try.func33, Try.ntmps33
        go_wp2_with fail
        refine (HK.out _).mono ?_
        rintro e w2 ⟨rfl, rfl⟩
        go_wp2_with fail
        refine (HR.out _).mono ?_
        rintro e w2 ⟨rfl, rfl⟩
        go_wp2_with fail
        refine (HT.out _).mono ?_
        rintro e w2 ⟨rfl, rfl⟩
        go_wp2_with fail
        refine (HV.out _).mono ?_
        rintro e w2 ⟨rfl, rfl⟩
        go_wp2
        go_ret
        exact ⟨ret_bool (by rw [HRE.out]), ((Below.refl _ _).alloc (Nat.le_refl _) _).alloc (by simp) _⟩
    · have hrest : rest15 x = ⟨x.th, x.kd, 0, 0, x.vl⟩ := by (rw [HRS.out]; simp)
      have hq : ∀ w : World, (binOp .eql 42 (.agg #[.int .i64 x.th, .int .i64 x.kd, .int .i64 (0), .int .u64 ((0 : Nat) : Int), .int .u64 ((x.vl : Nat) : Int)]) (.agg (evC x))).run Try.prog w = .ok (.bool D) w := fun w => ev_leaf hrest HD.out w
      simp only [Int.natCast_zero] at hq
      have hg := evGuard
      clear hrest
      go_enter Try.func33, Try.ntmps33
      go_wp2_with fail
      refine (HK.out _).mono ?_
      rintro e w2 ⟨rfl, rfl⟩
      go_wp2_with fail
      refine (HR.out _).mono ?_
      rintro e w2 ⟨rfl, rfl⟩
      go_wp2_with fail
      refine (HT.out _).mono ?_
      rintro e w2 ⟨rfl, rfl⟩
      go_wp2_with fail
      refine (HV.out _).mono ?_
      rintro e w2 ⟨rfl, rfl⟩
      go_wp2
      go_ret
      exact ⟨ret_bool (by rw [HRE.out]), ((Below.refl _ _).alloc (Nat.le_refl _) _).alloc (by simp) _⟩
    · have hrest : rest15 x = ⟨x.th, x.kd, 0, 0, 0⟩ := by (rw [HRS.out]; simp)
      have hq : ∀ w : World, (binOp .eql 42 (.agg #[.int .i64 x.th, .int .i64 x.kd, .int .i64 (0), .int .u64 ((0 : Nat) : Int), .int .u64 ((0 : Nat) : Int)]) (.agg (evC x))).run Try.prog w = .ok (.bool D) w := fun w => ev_leaf hrest HD.out w
      simp only [Int.natCast_zero] at hq
      have hg := evGuard
      clear hrest
      go_enter Try.func33, Try.ntmps33
      go_wp2_with fail
      refine (HK.out _).mono ?_
      rintro e w2 ⟨rfl, rfl⟩
      go_wp2_with fail
      refine (HR.out _).mono ?_
      rintro e w2 ⟨rfl, rfl⟩
      go_wp2_with fail
      refine (HT.out _).mono ?_
      rintro e w2 ⟨rfl, rfl⟩
      go_wp2_with fail
      refine (HV.out _).mono ?_
      rintro e w2 ⟨rfl, rfl⟩
      go_wp2
      go_ret
      exact ⟨ret_bool (by rw [HRE.out]), ((Below.refl _ _).alloc (Nat.le_refl _) _).alloc (by simp) _⟩
end Go.Proofs.Ytiegmpjoiekekaa
