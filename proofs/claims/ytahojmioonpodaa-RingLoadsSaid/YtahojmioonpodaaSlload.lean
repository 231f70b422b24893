import Derived.Test.YtahojmioonpodaaSlall
namespace Go.Proofs.Ytahojmioonpodaa
open Go.RowKit
set_option linter.unusedVariables false
set_option linter.unusedSimpArgs false
/-- Can the place at index i stand so? -/
def standsB (c r i : Nat) (x : Sl) : Bool := decide (x.s < 9223372036854775808 ∧ x.s / 2 % c = i ∧ (if x.s % 2 = 0 then x.v = 0 ∧ x.l = 0 else 0 < x.l ∧ x.l ≤ everyN r))
/-- What comes along as a place: any numbers. -/
def slIn (x : Sl) : Prop := x.s < 18446744073709551616 ∧ x.v < 18446744073709551616 ∧ -9223372036854775808 ≤ x.l ∧ x.l ≤ 9223372036854775807
theorem stands_ok {c r i : Nat} {x : Sl} (hx : slIn x) (hr : r ≤ 8) (h : standsB c r i x = true) : slOk r x := by
  obtain ⟨h1, h2, h3⟩ := of_decide_eq_true h
  have := everyN_pos hr
  split at h3 <;> exact ⟨by omega, hx.2.1, by omega, by omega⟩
set_option maxHeartbeats 2000000 in
set_option maxRecDepth 100000 in
theorem slotsStands {w : World} {g o : Nat} {T : TypeId} {pre post : List Value} {r : Nat} {L : List Sl} (i : Nat) (x : Sl) (h : SlAt w g T pre post r L) (ho : pre.length = o) (hi : i < 64) (hx : slIn x) :
    Calls Try.prog 59 #[.pointer (some ⟨g, o, none⟩), .int .i64 i, .agg #[.int .u64 (x.s : Int), .int .u64 (x.v : Int), .int .i64 x.l]] w fun e w' => e = .returned (.bool (standsB L.length r i x)) ∧ Below w.heap.size w w' := by
  subst ho
  obtain ⟨h1, h2⟩ := h.heads
  have hl1 := h.ok.1
  have hl := h.ok.2.1
  have hr := h.ok.2.2.2.1
  have hlt := h.lt
  obtain ⟨x0, x1, x2, x3⟩ := hx
  have hb0 := (Below.refl w.heap.size w).alloc (Nat.le_refl _) (.cells #[.int .u64 (x.s : Int), .int .u64 (x.v : Int), .int .i64 x.l] 78)
  have li := Lies.made w 78 #[.int .u64 (x.s : Int), .int .u64 (x.v : Int), .int .i64 x.l]
  have h' := h.later hb0
  have hF : ∀ w, Calls Try.prog 55 #[.int .u64 4611686018427387904] w fun e w' => e = .returned (.int .u64 9223372036854775808) ∧ w = w' := fun w => slotsFree 4611686018427387904 w (by omega)
  have HF := Lib.hid hF
  clear hF
  have hP := fun w' (hc : SlAt w' g T pre post r L) => slotsPlace g pre.length L.length (x.s / 2) w' hc.heads.1 hl1 hl (by omega)
  obtain ⟨m, hm⟩ : ∃ m, x.s / 2 % L.length = m := ⟨_, rfl⟩
  obtain ⟨d, hd⟩ : ∃ d, x.s / 2 = d := ⟨_, rfl⟩
  obtain ⟨b, hb⟩ : ∃ b, x.s % 2 = b := ⟨_, rfl⟩
  rw [hm, hd] at hP
  have HP := Lib.hid hP
  have HM := Lib.hid hm
  have HB := Lib.hid hb
  clear hP
  have HE := Lib.hid (fun w' (hc : SlAt w' g T pre post r L) => slotsEveryone g pre.length r w' hc.heads.2 hr)
  have H := Lib.hid h'
  obtain ⟨S, hSS⟩ : ∃ S : Int, S = (x.s : Int) := ⟨_, rfl⟩
  have hS0 : 0 ≤ S := by omega
  have hS1 : S ≤ 18446744073709551615 := by omega
  have hqd : S / 2 = (d : Int) := by omega
  have hrm : S % 2 = (b : Int) := by omega
  clear hm hd hb
  have hwi : IntKind.u64.wrap (i : Int) = (i : Int) := by rw [IntKind.wrap_u64]; omega
  have c0 := (li.cell 0).trans (show _ = some (Value.int .u64 S) from by rw [hSS]; rfl)
  have c1 := (li.cell 1).trans (show _ = some (Value.int .u64 (x.v : Int)) from rfl)
  have c2 := (li.cell 2).trans (show _ = some (Value.int .i64 x.l) from rfl)
  clear h h' li h1 h2
  generalize hw0 : w.alloc (.cells #[.int .u64 (x.s : Int), .int .u64 (x.v : Int), .int .i64 x.l] 78) = w0 at *
  have HW := Lib.hid hw0
  have HSS := Lib.hid hSS
  clear hw0
  by_cases q1 : x.s < 9223372036854775808
  · have e1 : decide ((9223372036854775808 : Int) ≤ S) = false := by rw [decide_eq_false_iff_not]; omega
    by_cases q2 : m = i
    · have e2 : ((m : Int) != (i : Int)) = false := by rw [q2]; simp
      by_cases q3 : b = 0
      · have e3 : ((b : Int) == 0) = true := by rw [beq_iff_eq]; omega
        have hS : standsB L.length r i x = decide (x.v = 0 ∧ x.l = 0) := by
          unfold standsB; congr 1; apply propext; rw [if_pos (by have := HB.out; omega)]
          exact ⟨fun h => h.2.2, fun h => ⟨q1, by rw [HM.out]; exact q2, h⟩⟩
        have HS := Lib.hid hS
        clear hS q1 q2 q3 hSS
        by_cases v0 : x.v = 0
        · have V0 := Lib.hid v0
          clear v0
          go_enter Try.func59, Try.ntmps59
          go_wp2
          rw [HW.out]
          have e4 : ((x.v : Int) == 0) = true := by rw [beq_iff_eq]; have := V0.out; omega
          go_quiet (first | (go_at_call 55; exact quiet_same3 ((HF.out _)) ⟨_, rfl⟩) | (go_at_call 63; exact quiet_same3 ((HP.out _ (by exact H.out))) ⟨_, rfl⟩))
          go_wp2
          all_goals
            rename_i hh
            go_ret
            exact ⟨ret_bool (by rw [HS.out, Bool.eq_iff_iff]; simp [V0.out, hh]), below_drewN hb0 _⟩
        · have V0 := Lib.hid v0
          clear v0
          go_enter Try.func59, Try.ntmps59
          go_wp2
          rw [HW.out]
          have e4 : ((x.v : Int) == 0) = false := by rw [beq_eq_false_iff_ne]; have := V0.out; omega
          go_quiet (first | (go_at_call 55; exact quiet_same3 ((HF.out _)) ⟨_, rfl⟩) | (go_at_call 63; exact quiet_same3 ((HP.out _ (by exact H.out))) ⟨_, rfl⟩))
          go_wp2
          go_ret
          exact ⟨ret_bool (by rw [HS.out, Bool.eq_iff_iff]; simp [V0.out]), below_drewN hb0 _⟩
      · have e3 : ((b : Int) == 0) = false := by rw [beq_eq_false_iff_ne]; omega
        have hS : standsB L.length r i x = decide (0 < x.l ∧ x.l ≤ everyN r) := by
          unfold standsB; congr 1; apply propext; rw [if_neg (by have := HB.out; omega)]
          exact ⟨fun h => h.2.2, fun h => ⟨q1, by rw [HM.out]; exact q2, h⟩⟩
        have HS := Lib.hid hS
        clear hS q1 q2 q3 hSS
        by_cases v0 : 0 < x.l
        · have e4 : decide (0 < x.l) = true := by simpa using v0
          go_enter Try.func59, Try.ntmps59
          go_wp2
          rw [HW.out]
          go_quiet (first | (go_at_call 55; exact quiet_same3 ((HF.out _)) ⟨_, rfl⟩) | (go_at_call 63; exact quiet_same3 ((HP.out _ (by exact H.out))) ⟨_, rfl⟩))
          go_wp2
          go_quiet ((go_at_call 66; exact quiet_same3 (HE.out _ (by exact H.out)) ⟨_, rfl⟩))
          go_wp2
          go_ret
          exact ⟨ret_bool (by rw [HS.out, Bool.eq_iff_iff]; simp [v0]), below_drewN (below_drewN hb0 _) _⟩
        · have e4 : decide (0 < x.l) = false := by simpa using v0
          go_enter Try.func59, Try.ntmps59
          go_wp2
          rw [HW.out]
          go_quiet (first | (go_at_call 55; exact quiet_same3 ((HF.out _)) ⟨_, rfl⟩) | (go_at_call 63; exact quiet_same3 ((HP.out _ (by exact H.out))) ⟨_, rfl⟩))
          go_wp2
          go_quiet (fail)
          go_wp2
          go_ret
          exact ⟨ret_bool (by rw [HS.out, Bool.eq_iff_iff]; simp [v0] <;> omega), below_drewN (below_drewN hb0 _) _⟩
    · have e2 : ((m : Int) != (i : Int)) = true := by rw [bne_iff_ne]; omega
      have HS : Hid (standsB L.length r i x = false) := by show _ = _; unfold standsB; rw [decide_eq_false (fun h => q2 (HM.out.symm.trans h.2.1))]
      clear q1 q2 hSS
      go_enter Try.func59, Try.ntmps59
      go_wp2
      rw [HW.out]
      go_quiet (first | (go_at_call 55; exact quiet_same3 ((HF.out _)) ⟨_, rfl⟩) | (go_at_call 63; exact quiet_same3 ((HP.out _ (by exact H.out))) ⟨_, rfl⟩))
      go_wp2
      go_ret
      exact ⟨ret_bool (by rw [HS.out]), below_drewN hb0 _⟩
  · have e1 : decide ((9223372036854775808 : Int) ≤ S) = true := by rw [decide_eq_true_eq]; omega
    have HS : Hid (standsB L.length r i x = false) := by show _ = _; unfold standsB; rw [decide_eq_false (fun h => q1 h.1)]
    clear q1 hSS
    go_enter Try.func59, Try.ntmps59
    go_wp2
    rw [HW.out]
    go_quiet ((go_at_call 55; exact quiet_same3 ((HF.out _)) ⟨_, rfl⟩))
    go_wp2
    go_ret
    exact ⟨ret_bool (by rw [HS.out]), below_drewN hb0 _⟩
theorem slotsNewNo (p r : Int) (w : World) (h : ¬ (1 ≤ p ∧ p ≤ 64 ∧ 1 ≤ r ∧ r ≤ 8)) :
    Calls Try.prog 34 #[.int .i64 p, .int .i64 r] w fun e w' => e = .returned (.tuple #[.pointer none, .int .i64 1]) ∧ w = w' := by
  by_cases h1 : p < 1
  · have e1 : decide (p < 1) = true := by simpa using h1
    clear h h1
    go_enter Try.func34, Try.ntmps34
    go_wp2
    go_ret2
    exact ⟨rfl, rfl⟩
  have e1 : decide (p < 1) = false := by simpa using h1
  by_cases h2 : 64 < p
  · have e2 : decide (64 < p) = true := by simpa using h2
    clear h h1 h2
    go_enter Try.func34, Try.ntmps34
    go_wp2
    go_ret2
    exact ⟨rfl, rfl⟩
  have e2 : decide (64 < p) = false := by simpa using h2
  by_cases h3 : r < 1
  · have e3 : decide (r < 1) = true := by simpa using h3
    clear h h1 h2 h3
    go_enter Try.func34, Try.ntmps34
    go_wp2
    go_ret2
    exact ⟨rfl, rfl⟩
  have e3 : decide (r < 1) = false := by simpa using h3
  have e4 : decide (8 < r) = true := by simp; omega
  clear h h1 h2 h3
  go_enter Try.func34, Try.ntmps34
  go_wp2
  go_ret2
  exact ⟨rfl, rfl⟩
end Go.Proofs.Ytahojmioonpodaa
