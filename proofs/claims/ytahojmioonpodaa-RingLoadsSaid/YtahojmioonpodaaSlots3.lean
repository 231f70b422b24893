import Derived.Test.YtahojmioonpodaaSlots2
namespace Go.Proofs.Ytahojmioonpodaa
open Go.RowKit
set_option linter.unusedVariables false
set_option linter.unusedSimpArgs false
theorem kept_put3 (w : World) (n g a b c : Nat) (u v x : Value) : Kept (oneRow g) w ((((w.drewN n).setCell ⟨g, a, none⟩ u).setCell ⟨g, b, none⟩ v).setCell ⟨g, c, none⟩ x) :=
  (((Kept.drewN _ w n).trans (Kept.put _ g a u) (fun _ _ h => h)).trans (Kept.put _ g b v) (fun _ _ h => h)).trans (Kept.put _ g c x) (fun _ _ h => h)
section
variable {w : World} {g o : Nat} {T : TypeId} {pre post : List Value} {r : Nat} {L : List Sl}
set_option maxHeartbeats 1000000 in
set_option maxRecDepth 100000 in
theorem slotsPut (t v : Nat) (h : SlAt w g T pre post r L) (ho : pre.length = o) (ht : t ≤ 18446744073709551615) (hv : v ≤ 18446744073709551615) :
    Calls Try.prog 51 #[.pointer (some ⟨g, o, none⟩), .int .u64 t, .int .u64 v] w fun e w' => e = .returned (.int .i64 (putE L t : Nat)) ∧ SlAt w' g T pre post r (putS r L t v) ∧ Kept (oneRow g) w w' := by
  subst ho
  obtain ⟨h1, h2⟩ := h.heads
  by_cases hb : t < 4611686018427387904
  · have e0 : decide ((4611686018427387904 : Int) ≤ (t : Int)) = false := by rw [decide_eq_false_iff_not]; omega
    obtain ⟨d, hd⟩ : ∃ d, 2 * t = d := ⟨_, rfl⟩
    have hx := slX_get h.ok.1 t
    have ht62 : t ≤ 4611686018427387903 := by omega
    obtain ⟨c0, _, _⟩ := h.cells hx
    have hi : t % L.length < L.length := Nat.mod_lt _ h.ok.1
    have hl := h.ok.2.1
    have hr := h.ok.2.2.2.1
    have hxo := (slX_ok h.ok t).1
    have hE : putE L t = if (slX L t).s < 2 * t then 8 else if 2 * t < (slX L t).s then 11 else 0 := by unfold putE; rw [if_neg (by omega)]
    have hS : putS r L t v = if putE L t = 0 then L.set (t % L.length) ⟨2 * t + 1, v, everyN r⟩ else L := rfl
    have hey := everyN_pos hr
    have hpt : slOk r ⟨2 * t + 1, v, everyN r⟩ := ⟨by simp only; omega, by simp only; omega, hey.1, by simp⟩
    have hp3 := h.put3 hx hpt
    have HP := Lib.hid (fun n => slotsPlace g pre.length L.length t (w.drewN n) h1 h.ok.1 hl ht)
    have hF := fun w => slotsFree t w (by omega)
    have hH := fun w => slotsHeld t w (by omega)
    rw [hd] at hF hH hE hS hpt hp3
    have HF := Lib.hid hF
    have HH := Lib.hid hH
    have HE := Lib.hid (fun w' (h : ∀ p, w'.cell? p = w.cell? p) => slotsEveryone g pre.length r w' (by rw [h]; exact h2) hr)
    have f0 := h.free (pre.length + 2 + t % L.length * 3)
    have f1 := h.free (pre.length + 2 + t % L.length * 3 + 1)
    have f2 := h.free (pre.length + 2 + t % L.length * 3 + 2)
    have c1 := (h.cells hx).2.1
    have c2 := (h.cells hx).2.2
    have H := Lib.hid h
    have HEE := Lib.hid hE
    have HS := Lib.hid hS
    have H3 := Lib.hid hp3
    have hi64 : ((t % L.length : Nat) : Int) < 64 := by omega
    clear hx h hb h1 h2 hi hE hS hp3 hpt hF hH
    generalize t % L.length = i at *
    generalize slX L t = x at *
    generalize pre.length = o at *
    by_cases q1 : x.s < d
    · have e1 : decide (x.s < d) = true := by simpa using q1
      have hE := HEE.out
      rw [if_pos q1] at hE
      have hS := HS.out
      rw [hE, if_neg (by decide)] at hS
      rw [hE, hS]
      clear q1 HEE HS H3 hE hS
      go_enter Try.func51, Try.ntmps51
      go_wp2
      go_quiet ((go_at_call 63; exact quiet_same3 ((HP.out _)) ⟨_, rfl⟩))
      go_wp2
      go_quiet ((go_at_call 55; exact quiet_same3 ((HF.out _)) ⟨_, rfl⟩))
      go_wp2
      go_ret
      exact ⟨rfl, H.out, rfl, rfl, rfl, Nat.le_refl _, fun _ _ _ => rfl⟩
    · have e1 : decide (x.s < d) = false := by simpa using q1
      have hE := HEE.out
      rw [if_neg q1] at hE
      by_cases q2 : d < x.s
      · have e2 : decide (d < x.s) = true := by simpa using q2
        rw [if_pos q2] at hE
        have hS := HS.out
        rw [hE, if_neg (by decide)] at hS
        rw [hE, hS]
        clear q1 q2 HEE HS H3 hE hS
        go_enter Try.func51, Try.ntmps51
        go_wp2
        go_quiet ((go_at_call 63; exact quiet_same3 ((HP.out _)) ⟨_, rfl⟩))
        go_wp2
        go_quiet ((go_at_call 55; exact quiet_same3 ((HF.out _)) ⟨_, rfl⟩))
        go_wp2
        go_quiet ((go_at_call 55; exact quiet_same3 ((HF.out _)) ⟨_, rfl⟩))
        go_wp2
        go_ret
        exact ⟨rfl, H.out, rfl, rfl, rfl, Nat.le_refl _, fun _ _ _ => rfl⟩
      · have e2 : decide (d < x.s) = false := by simpa using q2
        rw [if_neg q2] at hE
        have hS := HS.out
        rw [hE, if_pos rfl] at hS
        rw [hE, hS]
        clear q1 q2 HEE HS hE hS
        go_enter Try.func51, Try.ntmps51
        go_wp2
        go_quiet ((go_at_call 63; exact quiet_same3 ((HP.out _)) ⟨_, rfl⟩))
        go_wp2
        go_quiet ((go_at_call 55; exact quiet_same3 ((HF.out _)) ⟨_, rfl⟩))
        go_wp2
        go_quiet ((go_at_call 55; exact quiet_same3 ((HF.out _)) ⟨_, rfl⟩))
        go_wp2_with fail
        refine (HH.out _).mono ?_
        rintro e w' ⟨rfl, rfl⟩
        go_wp2_with fail
        refine Calls.mono (HE.out _ ?_) ?_
        · intro _; rfl
        rintro e w' ⟨rfl, rfl⟩
        go_wp2
        go_ret
        exact ⟨rfl, H3.out, kept_put3 _ _ _ _ _ _ _ _ _⟩
  · have e0 : decide ((4611686018427387904 : Int) ≤ (t : Int)) = true := by rw [decide_eq_true_eq]; omega
    have hE : putE L t = 1 := if_pos (by omega)
    have hS : putS r L t v = L := by unfold putS; rw [hE, if_neg (by decide)]
    rw [hE, hS]
    have H := Lib.hid h
    clear h h1 h2 hE hS hb
    go_enter Try.func51, Try.ntmps51
    go_wp2
    go_ret
    exact ⟨rfl, H.out, Kept.refl _ _⟩
end
end Go.Proofs.Ytahojmioonpodaa
