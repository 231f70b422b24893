import Derived.Test.YtahojmioonpodaaSlots
namespace Go.Proofs.Ytahojmioonpodaa
open Go.RowKit
set_option linter.unusedVariables false
set_option linter.unusedSimpArgs false
section
variable {w : World} {g o : Nat} {T : TypeId} {pre post : List Value} {r : Nat} {L : List Sl}
theorem slotsIsFree (t : Nat) (h : SlAt w g T pre post r L) (ho : pre.length = o) (ht : t ≤ 18446744073709551615) :
    Calls Try.prog 48 #[.pointer (some ⟨g, o, none⟩), .int .u64 t] w fun e w' => e = .returned (.bool (freeB L t)) ∧ ∃ n, w' = w.drewN n := by
  subst ho
  obtain ⟨h1, h2⟩ := h.heads
  by_cases hb : t < 4611686018427387904
  · have e0 : decide ((t : Int) < 4611686018427387904) = true := by rw [decide_eq_true_eq]; omega
    have hx := slX_get h.ok.1 t
    obtain ⟨c0, _, _⟩ := h.cells hx
    have hi : t % L.length < L.length := Nat.mod_lt _ h.ok.1
    have hl := h.ok.2.1
    have hxo := (slX_ok h.ok t).1
    have hfb : freeB L t = decide ((slX L t).s = 2 * t) := by
      unfold freeB
      by_cases hq : (slX L t).s = 2 * t
      · rw [decide_eq_true hq, decide_eq_true ⟨hb, hq⟩]
      · rw [decide_eq_false hq, decide_eq_false (fun h => hq h.2)]
    have HP := Lib.hid (fun n => slotsPlace g pre.length L.length t (w.drewN n) h1 h.ok.1 hl ht)
    have HF := Lib.hid (fun n => slotsFree t (w.drewN n) (by omega))
    have HFB := Lib.hid hfb
    have hi64 : ((t % L.length : Nat) : Int) < 64 := by omega
    clear hx hfb h hb h1 h2 hi
    generalize t % L.length = i at *
    generalize slX L t = x at *
    generalize pre.length = o at *
    go_enter Try.func48, Try.ntmps48
    go_wp2
    go_quiet (first | (go_at_call 63; exact quiet_same3 ((HP.out _)) ⟨_, rfl⟩) | (go_at_call 55; exact quiet_same3 ((HF.out _)) ⟨_, rfl⟩))
    go_wp2
    go_ret
    exact ⟨ret_bool (by rw [HFB.out]; rw [Bool.eq_iff_iff]; simp; omega), _, rfl⟩
  · have e0 : decide ((t : Int) < 4611686018427387904) = false := by rw [decide_eq_false_iff_not]; omega
    have hfb : freeB L t = false := decide_eq_false (fun h => hb h.1)
    rw [hfb]
    clear h h1 h2 hfb hb
    go_enter Try.func48, Try.ntmps48
    go_wp2
    go_quiet (fail)
    go_wp2
    go_ret
    exact ⟨rfl, _, rfl⟩
end
end Go.Proofs.Ytahojmioonpodaa
