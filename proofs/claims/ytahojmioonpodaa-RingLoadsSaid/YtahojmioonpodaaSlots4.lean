import Derived.Test.YtahojmioonpodaaSlbits
namespace Go.Proofs.Ytahojmioonpodaa
open Go.RowKit
set_option linter.unusedVariables false
set_option linter.unusedSimpArgs false
section
variable {w : World} {g o : Nat} {T : TypeId} {pre post : List Value} {r : Nat} {L : List Sl}
set_option maxHeartbeats 1000000 in
set_option maxRecDepth 100000 in
theorem slotsMay (j : Int) (t : Nat) (h : SlAt w g T pre post r L) (ho : pre.length = o) (ht : t ≤ 18446744073709551615) :
    Calls Try.prog 64 #[.pointer (some ⟨g, o, none⟩), .int .i64 j, .int .u64 t] w fun e w' => e = .returned (.int .i64 (getE r L j t : Nat)) ∧ Below w.heap.size w w' := by
  subst ho
  obtain ⟨h1, h2⟩ := h.heads
  by_cases hb : 4611686018427387904 ≤ t
  · have e0 : decide ((4611686018427387904 : Int) ≤ (t : Int)) = true := by rw [decide_eq_true_eq]; omega
    have hE : getE r L j t = 1 := if_pos (.inl hb)
    rw [hE]
    clear h hb hE
    go_enter Try.func64, Try.ntmps64
    go_wp2
    go_ret
    exact ⟨rfl, Below.refl _ _⟩
  have e0 : decide ((4611686018427387904 : Int) ≤ (t : Int)) = false := by rw [decide_eq_false_iff_not]; omega
  by_cases hj0 : j < 0
  · have e1 : decide (j < (0 : Int)) = true := by simpa using hj0
    have hE : getE r L j t = 1 := if_pos (.inr (.inl hj0))
    rw [hE]
    clear h hb hE hj0
    go_enter Try.func64, Try.ntmps64
    go_wp2
    go_ret
    exact ⟨rfl, Below.refl _ _⟩
  have e1 : decide (j < (0 : Int)) = false := by simpa using hj0
  obtain ⟨jn, rfl⟩ : ∃ n : Nat, j = n := ⟨j.toNat, by omega⟩
  by_cases hjr : r ≤ jn
  · have e2 : decide (r ≤ jn) = true := by simpa using hjr
    have hE : getE r L jn t = 1 := if_pos (.inr (.inr (by omega)))
    rw [hE]
    clear h hb hE hj0 hjr
    go_enter Try.func64, Try.ntmps64
    go_wp2
    go_ret
    exact ⟨rfl, Below.refl _ _⟩
  have e2 : decide (r ≤ jn) = false := by simpa using hjr
  have hx := slX_get h.ok.1 t
  obtain ⟨c0, c1, c2⟩ := h.cells hx
  have hi : t % L.length < L.length := Nat.mod_lt _ h.ok.1
  have hl := h.ok.2.1
  have hr := h.ok.2.2.2.1
  obtain ⟨x0, x1, x2, x3⟩ := slX_ok h.ok t
  have hey := everyN_pos hr
  have hE : getE r L jn t = if (slX L t).s < 2 * t + 1 then 9 else if 2 * t + 1 < (slX L t).s ∨ hasBit (slX L t).l jn = false then 11 else 0 := by
    unfold getE; rw [if_neg (by omega)]; rfl
  have hab := and_bit (l := (slX L t).l) (j := jn) x2 (by omega) (by omega)
  have hP := fun w' (hc : w'.cell? ⟨g, pre.length, none⟩ = w.cell? ⟨g, pre.length, none⟩) => slotsPlace g pre.length L.length t w' (by rw [hc]; exact h1) h.ok.1 hl ht
  have hH := fun w => slotsHeld t w (by omega)
  have hB := fun w => slotsBit jn w (by omega)
  have hli : Lies (w.alloc (.cells #[.int .u64 ((slX L t).s : Int), .int .u64 ((slX L t).v : Int), .int .i64 (slX L t).l] 78)).drew w.heap.size 78 #[.int .u64 ((slX L t).s : Int), .int .u64 ((slX L t).v : Int), .int .i64 (slX L t).l] := Lies.drew (Lies.made _ _ _)
  have hbl : Below w.heap.size w (w.alloc (.cells #[.int .u64 ((slX L t).s : Int), .int .u64 ((slX L t).v : Int), .int .i64 (slX L t).l] 78)).drew := below_drewN ((Below.refl _ _).alloc (Nat.le_refl _) _) 1
  have hlt := h.lt
  generalize hd : 2 * t + 1 = d at *
  generalize (2 : Int) ^ jn = p at *
  have HP := Lib.hid hP
  have HH := Lib.hid hH
  have HB := Lib.hid hB
  have HE := Lib.hid hE
  have HAB := Lib.hid hab
  have hi64 : ((t % L.length : Nat) : Int) < 64 := by omega
  clear hx h hb h1 hi hE hP hH hB hab hd hj0 hjr
  generalize t % L.length = i at *
  generalize slX L t = x at *
  generalize pre.length = o at *
  generalize L.length = c at *
  clear hey x3 hl hr
  go_enter Try.func64, Try.ntmps64
  go_wp2
  go_region_with (go_at_call 63; refine (HP.out _ ?_).mono ?_; exact (by simp [go_sem, hlt]); rintro e w' ⟨rfl, rfl⟩)
  all_goals
    have d0 := (hli.cell 0).trans (show _ = some (Value.int .u64 (x.s : Int)) from rfl)
    have d2 := (hli.cell 2).trans (show _ = some (Value.int .i64 x.l) from rfl)
    clear c0 c1 c2 hli HP hlt
    generalize World.drew (w.alloc (.cells #[.int .u64 (x.s : Int), .int .u64 (x.v : Int), .int .i64 x.l] 78)) = w1 at *
    by_cases q1 : x.s < d
    · have f1 : decide (x.s < d) = true := by simpa using q1
      have hE := HE.out
      rw [if_pos q1] at hE
      have HE9 := Lib.hid hE
      clear q1 HE hE
      go_wp2
      go_quiet ((go_at_call 65; exact quiet_same3 ((HH.out _)) ⟨_, rfl⟩))
      go_wp2
      go_ret
      exact ⟨by rw [HE9.out]; rfl, below_drewN hbl _⟩
    have f1 : decide (x.s < d) = false := by simpa using q1
    have hE := HE.out
    rw [if_neg q1] at hE
    by_cases q2 : d < x.s
    · have f2 : decide (d < x.s) = true := by simpa using q2
      rw [if_pos (.inl q2)] at hE
      have HE9 := Lib.hid hE
      clear q1 q2 HE hE
      go_wp2
      go_quiet ((go_at_call 65; exact quiet_same3 ((HH.out _)) ⟨_, rfl⟩))
      go_wp2
      go_quiet ((go_at_call 65; exact quiet_same3 ((HH.out _)) ⟨_, rfl⟩))
      go_wp2
      go_ret
      exact ⟨by rw [HE9.out]; rfl, below_drewN (below_drewN hbl _) _⟩
    have f2 : decide (d < x.s) = false := by simpa using q2
    by_cases q3 : hasBit x.l jn = true
    · have f3 : (bits .and .i64 x.l p == 0) = false := by rw [HAB.out, q3]; rfl
      rw [if_neg (by rw [q3]; simp [q2])] at hE
      have HE9 := Lib.hid hE
      clear q1 q2 q3 HE hE
      go_wp2
      go_quiet ((go_at_call 65; exact quiet_same3 ((HH.out _)) ⟨_, rfl⟩))
      go_wp2
      go_quiet (first | (go_at_call 65; exact quiet_same3 ((HH.out _)) ⟨_, rfl⟩) | (go_at_call 67; exact quiet_same3 ((HB.out _)) ⟨_, rfl⟩))
      go_wp2
      go_ret
      exact ⟨by rw [HE9.out]; rfl, below_drewN (below_drewN hbl _) _⟩
    · have q3 : hasBit x.l jn = false := by simpa using q3
      have f3 : (bits .and .i64 x.l p == 0) = true := by rw [HAB.out, q3]; rfl
      rw [if_pos (.inr q3)] at hE
      have HE9 := Lib.hid hE
      clear q1 q2 q3 HE hE
      go_wp2
      go_quiet ((go_at_call 65; exact quiet_same3 ((HH.out _)) ⟨_, rfl⟩))
      go_wp2
      go_quiet (first | (go_at_call 65; exact quiet_same3 ((HH.out _)) ⟨_, rfl⟩) | (go_at_call 67; exact quiet_same3 ((HB.out _)) ⟨_, rfl⟩))
      go_wp2
      go_ret
      exact ⟨by rw [HE9.out]; rfl, below_drewN (below_drewN hbl _) _⟩
end
end Go.Proofs.Ytahojmioonpodaa
