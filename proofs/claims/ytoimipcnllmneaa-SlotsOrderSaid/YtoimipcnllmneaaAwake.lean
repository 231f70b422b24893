import Derived.Test.YtoimipcnllmneaaSlload2
namespace Go.Proofs.Ytoimipcnllmneaa
open Go.RowKit
set_option linter.unusedVariables false
set_option linter.unusedSimpArgs false
def awL1 : List Sl := [⟨1, 7, 1⟩, ⟨2, 0, 0⟩]
def awL2 : List Sl := [⟨4, 0, 0⟩, ⟨2, 0, 0⟩]
theorem aw1 : putE (newS 2) 2 = 8 ∧ putS 1 (newS 2) 2 7 = newS 2 := by decide +kernel
theorem aw2 : putE (newS 2) 0 = 0 ∧ putS 1 (newS 2) 0 7 = awL1 := by decide +kernel
theorem aw3 : decide (getE 1 awL1 0 0 = 0) = true := by decide +kernel
theorem aw4 : getE 1 awL1 0 0 = 0 ∧ getV 1 awL1 0 0 = 7 ∧ getS 1 awL1 0 0 = awL2 := by decide +kernel
theorem aw5 : getE 1 awL2 0 0 = 11 ∧ getV 1 awL2 0 0 = 0 ∧ getS 1 awL2 0 0 = awL2 := by decide +kernel
theorem aw6 : getE 1 awL2 0 1 = 9 ∧ getV 1 awL2 0 1 = 0 ∧ getS 1 awL2 0 1 = awL2 := by decide +kernel
theorem aw7 : getE 1 awL2 1 1 = 1 ∧ getV 1 awL2 1 1 = 0 ∧ getS 1 awL2 1 1 = awL2 := by decide +kernel
theorem aw8 : freeB awL2 2 = true ∧ loadB 2 1 awL2 = true ∧ loadB 3 1 awL2 = false := by decide +kernel
theorem slotEql (x y : Sl) (w : World) : (binOp .eql 52 (.agg #[.int .u64 (x.s : Int), .int .u64 (x.v : Int), .int .i64 x.l]) (.agg #[.int .u64 (y.s : Int), .int .u64 (y.v : Int), .int .i64 y.l])).run Try.prog w = .ok (.bool (decide (x = y))) w := by
  have h1 := slotHeld
  rw [run_eql_struct, run_equalIn_agg w 9999 _ _ _ (by simp only [Program.fieldsOf, Try.underlying52]) h1]
  simp only [Program.fieldsOf, Try.underlying52]
  obtain ⟨a, b, c⟩ := x
  obtain ⟨a', b', c'⟩ := y
  simp [go_sem]
  by_cases e1 : a = a'
  · by_cases e2 : b = b'
    · by_cases e3 : c = c' <;> simp [e1, e2, e3]
    · simp [e1, e2]; try omega
  · simp [e1]; try omega
set_option maxHeartbeats 2000000 in
set_option maxRecDepth 100000 in
theorem awake_any (w : World) : Calls Try.prog 8 #[] w fun e w' => e = .returned (.bool true) ∧ Below w.heap.size w w' := by
  have heq : ∀ w, (binOp .eql 52 (.agg #[.int .u64 4, .int .u64 0, .int .i64 0]) (.agg #[.int .u64 4, .int .u64 0, .int .i64 0])).run Try.prog w = .ok (.bool true) w := fun w => by
    have := slotEql ⟨4, 0, 0⟩ ⟨4, 0, 0⟩ w
    rw [decide_eq_true rfl] at this; exact this
  have hgd := slotGuard
  go_enter Try.func8, Try.ntmps8
  go_wp2_with fail
  refine (slotsNew 2 1 w (by omega) (by omega) (by omega) (by omega)).mono ?_
  rintro e w1 ⟨rfl, hs1, hb1⟩
  go_wp2_with fail
  refine (slotsNewNo 65 1 w1 (by omega)).mono ?_
  rintro e w' ⟨rfl, rfl⟩
  go_wp2_with fail
  refine (slotsPut 2 7 hs1 rfl (by omega) (by omega)).mono ?_
  rintro e w2 ⟨rfl, hs2, hk2⟩
  have hb2 := hb1.trans (hk2.below hb1.size (fun j hj (e : j = _) => by omega))
  rw [aw1.2] at hs2
  rw [aw1.1]
  clear hs1 hk2 hb1
  go_wp2_with fail
  refine (slotsPut 0 7 hs2 rfl (by omega) (by omega)).mono ?_
  rintro e w3 ⟨rfl, hs3, hk3⟩
  have hb3 := hb2.trans (hk3.below hb2.size (fun j hj (e : j = _) => by omega))
  rw [aw2.2] at hs3
  rw [aw2.1]
  clear hs2 hk3 hb2
  go_wp2_with fail
  refine (slotsHas 0 0 hs3 rfl (by omega)).mono ?_
  rintro e w4 ⟨rfl, hb⟩
  have hb4 := hb3.trans (hb.mono hb3.size)
  have hs4 := hs3.later hb
  rw [aw3]
  clear hs3 hb3 hb
  go_wp2_with fail
  refine (slotsGet 0 0 hs4 rfl (by omega)).mono ?_
  rintro e w5 ⟨rfl, hs5, hk5⟩
  have hb5 := hb4.trans (hk5.below hb4.size (fun j hj (e : j = _) => by omega))
  rw [aw4.2.2] at hs5
  rw [aw4.1, aw4.2.1]
  clear hs4 hk5 hb4
  go_wp2_with fail
  refine (slotsGet 0 0 hs5 rfl (by omega)).mono ?_
  rintro e w6 ⟨rfl, hs6, hk6⟩
  have hb6 := hb5.trans (hk6.below hb5.size (fun j hj (e : j = _) => by omega))
  rw [aw5.2.2] at hs6
  rw [aw5.1, aw5.2.1]
  clear hs5 hk6 hb5
  go_wp2_with fail
  refine (slotsGet 0 1 hs6 rfl (by omega)).mono ?_
  rintro e w7 ⟨rfl, hs7, hk7⟩
  have hb7 := hb6.trans (hk7.below hb6.size (fun j hj (e : j = _) => by omega))
  rw [aw6.2.2] at hs7
  rw [aw6.1, aw6.2.1]
  clear hs6 hk7 hb6
  go_wp2_with fail
  refine (slotsGet 1 1 hs7 rfl (by omega)).mono ?_
  rintro e w8 ⟨rfl, hs8, hk8⟩
  have hb8 := hb7.trans (hk8.below hb7.size (fun j hj (e : j = _) => by omega))
  rw [aw7.2.2] at hs8
  rw [aw7.1, aw7.2.1]
  clear hs7 hk8 hb7
  go_wp2_with fail
  refine (slotsAll hs8 rfl).mono ?_
  rintro e w9 ⟨v, rfl, ho9, hb⟩
  have hb9 := hb8.trans (hb.mono hb8.size)
  have hs9 := hs8.later hb
  have hq9 := SeqS.of_owns ho9
  obtain ⟨A, c, rfl, hc1, hc2, _⟩ := hq9.form
  have HS9 := Lib.hid hs9
  have HQ9 := Lib.hid hq9
  clear hs8 hb8 hb ho9 hs9 hq9
  have hin : ∀ x ∈ awL2, slIn x := by
    intro x hx
    simp [awL2] at hx
    rcases hx with rfl | rfl <;> exact ⟨by decide, by decide, by decide, by decide⟩
  have HIN := Lib.hid hin
  clear hin
  go_wp2_with fail
  refine (slotsLoad 2 1 _ 2 awL2 w9 (by omega) (by omega) (by omega) (by omega) HQ9.out HIN.out).mono ?_
  rintro e w10 ⟨hb, hp⟩
  unfold LoadPost at hp
  rw [aw8.2.1, if_pos rfl] at hp
  obtain ⟨rfl, _⟩ := hp
  have hb10 := hb9.trans (hb.mono hb9.size)
  have HS10 := Lib.hid (HS9.out.later hb)
  have HQ10 := Lib.hid (HQ9.out.later hb)
  clear HS9 HQ9 hb hb9
  go_wp2_with fail
  refine (slotsLoad 3 1 _ 2 awL2 w10 (by omega) (by omega) (by omega) (by omega) HQ10.out HIN.out).mono ?_
  rintro e w11 ⟨hb, hp⟩
  unfold LoadPost at hp
  rw [aw8.2.2, if_neg (by decide)] at hp
  obtain rfl := hp
  have hb11 := hb10.trans (hb.mono hb10.size)
  have HS11 := Lib.hid (HS10.out.later hb)
  have hq11 := HQ10.out.later hb
  obtain ⟨b, off, rfl, _, gx⟩ := SeqS.at_ slF_length (by decide) hq11 (show awL2[0]? = some ⟨4, 0, 0⟩ from rfl)
  have x0 := (gx 0 _ (by decide) rfl).trans (show _ = some (Value.int .u64 4) from rfl)
  have x1 := (gx 1 _ (by decide) rfl).trans (show _ = some (Value.int .u64 0) from rfl)
  have x2 := (gx 2 _ (by decide) rfl).trans (show _ = some (Value.int .i64 0) from rfl)
  simp only [Nat.zero_mul, Nat.add_zero] at x0 x1 x2
  have hfr := slotsIsFree 2 HS11.out rfl (by omega)
  rw [aw8.1] at hfr
  have HFR := Lib.hid hfr
  clear HS10 HQ10 hb hb10 hq11 gx hfr
  go_wp2_with fail
  refine HFR.out.mono ?_
  rintro e w12 ⟨rfl, n, hw⟩
  have hb12 : Below w.heap.size w w12 := by rw [hw]; exact below_drewN hb11 _
  have y0 : w12.cell? ⟨b, off, none⟩ = some (.int .u64 4) := by rw [hw]; exact x0
  have y1 : w12.cell? ⟨b, off + 1, none⟩ = some (.int .u64 0) := by rw [hw]; exact x1
  have y2 : w12.cell? ⟨b, off + 2, none⟩ = some (.int .i64 0) := by rw [hw]; exact x2
  clear x0 x1 x2 hw HFR HS11 HIN hb11
  go_wp2
  go_ret
  exact ⟨rfl, hb12⟩
end Go.Proofs.Ytoimipcnllmneaa
