import Derived.Test.YtahojmioonpodaaRing7
namespace Go.Proofs.Ytahojmioonpodaa
open Go.RowKit
set_option linter.unusedVariables false
set_option linter.unusedSimpArgs false
/-! ## A whole part of a block stored anew -/
theorem lies_cells {g : Nat} {T : TypeId} : ∀ (vs : List Value) (pre ob post : List Value) (w : World), vs.length = ob.length → Lies w g T (pre ++ (ob ++ post)).toArray → Lies (w.setCells g pre.length vs) g T (pre ++ (vs ++ post)).toArray
  | [], pre, ob, post, w, hl, h => by
    obtain rfl : ob = [] := List.length_eq_zero_iff.1 hl.symm
    exact h
  | v :: vs, pre, [], post, w, hl, h => by simp at hl
  | v :: vs, pre, x :: ob, post, w, hl, h => by
    have h1 := Lies.putL h pre.length v
    rw [List.set_append_right _ _ (Nat.le_refl _), Nat.sub_self] at h1
    simp only [List.cons_append, List.set_cons_zero] at h1
    rw [show pre ++ v :: (ob ++ post) = (pre ++ [v]) ++ (ob ++ post) by simp] at h1
    have h2 := lies_cells vs (pre ++ [v]) ob post _ (by simpa using hl) h1
    rw [List.length_append] at h2
    simp only [List.append_assoc, List.cons_append, List.nil_append] at h2
    exact h2
theorem kept_cells {g : Nat} : ∀ (vs : List Value) (o : Nat) (w : World), Kept (oneRow g) w (w.setCells g o vs)
  | [], o, w => Kept.refl _ _
  | v :: vs, o, w => (Kept.put w g o v).trans (kept_cells vs (o + 1) _) (fun _ _ h => h)
theorem lies_there {w : World} {g : Nat} {T : TypeId} {cs : Array Value} (h : Lies w g T cs) {o n : Nat} (hn : o + n ≤ cs.size) : w.there g o n := fun j hj => ⟨by rw [h.cell, Array.getElem?_eq_getElem (by omega)]; rfl, h.free _⟩
/-- Slots stored over slots. -/
theorem sl_swap {w : World} {g : Nat} {T : TypeId} {pre post : List Value} {r : Nat} {L0 L M : List Sl} (h : SlAt w g T pre post r L0) (hM : (L ++ M).length = 64) (hok : SlOk r L) :
    w.there g pre.length (slObj r L M).length ∧ SlAt (w.setCells g pre.length (slObj r L M)) g T pre post r L := by
  obtain ⟨M0, m1, m2, m3⟩ := h
  have l0 := slObj_length r L0 M0
  have l1 := slObj_length r L M
  refine ⟨lies_there m3 (by simp; omega), M, hM, hok, lies_cells _ _ _ _ _ (by omega) m3⟩
theorem slObj_one (r : Nat) (L M : List Sl) : ∀ v ∈ slObj r L M, v.oneCell' = true := fun v hv => by
  unfold slObj at hv
  rcases List.mem_append.1 hv with hv | hv
  · simp at hv; rcases hv with rfl | rfl <;> rfl
  · exact slF_one _ v hv
/-! ## Whether the slots are right -/
def placeB (R : Rg) (x : Sl) : Bool := if x.s % 2 = 1 then decide (x.s / 2 < R.tail) && passB R (x.s / 2) x.l else decide (x.s / 2 < R.cap) || passB R (x.s / 2 - R.cap) 0
def slotsB (R : Rg) : Bool := R.L.all (placeB R)
section
variable {w w' : World} {g o : Nat} {T : TypeId} {p0 post : List Value} {R : Rg}
set_option maxHeartbeats 2000000 in
set_option maxRecDepth 100000 in
theorem rgSlotsRight (h : RgRaw w g T p0 post R) (ho : p0.length = o) :
    Calls Try.prog 43 #[.pointer (some ⟨g, o, none⟩)] w fun e w' => e = .returned (.bool (slotsB R)) ∧ Below w.heap.size w w' := by
  have HP := Lib.hid (fun (t : Nat) (l : Int) w' (h : RgRaw w' g T p0 post R) => cuPassed t l h ho)
  subst ho
  obtain ⟨s1, s2⟩ := h.slots
  have HA := Lib.hid (slotsAll s1 s2)
  have hr1 := h.2.ok.2.2.1
  have hr2 := h.2.ok.2.2.2.1
  have hL := h.2.ok.2.1
  have HOK := Lib.hid h.2.ok
  have H := Lib.hid h
  clear h s1 s2
  go_enter Try.func43, Try.ntmps43
  go_wp2_with fail
  refine HA.out.mono ?_
  rintro e w1 ⟨v, rfl, hown, hb1⟩
  have hq := SeqS.of_owns hown
  obtain ⟨A, c, rfl, hc1, hc2, _⟩ := hq.form
  have HQ := Lib.hid hq
  have H1 := Lib.hid (H.out.later hb1)
  clear hown hq HA
  go_wp2
  go_loopw [12] (fun u wr => ∃ k : Nat, k ≤ R.L.length ∧ u = .int .i64 k ∧ Hid (∀ i x, i < k → R.L[i]? = some x → placeB R x = true) ∧ Below w1.heap.size w1 wr) (fun u _ => R.L.length - (intOf u).toNat)
  case atStart => exact ⟨0, by omega, rfl, (fun i x hi => by omega), Below.refl _ _⟩
  case round =>
    obtain ⟨k, hk, rfl, hall, hb⟩ := hrel
    by_cases hlt : k < R.L.length
    · have hki : (k : Int) < (R.L.length : Int) := by omega
      obtain ⟨x, hx⟩ : ∃ x, R.L[k]? = some x := ⟨_, List.getElem?_eq_getElem hlt⟩
      have hxo := HOK.out.2.2.2.2 x (List.mem_of_getElem? hx)
      obtain ⟨b, off, rfl, hbl, gx⟩ := SeqS.at_ slF_length (by decide) (HQ.out.later hb) hx
      have x0 := gx 0 _ (by decide) rfl
      have x1 := gx 1 _ (by decide) rfl
      have x2 := gx 2 _ (by decide) rfl
      rw [Nat.add_zero] at x0
      obtain ⟨o1, o2, o3, o4⟩ := hxo
      have h255 := everyN_pos hr2
      have hl255 : x.l ≤ 255 := by omega
      have HX := Lib.hid hx
      clear hx gx o4 h255
      obtain ⟨S, hSS⟩ : ∃ S : Int, S = (x.s : Int) := ⟨_, rfl⟩
      have hS0 : 0 ≤ S := by omega
      have hS1 : S ≤ 18446744073709551615 := by omega
      obtain ⟨d, hd⟩ : ∃ d, x.s / 2 = d := ⟨_, rfl⟩
      obtain ⟨m, hm⟩ : ∃ m, x.s % 2 = m := ⟨_, rfl⟩
      have hqd : S / 2 = (d : Int) := by omega
      have hrm : S % 2 = (m : Int) := by omega
      rw [← hSS] at x0
      have hbA : Below w1.heap.size w1 (wr.alloc (.cells #[.int .u64 S, .int .u64 (x.v : Int), .int .i64 x.l] 78)) := hb.alloc hb.size _
      have hrA := H1.out.later hbA
      obtain ⟨c0, c1, c2, c3⟩ := hrA.cells
      have HR := Lib.hid hrA
      have HBA := Lib.hid hbA
      have hpl : placeB R x = if m = 1 then decide (d < R.tail) && passB R d x.l else decide (d < R.cap) || passB R (d - R.cap) 0 := by unfold placeB; rw [hd, hm]
      have HPL := Lib.hid hpl
      have hyes : placeB R x = true → ∀ i y, i < k + 1 → R.L[i]? = some y → placeB R y = true := fun hp i y hi hy => by
        by_cases e : i = k
        · subst e; rw [HX.out] at hy; injection hy with hy; subst hy; exact hp
        · exact hall.out i y (by omega) hy
      have hno : placeB R x = false → slotsB R = false := fun hp => by
        unfold slotsB
        rw [List.all_eq_false]
        exact ⟨x, List.mem_of_getElem? HX.out, by rw [hp]; simp⟩
      have HYES := Lib.hid hyes
      have HNO := Lib.hid hno
      have hm2 : m < 2 := by rw [← hm]; exact Nat.mod_lt _ (by decide)
      clear hbA hrA hpl hyes hno hd hm hSS hall hb hbl H1 HX HQ o1 o2
      by_cases m1 : m = 1
      · have e1 : ((m : Int) == 1) = true := by rw [beq_iff_eq]; omega
        have hpl := HPL.out
        rw [if_pos m1] at hpl
        clear m1
        by_cases dt : d < R.tail
        · have e2 : decide (R.tail ≤ d) = false := by rw [decide_eq_false_iff_not]; omega
          rw [decide_eq_true dt, Bool.true_and] at hpl
          obtain ⟨pb, hpb⟩ : ∃ pb, passB R d x.l = pb := ⟨_, rfl⟩
          rw [hpb] at hpl
          have hp1 := fun w' h h0 h1 => HP.out d x.l w' h h0 h1
          rw [hpb] at hp1
          have HP1 := Lib.hid hp1
          cases pb
          · have HF := Lib.hid (HNO.out hpl)
            clear hpl hpb hp1
            go_wp2
            go_quiet ((go_at_call 61; exact quiet_same3 ((HP1.out _ (by exact HR.out) (by omega) (by omega))) ⟨_, rfl⟩))
            go_wp2
            go_ret
            exact ⟨ret_bool (by rw [HF.out]), (by first | exact hb1.trans ((below_drewN (below_drewN HBA.out _) _).mono hb1.size) | exact hb1.trans ((below_drewN HBA.out _).mono hb1.size) | exact hb1.trans (HBA.out.mono hb1.size))⟩
          · have HALL2 := Lib.hid (HYES.out hpl)
            clear hpl hpb hp1
            go_wp2
            go_quiet ((go_at_call 61; exact quiet_same3 ((HP1.out _ (by exact HR.out) (by omega) (by omega))) ⟨_, rfl⟩))
            go_wp2
            go_quiet (fail)
            go_wp2
            go_roundw
            case rel => exact ⟨k + 1, by omega, by go_num, HALL2, (by first | exact below_drewN (below_drewN HBA.out _) _ | exact below_drewN HBA.out _ | exact HBA.out)⟩
            case measure => simp [intOf]; omega
        · have e2 : decide (R.tail ≤ d) = true := by rw [decide_eq_true_iff]; omega
          rw [decide_eq_false dt, Bool.false_and] at hpl
          have HF := Lib.hid (HNO.out hpl)
          clear hpl
          go_wp2
          go_quiet (fail)
          go_wp2
          go_ret
          exact ⟨ret_bool (by rw [HF.out]), (by first | exact hb1.trans ((below_drewN (below_drewN HBA.out _) _).mono hb1.size) | exact hb1.trans ((below_drewN HBA.out _).mono hb1.size) | exact hb1.trans (HBA.out.mono hb1.size))⟩
      · have e1 : ((m : Int) == 1) = false := by rw [beq_eq_false_iff_ne]; omega
        have hpl := HPL.out
        rw [if_neg m1] at hpl
        clear m1
        by_cases dt : d < R.cap
        · have e2 : decide (R.cap ≤ d) = false := by rw [decide_eq_false_iff_not]; omega
          rw [decide_eq_true dt, Bool.true_or] at hpl
          have HALL2 := Lib.hid (HYES.out hpl)
          clear hpl
          go_wp2
          go_quiet (fail)
          go_wp2
          go_quiet (fail)
          go_wp2
          go_roundw
          case rel => exact ⟨k + 1, by omega, by go_num, HALL2, (by first | exact below_drewN (below_drewN HBA.out _) _ | exact below_drewN HBA.out _ | exact HBA.out)⟩
          case measure => simp [intOf]; omega
        · have e2 : decide (R.cap ≤ d) = true := by rw [decide_eq_true_iff]; omega
          rw [decide_eq_false dt, Bool.false_or] at hpl
          have hwr : IntKind.u64.wrap ((d : Int) - (R.cap : Int)) = ((d - R.cap : Nat) : Int) := by rw [IntKind.wrap_u64]; omega
          obtain ⟨pb, hpb⟩ : ∃ pb, passB R (d - R.cap) 0 = pb := ⟨_, rfl⟩
          rw [hpb] at hpl
          have hp1 := fun w' h h0 h1 => HP.out (d - R.cap) 0 w' h h0 h1
          rw [hpb] at hp1
          have HP1 := Lib.hid hp1
          generalize d - R.cap = q at *
          cases pb
          · have HF := Lib.hid (HNO.out hpl)
            clear hpl hpb hp1
            go_wp2
            go_quiet (fail)
            go_wp2
            go_quiet ((go_at_call 61; exact quiet_same3 ((HP1.out _ (by exact HR.out) (by omega) (by omega))) ⟨_, rfl⟩))
            go_wp2
            go_ret
            exact ⟨ret_bool (by rw [HF.out]), (by first | exact hb1.trans ((below_drewN (below_drewN HBA.out _) _).mono hb1.size) | exact hb1.trans ((below_drewN HBA.out _).mono hb1.size) | exact hb1.trans (HBA.out.mono hb1.size))⟩
          · have HALL2 := Lib.hid (HYES.out hpl)
            clear hpl hpb hp1
            go_wp2
            go_quiet (fail)
            go_wp2
            go_quiet ((go_at_call 61; exact quiet_same3 ((HP1.out _ (by exact HR.out) (by omega) (by omega))) ⟨_, rfl⟩))
            go_wp2
            go_roundw
            case rel => exact ⟨k + 1, by omega, by go_num, HALL2, (by first | exact below_drewN (below_drewN HBA.out _) _ | exact below_drewN HBA.out _ | exact HBA.out)⟩
            case measure => simp [intOf]; omega
    · obtain rfl : k = R.L.length := by omega
      have HF : Hid (slotsB R = true) := by
        show _ = _
        unfold slotsB
        rw [List.all_eq_true]
        intro x hx
        obtain ⟨i, hi⟩ := List.mem_iff_getElem?.1 hx
        exact hall.out i x (List.getElem?_eq_some_iff.1 hi).1 hi
      have hbw := hb1.trans (hb.mono hb1.size)
      clear hall
      go_wp2
      go_ret
      exact ⟨ret_bool (by rw [HF.out]), hbw⟩
end
end Go.Proofs.Ytahojmioonpodaa
