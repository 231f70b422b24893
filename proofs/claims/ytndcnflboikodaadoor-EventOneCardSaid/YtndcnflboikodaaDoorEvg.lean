/-
  The line of an event, appended (layer 15): event.grow.
-/
import Derived.Test.YtndcnflboikodaaDoorEvm
import Derived.Test.YtndcnflboikodaaDoorRely
namespace Go.Proofs.YtndcnflboikodaaDoor
open Go.RowKit
set_option linter.unusedVariables false
set_option linter.unusedSimpArgs false
def GrS (B : Nat) (w w1 q : World) : Prop := Below B w q ∧ KeepT w1 q ∧ B ≤ q.heap.size
/-- What the operations of a field's region yield; f: which field; n: its number; c: 1 with a conversion. -/
def grV (B N f c : Nat) (vr : Value) (bs : List UInt8) (n : Nat) : Nat → Value → World → Prop
  | 0, v, _ => v = vr
  | 1, v, q => ∃ g, v = .slice (some ⟨g, 0, none⟩) 1 1 ∧ Lies q g 5 #[.int .u8 32]
  | 2, v, q => q.ownsRow B 5 1 v (bs ++ [32]).length (cellsB (bs ++ [32]))
  | 3, v, _ => v = .pointer (some ⟨N, f, none⟩)
  | 4, v, _ => v = .int (if c = 1 then .i64 else .u64) (n : Int)
  | 5, v, q => if c = 1 then v = .int .u64 (n : Int) else q.ownsRow B 5 1 v ((bs ++ [32]) ++ decE n).length (cellsB ((bs ++ [32]) ++ decE n))
  | 6, v, q => q.ownsRow B 5 1 v ((bs ++ [32]) ++ decE n).length (cellsB ((bs ++ [32]) ++ decE n))
  | 7, v, q => if c = 1 then q.ownsRow B 5 1 v ((bs ++ [32]) ++ decE n).length (cellsB ((bs ++ [32]) ++ decE n)) else q.ownsRow B 5 1 vr bs.length (cellsB bs)
  | 8, _, q => q.ownsRow B 5 1 vr bs.length (cellsB bs)
  | _, _, _ => True
theorem grV_alloc {B N f c : Nat} {vr : Value} {bs : List UInt8} {n : Nat} {w : World} (o : Obj) {j : Nat} {u : Value} (h : grV B N f c vr bs n j u w) : grV B N f c vr bs n j u (w.alloc o) := by
  have hb : Below w.heap.size w (w.alloc o) := (Below.refl _ _).alloc (Nat.le_refl _) o
  match j with
  | 0 => exact h
  | 1 => obtain ⟨g, e, hl⟩ := h; exact ⟨g, e, hl.below hb hl.lt⟩
  | 2 => exact owned_below h hb
  | 3 => exact h
  | 4 => exact h
  | 5 =>
    by_cases hc : c = 1
    · simp only [grV, if_pos hc] at h ⊢; exact h
    · simp only [grV, if_neg hc] at h ⊢; exact owned_below h hb
  | 6 => exact owned_below h hb
  | 7 =>
    by_cases hc : c = 1
    · simp only [grV, if_pos hc] at h ⊢; exact owned_below h hb
    · simp only [grV, if_neg hc] at h ⊢; exact owned_below h hb
  | 8 => exact owned_below h hb
  | _ + 9 => trivial
def grLow (c j : Nat) : Bool := j == 0 || j == 3 || j == 4 || (c == 1 && j == 5) || decide (9 ≤ j)
theorem grV_low {B N f c : Nat} {vr : Value} {bs : List UInt8} {n : Nat} {w w' : World} {j : Nat} {u : Value} (hj : grLow c j = true) (h : grV B N f c vr bs n j u w) : grV B N f c vr bs n j u w' := by
  match j with
  | 0 => exact h
  | 1 => simp [grLow] at hj
  | 2 => simp [grLow] at hj
  | 3 => exact h
  | 4 => exact h
  | 5 =>
    have hc : c = 1 := by simpa [grLow] using hj
    simp only [grV, if_pos hc] at h ⊢
    exact h
  | 6 => simp [grLow] at hj
  | 7 => simp [grLow] at hj
  | 8 => simp [grLow] at hj
  | _ + 9 => trivial
/-- What grow does to a row of bytes of the call's own. -/
def GrPost (B : Nat) (bs : List UInt8) (w : World) (e : Ending) (w' : World) : Prop :=
  ∃ v', e = .returned v' ∧ w'.ownsRow B 5 1 v' bs.length (cellsB bs) ∧ Below B w w' ∧ KeepT w w'
set_option maxHeartbeats 8000000 in
set_option maxRecDepth 100000 in
theorem grow15 (x : Ev) (B : Nat) (bs : List UInt8) (v : Value) (w : World) (h : EvnAt w) (hB0 : 0 < B) (h0 : 0 ≤ x.th) (h1 : x.th ≤ 1000) (h2 : 0 ≤ x.rg) (h3 : x.rg ≤ 1000) (h4 : x.tk ≤ 18446744073709551615) (h5 : x.vl ≤ 18446744073709551615) (hbs : bs.length ≤ 140737488200000)
    (ho : w.ownsRow B 5 1 v bs.length (cellsB bs)) (hB : B ≤ w.heap.size) :
    Calls Tryd.prog 28 #[v, .agg (evC x)] w (GrPost B (bs ++ lineE x) w) := by
  obtain ⟨th, kd, rg, tk, vl⟩ := x
  simp only at h0 h1 h2 h3 h4 h5
  obtain ⟨tn, rfl⟩ : ∃ tn : Nat, th = tn := ⟨th.toNat, by omega⟩
  obtain ⟨rn, rfl⟩ : ∃ rn : Nat, rg = rn := ⟨rg.toNat, by omega⟩
  have HLN := Lib.hid (lineE_is ⟨tn, kd, rn, tk, vl⟩)
  simp only [Int.toNat_natCast] at HLN
  have hb0 : Below w.heap.size w (w.alloc (.cells (evC ⟨tn, kd, rn, tk, vl⟩) 24)) := (Below.refl _ _).alloc (Nat.le_refl _) _
  have l0 := Lies.made w 24 (evC ⟨tn, kd, rn, tk, vl⟩)
  have hz0 : B ≤ (w.alloc (.cells (evC ⟨tn, kd, rn, tk, vl⟩) 24)).heap.size := by simp; omega
  have HB1 := Lib.hid (hb0.mono hB)
  have HL1 := Lib.hid l0
  have HK0 := Lib.hid (KeepT.below hb0)
  have HO1 := Lib.hid (owned_below ho hb0)
  have HEN := Lib.hid (fun (q : World) (hq : Below B w q) => h.later hq hB0)
  have HKA := Lib.hid (kinds_apart kd)
  have hnl := nameW_size kd
  have hdl := decE_length tn
  have hdr := decE_length rn
  have hdt := decE_length tk
  have hdv := decE_length vl
  have hw1 : IntKind.u64.wrap (tn : Int) = (tn : Int) := by rw [IntKind.wrap_u64]; omega
  have HZ1 := Lib.hid hz0
  have HOE := Lib.hid ho
  obtain ⟨N, hN⟩ : ∃ N, w.heap.size = N := ⟨_, rfl⟩
  obtain ⟨A9, c9, rfl⟩ := own_sliceD ho
  rw [hN] at HL1
  clear ho l0 hb0 h hz0
  go_enter Tryd.func28, Tryd.ntmps28
  go_wp2_with fail
  try simp only [hN]
  clear hN
  generalize w.alloc (.cells (evC ⟨tn, kd, rn, tk, vl⟩) 24) = w1 at *
  have c0 := (HL1.out.cell 0).trans (show _ = some (Value.int .i64 (tn : Int)) from rfl)
  have cl := HL1.out.lt
  refine (growNumber_any B 19 tn bs _ _ (pow19 (by omega)) (by omega) (by omega) (by omega) HO1.out HZ1.out).mono ?_
  rintro e w2 ⟨v2, rfl, ho2, hb2, hk2⟩
  have HO2 := Lib.hid ho2
  have HB2 := Lib.hid (HB1.out.trans hb2)
  have HK2 := Lib.hid hk2
  have hz2 : B ≤ w2.heap.size := Nat.le_trans HZ1.out hb2.size
  obtain ⟨A9, c9, rfl⟩ := own_sliceD ho2
  clear c0 cl ho2 hb2 hk2 HO1 HB1
  obtain ⟨b2, hb2⟩ : ∃ b2, bs ++ decF 19 tn = b2 := ⟨_, rfl⟩
  have HE2 : Hid (bs ++ decE tn = b2) := hb2
  have hl2 : b2.length ≤ 140737488200020 := by rw [← hb2, List.length_append]; have := decF_length 19 tn; omega
  rw [hb2] at HO2 ⊢
  clear hb2
  go_wp2_with (at_builtin; refine append_one _ (.int .u8 32) rfl (.tmp 10) (.tmp 11) 53 rfl B 5 _ _ Tryd.underlying53 Tryd.infoU8 rfl rfl _ _ _ rfl HO2.out rfl (by unfold maxLen; omega) (by omega) hz2 ?_)
  intro v3 w3 ho hb hgr
  obtain ⟨b3, hb3⟩ : ∃ b3, b2 ++ [32] = b3 := ⟨_, rfl⟩
  have HE3 := Lib.hid hb3
  have hl3' : b3.length ≤ 140737488200021 := by rw [← hb3, List.length_append]; simp; omega
  have ho : w3.ownsRow B 5 1 v3 b3.length (cellsB b3) := by rw [← hb3, List.length_append, cellsB_append]; exact ho
  clear hb3
  have HO3 := Lib.hid ho
  have HB3 := Lib.hid (HB2.out.trans hb)
  have HK3 := Lib.hid (HK2.out.trans (KeepT.alloc_grown HO2.out hgr))
  have hz3 : B ≤ w3.heap.size := Nat.le_trans hz2 hb.size
  obtain ⟨A9, c9, rfl⟩ := own_sliceD ho
  clear ho hb hgr HO2 HB2 HK2 hz2 hl2
  have l3 := HK3.out _ _ _ (by decide) HL1.out
  have HL3 := Lib.hid l3
  have c1 := (l3.cell 1).trans (show _ = some (Value.int .i64 kd) from rfl)
  have cl := l3.lt
  clear l3
  go_wp2_with fail
  refine (evname_any kd _ (HEN.out _ HB3.out)).mono ?_
  rintro e w' ⟨rfl, rfl⟩
  have hl3 : b3.length + (evnB kd).size ≤ 140737488200100 := by
    rw [← nameW_text, textB_size]; omega
  obtain ⟨i0, hi, hz0', hz1, hz2⟩ := info_parts Tryd.infoU8
  have hi := Lib.hid hi
  have hz0' := Lib.hid hz0'
  have hz1 := Lib.hid hz1
  have hz2 := Lib.hid hz2
  go_wp2_with (at_builtin; refine Lib.wpList_append_own_string _ rfl (.tmp 13) (.tmp 16) 53 9 rfl B 5 i0 Tryd.underlying53 Tryd.underlying9 hi.out hz0'.out hz1.out hz2.out _ _ (cellsB b3) rfl HO3.out (evnB kd) rfl (by unfold maxLen; omega) (by omega) hz3 ?_)
  intro v4 w4 ho hgr _
  have HN9 : Hid (evnB kd = textB (nameW kd)) := Eq.symm (nameW_text kd)
  rw [HN9.out, cellsB_text, ← cellsB_append, textB_size, ← List.length_append] at ho
  have hb4 : Below B _ w4 := (Below.refl B _).grown hgr hz3 (fun k hk => (HO3.out.lt k hk).1)
  have HO4 := Lib.hid ho
  have HB4 := Lib.hid (HB3.out.trans hb4)
  have HK4 := Lib.hid (HK3.out.trans (KeepT.grown HO3.out hgr))
  have hz4 : B ≤ w4.heap.size := Nat.le_trans hz3 hb4.size
  obtain ⟨A9, c9, rfl⟩ := own_sliceD ho
  clear ho hgr HO3 HB3 HK3 hz3 c1 cl HL3 hb4 HN9 hi hz0' hz1 hz2 hl3
  obtain ⟨b4, hb4⟩ : ∃ b4, b3 ++ nameW kd = b4 := ⟨_, rfl⟩
  have HE4 : Hid (bs ++ (decE tn ++ 32 :: nameW kd) = b4) := by show _ = _; rw [← hb4, ← HE3.out, ← HE2.out]; simp
  have hl4 : b4.length ≤ 140737488200040 := by rw [← hb4, List.length_append]; omega
  rw [hb4] at HO4
  simp only [hb4]
  clear hb4 HE2 HE3 hl3'
  have HL4 := Lib.hid (HK4.out _ _ _ (by decide) HL1.out)
  have HR := Lib.hid (rings_any kd)
  have HT := Lib.hid (hasTicket_any kd)
  have HV := Lib.hid (hasValue_any kd)
  rcases HKA.out with ⟨k1, k2, k3⟩ | ⟨k1, k2, k3⟩ | ⟨k1, k2, k3⟩ | ⟨k1, k2, k3⟩
  all_goals
    rw [k1] at HT
    rw [k2] at HR
    rw [k3] at HV
    rw [k1, k2, k3] at HLN
    clear HKA k1 k2 k3
  · have c1 := (HL4.out.cell 1).trans (show _ = some (Value.int .i64 kd) from rfl)
    have cl := HL4.out.lt
    go_wp2_with fail
    refine (HR.out _).mono ?_
    rintro e w' ⟨rfl, rfl⟩
    clear c1 cl
    go_wp2_with fail
    have HO := Lib.hid HO4.out
    have HB := Lib.hid HB4.out
    have HK := Lib.hid HK4.out
    have HZ := Lib.hid hz4
    clear HO4 HB4 HK4 HL4 hz4
    obtain ⟨vr, hvr⟩ : ∃ vr, Value.slice A9 b4.length c9 = vr := ⟨_, rfl⟩
    simp only [hvr] at HO ⊢
    clear hvr
    have hll : b4.length ≤ 140737488200100 := by omega
    refine wp_region_rely (GrS B w w1) (grV B N 2 1 vr b4 rn) [some 21, some 22, some 23, some 24, some 25, some 26, some 27, some 0] [[], [], [0, 1, 8], [], [3], [4], [2, 5], [6]] [[], [], [0, 1, 8], [], [3], [3, 4], [0, 1, 2, 4, 5, 8], [0, 1, 2, 3, 4, 5, 6, 8]] [[1, 3, 4, 5, 6, 8], [0, 3, 4, 5, 6, 8], [3, 4, 5], [0, 1, 2, 5, 6, 8], [0, 1, 2, 6, 8], [0, 1, 2, 8], [], []] [0, 1, 2, 3, 4, 5, 6, 7] 9 (by kernel_rfl) (by kernel_rfl) (by kernel_rfl) (by kernel_rfl) ?rS ?rI ?rT ?rE
    case rS => exact ⟨below_drewN HB.out 1, HK.out.trans (KeepT.below (below_drewN (Below.refl _ _) 1)), HZ.out⟩
    case rI =>
      intro j h1 h2
      have h1 : j < 9 := h1
      have h2 : 8 ≤ j := h2
      obtain rfl : j = 8 := by omega
      exact owns_drew HO.out
    case rT =>
      refine RelySteps.cons (RelyStep.mk [] [1, 3, 4, 5, 6, 8] rfl rfl rfl (fun xv wS hS hV bq hb K hK => ?_)) ?_
      · clear hV
        simp only [putsOf, List.foldl_cons, List.foldl_nil, List.getD_cons_zero, List.getD_cons_succ, List.getD_nil, cond_true, cond_false, Act.put, List.setIfInBounds_toArray, List.set_cons_zero, List.set_cons_succ] at hb
        subst hb
        rw [if_pos (by rfl)]
        go_wp2_with fail
        exact hK.out _ _ ⟨_, rfl, hS, rfl, AllP.same _⟩
      refine RelySteps.cons (RelyStep.mk [] [0, 3, 4, 5, 6, 8] rfl rfl rfl (fun xv wS hS hV bq hb K hK => ?_)) ?_
      · clear hV
        simp only [putsOf, List.foldl_cons, List.foldl_nil, List.getD_cons_zero, List.getD_cons_succ, List.getD_nil, cond_true, cond_false, Act.put, List.setIfInBounds_toArray, List.set_cons_zero, List.set_cons_succ] at hb
        subst hb
        rw [if_pos (by rfl)]
        have HSS := Lib.hid hS
        clear hS
        go_wp2_with fail
        exact hK.out _ _ ⟨_, rfl, ⟨HSS.out.1.alloc HSS.out.2.2 _, HSS.out.2.1.trans (KeepT.below ((Below.refl _ _).alloc (Nat.le_refl _) _)), by have := HSS.out.2.2; simp; omega⟩, ⟨_, rfl, Lies.made _ _ _⟩, AllP.of _ (fun j _ u h => grV_alloc _ h)⟩
      refine RelySteps.cons (RelyStep.mk [0, 1, 8] [3, 4, 5] rfl rfl rfl (fun xv wS hS hV bq hb K hK => ?_)) ?_
      · obtain ⟨h0, h1, h8, _⟩ := hV
        have h0 : xv 0 = _ := h0
        simp only [putsOf, List.foldl_cons, List.foldl_nil, List.getD_cons_zero, List.getD_cons_succ, List.getD_nil, cond_true, cond_false, Act.put, List.setIfInBounds_toArray, List.set_cons_zero, List.set_cons_succ, h0] at hb
        clear h0
        generalize xv 1 = y1 at *
        generalize xv 8 = y8 at *
        subst hb
        rw [if_pos (by rfl)]
        have HSS := Lib.hid hS
        obtain ⟨g1, e1, hl1⟩ := h1
        subst e1
        clear hS
        refine step_list (ops := #[]) (by rfl) (append_arg wS rfl (.tmp 21) (.tmp 22) 53 rfl B 5 _ _ Tryd.underlying53 Tryd.infoU8 rfl vr b4.length (cellsB b4) rfl h8 (some ⟨g1, 0, none⟩) 1 1 rfl (cellsB [32]) rfl (fun h => by cases h) (fun k u hk => ⟨g1, 0, rfl, by rw [Nat.zero_add, hl1.cell]; rw [← hk]; simp [cellsB]⟩) (by intro q hq; simp [cellsB] at hq; subst hq; rfl) (by unfold maxLen; omega) (by omega) HSS.out.2.2 ?_)
        intro v' w' ho hb hgr
        rw [← cellsB_append] at ho
        exact hK.out _ _ ⟨_, rfl, ⟨HSS.out.1.trans hb, HSS.out.2.1.trans (KeepT.grown h8 hgr), Nat.le_trans HSS.out.2.2 hb.size⟩, (by show World.ownsRow _ _ _ _ _ _ _; rw [List.length_append]; exact ho), AllP.of _ (fun j hj u h => grV_low (all_in (grLow 1) rfl hj) h)⟩
      refine RelySteps.cons (RelyStep.mk [] [0, 1, 2, 5, 6, 8] rfl rfl rfl (fun xv wS hS hV bq hb K hK => ?_)) ?_
      · clear hV
        simp only [putsOf, List.foldl_cons, List.foldl_nil, List.getD_cons_zero, List.getD_cons_succ, List.getD_nil, cond_true, cond_false, Act.put, List.setIfInBounds_toArray, List.set_cons_zero, List.set_cons_succ] at hb
        subst hb
        rw [if_pos (by rfl)]
        go_wp2_with fail
        exact hK.out _ _ ⟨_, rfl, hS, rfl, AllP.same _⟩
      refine RelySteps.cons (RelyStep.mk [3] [0, 1, 2, 6, 8] rfl rfl rfl (fun xv wS hS hV bq hb K hK => ?_)) ?_
      · obtain ⟨h3, _⟩ := hV
        have h3 : xv 3 = _ := h3
        simp only [putsOf, List.foldl_cons, List.foldl_nil, List.getD_cons_zero, List.getD_cons_succ, List.getD_nil, cond_true, cond_false, Act.put, List.setIfInBounds_toArray, List.set_cons_zero, List.set_cons_succ, h3] at hb
        clear h3
        subst hb
        rw [if_pos (by rfl)]
        (have q1 := hS.2.1 _ _ _ (by decide) HL1.out; have c1 := (q1.cell 2).trans (show _ = some (Value.int .i64 (rn : Int)) from rfl); have c2 := q1.lt; clear q1)
        go_wp2_with fail
        exact hK.out _ _ ⟨_, rfl, hS, rfl, AllP.same _⟩
      refine RelySteps.cons (RelyStep.mk [4] [0, 1, 2, 8] rfl rfl rfl (fun xv wS hS hV bq hb K hK => ?_)) ?_
      · obtain ⟨h4, _⟩ := hV
        have h4 : xv 4 = _ := h4
        simp only [putsOf, List.foldl_cons, List.foldl_nil, List.getD_cons_zero, List.getD_cons_succ, List.getD_nil, cond_true, cond_false, Act.put, List.setIfInBounds_toArray, List.set_cons_zero, List.set_cons_succ, h4] at hb
        clear h4
        subst hb
        rw [if_pos (by rfl)]
        (have hcv : IntKind.u64.wrap (rn : Int) = (rn : Int) := by rw [IntKind.wrap_u64]; omega)
        go_wp2_with fail
        exact hK.out _ _ ⟨_, rfl, hS, rfl, AllP.same _⟩
      refine RelySteps.cons (RelyStep.mk [2, 5] [] rfl rfl rfl (fun xv wS hS hV bq hb K hK => ?_)) ?_
      · obtain ⟨h2, h5, _⟩ := hV
        have h5 : xv 5 = _ := h5
        simp only [putsOf, List.foldl_cons, List.foldl_nil, List.getD_cons_zero, List.getD_cons_succ, List.getD_nil, cond_true, cond_false, Act.put, List.setIfInBounds_toArray, List.set_cons_zero, List.set_cons_succ, h5] at hb
        generalize xv 2 = y2 at *
        clear h5
        subst hb
        rw [if_pos (by rfl)]
        have HSS := Lib.hid hS
        have H2 := Lib.hid h2
        clear hS h2
        go_wp2_with fail
        refine (growNumber_any B 19 rn (b4 ++ [32]) _ _ (pow19 (by omega)) (by omega) (by omega) (by rw [List.length_append]; simp; omega) H2.out HSS.out.2.2).mono ?_
        rintro e w' ⟨v', rfl, ho, hb, hk⟩
        exact hK.out _ _ ⟨_, rfl, ⟨HSS.out.1.trans hb, HSS.out.2.1.trans hk, Nat.le_trans HSS.out.2.2 hb.size⟩, ho, AllP.of _ (fun j hj u h => grV_low (all_in (grLow 1) rfl hj) h)⟩
      refine RelySteps.cons (RelyStep.mk [6] [] rfl rfl rfl (fun xv wS hS hV bq hb K hK => ?_)) ?_
      · obtain ⟨h6, _⟩ := hV
        simp only [putsOf, List.foldl_cons, List.foldl_nil, List.getD_cons_zero, List.getD_cons_succ, List.getD_nil, cond_true, cond_false, Act.put, List.setIfInBounds_toArray, List.set_cons_zero, List.set_cons_succ] at hb
        generalize xv 6 = y6 at *
        subst hb
        rw [if_pos (by rfl)]
        have HSS := Lib.hid hS
        have H6 := Lib.hid h6
        clear hS h6
        go_wp2_with fail
        exact hK.out _ _ ⟨_, rfl, HSS.out, H6.out, AllP.same _⟩
      exact RelySteps.nil
    case rE =>
      intro xv wE hS hV
      have h7 := hV 7 (by decide) (by decide)
      clear hV
      simp only [putsOf, List.foldl_cons, List.foldl_nil, List.getD_cons_zero, List.getD_cons_succ, List.getD_nil, cond_true, cond_false, Act.put, List.setIfInBounds_toArray, List.set_cons_zero, List.set_cons_succ]
      generalize xv 0 = y0 at *
      generalize xv 1 = y1 at *
      generalize xv 2 = y2 at *
      generalize xv 3 = y3 at *
      generalize xv 4 = y4 at *
      generalize xv 5 = y5 at *
      generalize xv 6 = y6 at *
      generalize xv 7 = y7 at *
      obtain ⟨hbE, hkE, hzE⟩ := hS
      have hoE : wE.ownsRow B 5 1 y7 ((b4 ++ [32]) ++ decE rn).length (cellsB ((b4 ++ [32]) ++ decE rn)) := h7
      obtain ⟨b5, hb5⟩ : ∃ b5, (b4 ++ [32]) ++ decE rn = b5 := ⟨_, rfl⟩
      have HE5 := Lib.hid hb5
      have hl5 : b5.length ≤ 140737488200070 := by rw [← hb5, List.length_append, List.length_append]; simp; omega
      rw [hb5] at hoE
      clear hb5
      have HO5 := Lib.hid hoE
      have HB5 := Lib.hid hbE
      have HK5 := Lib.hid hkE
      have hz5 := hzE
      have HL5 := Lib.hid (hkE _ _ _ (by decide) HL1.out)
      obtain ⟨A9, c9, rfl⟩ := own_sliceD hoE
      clear hoE hbE hkE hzE h7 HO HB HK HZ hll
      have c1 := (HL5.out.cell 1).trans (show _ = some (Value.int .i64 kd) from rfl)
      have cl := HL5.out.lt
      go_wp2_with fail
      refine (HT.out _).mono ?_
      rintro e w' ⟨rfl, rfl⟩
      clear c1 cl
      go_wp2_with fail
      have HO := Lib.hid HO5.out
      have HB := Lib.hid HB5.out
      have HK := Lib.hid HK5.out
      have HZ := Lib.hid hz5
      clear HO5 HB5 HK5 HL5 hz5
      obtain ⟨vr, hvr⟩ : ∃ vr, Value.slice A9 b5.length c9 = vr := ⟨_, rfl⟩
      simp only [hvr] at HO ⊢
      clear hvr
      have hll : b5.length ≤ 140737488200100 := by omega
      refine wp_region_rely (GrS B w w1) (grV B N 3 0 vr b5 tk) [some 31, some 32, some 33, some 34, some 35, some 36, some 0] [[], [], [0, 1, 7], [], [3], [2, 4], [5]] [[], [], [0, 1, 7], [], [3], [0, 1, 2, 3, 4, 7], [0, 1, 2, 3, 4, 5, 7]] [[1, 3, 4, 5, 7], [0, 3, 4, 5, 7], [3, 4], [0, 1, 2, 5, 7], [0, 1, 2, 7], [], []] [0, 1, 2, 3, 4, 5, 6] 8 (by kernel_rfl) (by kernel_rfl) (by kernel_rfl) (by kernel_rfl) ?rS ?rI ?rT ?rE
      case rS => exact ⟨below_drewN HB.out 1, HK.out.trans (KeepT.below (below_drewN (Below.refl _ _) 1)), HZ.out⟩
      case rI =>
        intro j h1 h2
        have h1 : j < 8 := h1
        have h2 : 7 ≤ j := h2
        obtain rfl : j = 7 := by omega
        exact owns_drew HO.out
      case rT =>
        refine RelySteps.cons (RelyStep.mk [] [1, 3, 4, 5, 7] rfl rfl rfl (fun xv wS hS hV bq hb K hK => ?_)) ?_
        · clear hV
          simp only [putsOf, List.foldl_cons, List.foldl_nil, List.getD_cons_zero, List.getD_cons_succ, List.getD_nil, cond_true, cond_false, Act.put, List.setIfInBounds_toArray, List.set_cons_zero, List.set_cons_succ] at hb
          subst hb
          rw [if_pos (by rfl)]
          go_wp2_with fail
          exact hK.out _ _ ⟨_, rfl, hS, rfl, AllP.same _⟩
        refine RelySteps.cons (RelyStep.mk [] [0, 3, 4, 5, 7] rfl rfl rfl (fun xv wS hS hV bq hb K hK => ?_)) ?_
        · clear hV
          simp only [putsOf, List.foldl_cons, List.foldl_nil, List.getD_cons_zero, List.getD_cons_succ, List.getD_nil, cond_true, cond_false, Act.put, List.setIfInBounds_toArray, List.set_cons_zero, List.set_cons_succ] at hb
          subst hb
          rw [if_pos (by rfl)]
          have HSS := Lib.hid hS
          clear hS
          go_wp2_with fail
          exact hK.out _ _ ⟨_, rfl, ⟨HSS.out.1.alloc HSS.out.2.2 _, HSS.out.2.1.trans (KeepT.below ((Below.refl _ _).alloc (Nat.le_refl _) _)), by have := HSS.out.2.2; simp; omega⟩, ⟨_, rfl, Lies.made _ _ _⟩, AllP.of _ (fun j _ u h => grV_alloc _ h)⟩
        refine RelySteps.cons (RelyStep.mk [0, 1, 7] [3, 4] rfl rfl rfl (fun xv wS hS hV bq hb K hK => ?_)) ?_
        · obtain ⟨h0, h1, h7, _⟩ := hV
          have h0 : xv 0 = _ := h0
          simp only [putsOf, List.foldl_cons, List.foldl_nil, List.getD_cons_zero, List.getD_cons_succ, List.getD_nil, cond_true, cond_false, Act.put, List.setIfInBounds_toArray, List.set_cons_zero, List.set_cons_succ, h0] at hb
          clear h0
          generalize xv 1 = y1 at *
          generalize xv 7 = y7 at *
          subst hb
          rw [if_pos (by rfl)]
          have HSS := Lib.hid hS
          obtain ⟨g1, e1, hl1⟩ := h1
          subst e1
          clear hS
          refine step_list (ops := #[]) (by rfl) (append_arg wS rfl (.tmp 31) (.tmp 32) 53 rfl B 5 _ _ Tryd.underlying53 Tryd.infoU8 rfl vr b5.length (cellsB b5) rfl h7 (some ⟨g1, 0, none⟩) 1 1 rfl (cellsB [32]) rfl (fun h => by cases h) (fun k u hk => ⟨g1, 0, rfl, by rw [Nat.zero_add, hl1.cell]; rw [← hk]; simp [cellsB]⟩) (by intro q hq; simp [cellsB] at hq; subst hq; rfl) (by unfold maxLen; omega) (by omega) HSS.out.2.2 ?_)
          intro v' w' ho hb hgr
          rw [← cellsB_append] at ho
          exact hK.out _ _ ⟨_, rfl, ⟨HSS.out.1.trans hb, HSS.out.2.1.trans (KeepT.grown h7 hgr), Nat.le_trans HSS.out.2.2 hb.size⟩, (by show World.ownsRow _ _ _ _ _ _ _; rw [List.length_append]; exact ho), AllP.of _ (fun j hj u h => grV_low (all_in (grLow 0) rfl hj) h)⟩
        refine RelySteps.cons (RelyStep.mk [] [0, 1, 2, 5, 7] rfl rfl rfl (fun xv wS hS hV bq hb K hK => ?_)) ?_
        · clear hV
          simp only [putsOf, List.foldl_cons, List.foldl_nil, List.getD_cons_zero, List.getD_cons_succ, List.getD_nil, cond_true, cond_false, Act.put, List.setIfInBounds_toArray, List.set_cons_zero, List.set_cons_succ] at hb
          subst hb
          rw [if_pos (by rfl)]
          go_wp2_with fail
          exact hK.out _ _ ⟨_, rfl, hS, rfl, AllP.same _⟩
        refine RelySteps.cons (RelyStep.mk [3] [0, 1, 2, 7] rfl rfl rfl (fun xv wS hS hV bq hb K hK => ?_)) ?_
        · obtain ⟨h3, _⟩ := hV
          have h3 : xv 3 = _ := h3
          simp only [putsOf, List.foldl_cons, List.foldl_nil, List.getD_cons_zero, List.getD_cons_succ, List.getD_nil, cond_true, cond_false, Act.put, List.setIfInBounds_toArray, List.set_cons_zero, List.set_cons_succ, h3] at hb
          clear h3
          subst hb
          rw [if_pos (by rfl)]
          (have q1 := hS.2.1 _ _ _ (by decide) HL1.out; have c1 := (q1.cell 3).trans (show _ = some (Value.int .u64 (tk : Int)) from rfl); have c2 := q1.lt; clear q1)
          go_wp2_with fail
          exact hK.out _ _ ⟨_, rfl, hS, rfl, AllP.same _⟩
        refine RelySteps.cons (RelyStep.mk [2, 4] [] rfl rfl rfl (fun xv wS hS hV bq hb K hK => ?_)) ?_
        · obtain ⟨h2, h4, _⟩ := hV
          have h4 : xv 4 = _ := h4
          simp only [putsOf, List.foldl_cons, List.foldl_nil, List.getD_cons_zero, List.getD_cons_succ, List.getD_nil, cond_true, cond_false, Act.put, List.setIfInBounds_toArray, List.set_cons_zero, List.set_cons_succ, h4] at hb
          generalize xv 2 = y2 at *
          clear h4
          subst hb
          rw [if_pos (by rfl)]
          have HSS := Lib.hid hS
          have H2 := Lib.hid h2
          clear hS h2
          go_wp2_with fail
          refine (growNumber_any B 19 tk (b5 ++ [32]) _ _ (pow19 (by omega)) (by omega) (by omega) (by rw [List.length_append]; simp; omega) H2.out HSS.out.2.2).mono ?_
          rintro e w' ⟨v', rfl, ho, hb, hk⟩
          exact hK.out _ _ ⟨_, rfl, ⟨HSS.out.1.trans hb, HSS.out.2.1.trans hk, Nat.le_trans HSS.out.2.2 hb.size⟩, ho, AllP.of _ (fun j hj u h => grV_low (all_in (grLow 0) rfl hj) h)⟩
        refine RelySteps.cons (RelyStep.mk [5] [] rfl rfl rfl (fun xv wS hS hV bq hb K hK => ?_)) ?_
        · obtain ⟨h5, _⟩ := hV
          simp only [putsOf, List.foldl_cons, List.foldl_nil, List.getD_cons_zero, List.getD_cons_succ, List.getD_nil, cond_true, cond_false, Act.put, List.setIfInBounds_toArray, List.set_cons_zero, List.set_cons_succ] at hb
          generalize xv 5 = y5 at *
          subst hb
          rw [if_pos (by rfl)]
          have HSS := Lib.hid hS
          have H6 := Lib.hid h5
          clear hS h5
          go_wp2_with fail
          exact hK.out _ _ ⟨_, rfl, HSS.out, H6.out, AllP.same _⟩
        exact RelySteps.nil
      case rE =>
        intro xv wE hS hV
        have h6 := hV 6 (by decide) (by decide)
        clear hV
        simp only [putsOf, List.foldl_cons, List.foldl_nil, List.getD_cons_zero, List.getD_cons_succ, List.getD_nil, cond_true, cond_false, Act.put, List.setIfInBounds_toArray, List.set_cons_zero, List.set_cons_succ]
        generalize xv 0 = y0 at *
        generalize xv 1 = y1 at *
        generalize xv 2 = y2 at *
        generalize xv 3 = y3 at *
        generalize xv 4 = y4 at *
        generalize xv 5 = y5 at *
        generalize xv 6 = y6 at *
        obtain ⟨hbE, hkE, hzE⟩ := hS
        have hoE : wE.ownsRow B 5 1 y6 ((b5 ++ [32]) ++ decE tk).length (cellsB ((b5 ++ [32]) ++ decE tk)) := h6
        obtain ⟨b6, hb6⟩ : ∃ b6, (b5 ++ [32]) ++ decE tk = b6 := ⟨_, rfl⟩
        have HE6 := Lib.hid hb6
        have hl6 : b6.length ≤ 140737488200100 := by rw [← hb6, List.length_append, List.length_append]; simp; omega
        rw [hb6] at hoE
        clear hb6
        have HO6 := Lib.hid hoE
        have HB6 := Lib.hid hbE
        have HK6 := Lib.hid hkE
        have hz6 := hzE
        have HL6 := Lib.hid (hkE _ _ _ (by decide) HL1.out)
        obtain ⟨A9, c9, rfl⟩ := own_sliceD hoE
        clear hoE hbE hkE hzE h6 HO HB HK HZ hll
        have c1 := (HL6.out.cell 1).trans (show _ = some (Value.int .i64 kd) from rfl)
        have cl := HL6.out.lt
        go_wp2_with fail
        refine (HV.out _).mono ?_
        rintro e w' ⟨rfl, rfl⟩
        clear c1 cl
        go_wp2
        go_ret
        exact ⟨_, rfl, (by rw [show bs ++ lineE ⟨tn, kd, rn, tk, vl⟩ = b6 from by rw [HLN.out, ← HE6.out, ← HE5.out, ← HE4.out]; simp]; exact HO6.out), HB6.out, HK0.out.trans HK6.out⟩
  · have c1 := (HL4.out.cell 1).trans (show _ = some (Value.int .i64 kd) from rfl)
    have cl := HL4.out.lt
    go_wp2_with fail
    refine (HR.out _).mono ?_
    rintro e w' ⟨rfl, rfl⟩
    clear c1 cl
    go_wp2_with fail
    have HO := Lib.hid HO4.out
    have HB := Lib.hid HB4.out
    have HK := Lib.hid HK4.out
    have HZ := Lib.hid hz4
    clear HO4 HB4 HK4 HL4 hz4
    obtain ⟨vr, hvr⟩ : ∃ vr, Value.slice A9 b4.length c9 = vr := ⟨_, rfl⟩
    simp only [hvr] at HO ⊢
    clear hvr
    have hll : b4.length ≤ 140737488200100 := by omega
    refine wp_region_rely (GrS B w w1) (grV B N 2 1 vr b4 rn) [some 21, some 22, some 23, some 24, some 25, some 26, some 27, some 0] [[], [], [0, 1, 8], [], [3], [4], [2, 5], [6]] [[], [], [0, 1, 8], [], [3], [3, 4], [0, 1, 2, 4, 5, 8], [0, 1, 2, 3, 4, 5, 6, 8]] [[1, 3, 4, 5, 6, 8], [0, 3, 4, 5, 6, 8], [3, 4, 5], [0, 1, 2, 5, 6, 8], [0, 1, 2, 6, 8], [0, 1, 2, 8], [], []] [0, 1, 2, 3, 4, 5, 6, 7] 9 (by kernel_rfl) (by kernel_rfl) (by kernel_rfl) (by kernel_rfl) ?rS ?rI ?rT ?rE
    case rS => exact ⟨below_drewN HB.out 1, HK.out.trans (KeepT.below (below_drewN (Below.refl _ _) 1)), HZ.out⟩
    case rI =>
      intro j h1 h2
      have h1 : j < 9 := h1
      have h2 : 8 ≤ j := h2
      obtain rfl : j = 8 := by omega
      exact owns_drew HO.out
    case rT =>
      refine RelySteps.cons (RelyStep.mk [] [1, 3, 4, 5, 6, 8] rfl rfl rfl (fun xv wS hS hV bq hb K hK => ?_)) ?_
      · clear hV
        simp only [putsOf, List.foldl_cons, List.foldl_nil, List.getD_cons_zero, List.getD_cons_succ, List.getD_nil, cond_true, cond_false, Act.put, List.setIfInBounds_toArray, List.set_cons_zero, List.set_cons_succ] at hb
        subst hb
        rw [if_pos (by rfl)]
        go_wp2_with fail
        exact hK.out _ _ ⟨_, rfl, hS, rfl, AllP.same _⟩
      refine RelySteps.cons (RelyStep.mk [] [0, 3, 4, 5, 6, 8] rfl rfl rfl (fun xv wS hS hV bq hb K hK => ?_)) ?_
      · clear hV
        simp only [putsOf, List.foldl_cons, List.foldl_nil, List.getD_cons_zero, List.getD_cons_succ, List.getD_nil, cond_true, cond_false, Act.put, List.setIfInBounds_toArray, List.set_cons_zero, List.set_cons_succ] at hb
        subst hb
        rw [if_pos (by rfl)]
        have HSS := Lib.hid hS
        clear hS
        go_wp2_with fail
        exact hK.out _ _ ⟨_, rfl, ⟨HSS.out.1.alloc HSS.out.2.2 _, HSS.out.2.1.trans (KeepT.below ((Below.refl _ _).alloc (Nat.le_refl _) _)), by have := HSS.out.2.2; simp; omega⟩, ⟨_, rfl, Lies.made _ _ _⟩, AllP.of _ (fun j _ u h => grV_alloc _ h)⟩
      refine RelySteps.cons (RelyStep.mk [0, 1, 8] [3, 4, 5] rfl rfl rfl (fun xv wS hS hV bq hb K hK => ?_)) ?_
      · obtain ⟨h0, h1, h8, _⟩ := hV
        have h0 : xv 0 = _ := h0
        simp only [putsOf, List.foldl_cons, List.foldl_nil, List.getD_cons_zero, List.getD_cons_succ, List.getD_nil, cond_true, cond_false, Act.put, List.setIfInBounds_toArray, List.set_cons_zero, List.set_cons_succ, h0] at hb
        clear h0
        generalize xv 1 = y1 at *
        generalize xv 8 = y8 at *
        subst hb
        rw [if_pos (by rfl)]
        have HSS := Lib.hid hS
        obtain ⟨g1, e1, hl1⟩ := h1
        subst e1
        clear hS
        refine step_list (ops := #[]) (by rfl) (append_arg wS rfl (.tmp 21) (.tmp 22) 53 rfl B 5 _ _ Tryd.underlying53 Tryd.infoU8 rfl vr b4.length (cellsB b4) rfl h8 (some ⟨g1, 0, none⟩) 1 1 rfl (cellsB [32]) rfl (fun h => by cases h) (fun k u hk => ⟨g1, 0, rfl, by rw [Nat.zero_add, hl1.cell]; rw [← hk]; simp [cellsB]⟩) (by intro q hq; simp [cellsB] at hq; subst hq; rfl) (by unfold maxLen; omega) (by omega) HSS.out.2.2 ?_)
        intro v' w' ho hb hgr
        rw [← cellsB_append] at ho
        exact hK.out _ _ ⟨_, rfl, ⟨HSS.out.1.trans hb, HSS.out.2.1.trans (KeepT.grown h8 hgr), Nat.le_trans HSS.out.2.2 hb.size⟩, (by show World.ownsRow _ _ _ _ _ _ _; rw [List.length_append]; exact ho), AllP.of _ (fun j hj u h => grV_low (all_in (grLow 1) rfl hj) h)⟩
      refine RelySteps.cons (RelyStep.mk [] [0, 1, 2, 5, 6, 8] rfl rfl rfl (fun xv wS hS hV bq hb K hK => ?_)) ?_
      · clear hV
        simp only [putsOf, List.foldl_cons, List.foldl_nil, List.getD_cons_zero, List.getD_cons_succ, List.getD_nil, cond_true, cond_false, Act.put, List.setIfInBounds_toArray, List.set_cons_zero, List.set_cons_succ] at hb
        subst hb
        rw [if_pos (by rfl)]
        go_wp2_with fail
        exact hK.out _ _ ⟨_, rfl, hS, rfl, AllP.same _⟩
      refine RelySteps.cons (RelyStep.mk [3] [0, 1, 2, 6, 8] rfl rfl rfl (fun xv wS hS hV bq hb K hK => ?_)) ?_
      · obtain ⟨h3, _⟩ := hV
        have h3 : xv 3 = _ := h3
        simp only [putsOf, List.foldl_cons, List.foldl_nil, List.getD_cons_zero, List.getD_cons_succ, List.getD_nil, cond_true, cond_false, Act.put, List.setIfInBounds_toArray, List.set_cons_zero, List.set_cons_succ, h3] at hb
        clear h3
        subst hb
        rw [if_pos (by rfl)]
        (have q1 := hS.2.1 _ _ _ (by decide) HL1.out; have c1 := (q1.cell 2).trans (show _ = some (Value.int .i64 (rn : Int)) from rfl); have c2 := q1.lt; clear q1)
        go_wp2_with fail
        exact hK.out _ _ ⟨_, rfl, hS, rfl, AllP.same _⟩
      refine RelySteps.cons (RelyStep.mk [4] [0, 1, 2, 8] rfl rfl rfl (fun xv wS hS hV bq hb K hK => ?_)) ?_
      · obtain ⟨h4, _⟩ := hV
        have h4 : xv 4 = _ := h4
        simp only [putsOf, List.foldl_cons, List.foldl_nil, List.getD_cons_zero, List.getD_cons_succ, List.getD_nil, cond_true, cond_false, Act.put, List.setIfInBounds_toArray, List.set_cons_zero, List.set_cons_succ, h4] at hb
        clear h4
        subst hb
        rw [if_pos (by rfl)]
        (have hcv : IntKind.u64.wrap (rn : Int) = (rn : Int) := by rw [IntKind.wrap_u64]; omega)
        go_wp2_with fail
        exact hK.out _ _ ⟨_, rfl, hS, rfl, AllP.same _⟩
      refine RelySteps.cons (RelyStep.mk [2, 5] [] rfl rfl rfl (fun xv wS hS hV bq hb K hK => ?_)) ?_
      · obtain ⟨h2, h5, _⟩ := hV
        have h5 : xv 5 = _ := h5
        simp only [putsOf, List.foldl_cons, List.foldl_nil, List.getD_cons_zero, List.getD_cons_succ, List.getD_nil, cond_true, cond_false, Act.put, List.setIfInBounds_toArray, List.set_cons_zero, List.set_cons_succ, h5] at hb
        generalize xv 2 = y2 at *
        clear h5
        subst hb
        rw [if_pos (by rfl)]
        have HSS := Lib.hid hS
        have H2 := Lib.hid h2
        clear hS h2
        go_wp2_with fail
        refine (growNumber_any B 19 rn (b4 ++ [32]) _ _ (pow19 (by omega)) (by omega) (by omega) (by rw [List.length_append]; simp; omega) H2.out HSS.out.2.2).mono ?_
        rintro e w' ⟨v', rfl, ho, hb, hk⟩
        exact hK.out _ _ ⟨_, rfl, ⟨HSS.out.1.trans hb, HSS.out.2.1.trans hk, Nat.le_trans HSS.out.2.2 hb.size⟩, ho, AllP.of _ (fun j hj u h => grV_low (all_in (grLow 1) rfl hj) h)⟩
      refine RelySteps.cons (RelyStep.mk [6] [] rfl rfl rfl (fun xv wS hS hV bq hb K hK => ?_)) ?_
      · obtain ⟨h6, _⟩ := hV
        simp only [putsOf, List.foldl_cons, List.foldl_nil, List.getD_cons_zero, List.getD_cons_succ, List.getD_nil, cond_true, cond_false, Act.put, List.setIfInBounds_toArray, List.set_cons_zero, List.set_cons_succ] at hb
        generalize xv 6 = y6 at *
        subst hb
        rw [if_pos (by rfl)]
        have HSS := Lib.hid hS
        have H6 := Lib.hid h6
        clear hS h6
        go_wp2_with fail
        exact hK.out _ _ ⟨_, rfl, HSS.out, H6.out, AllP.same _⟩
      exact RelySteps.nil
    case rE =>
      intro xv wE hS hV
      have h7 := hV 7 (by decide) (by decide)
      clear hV
      simp only [putsOf, List.foldl_cons, List.foldl_nil, List.getD_cons_zero, List.getD_cons_succ, List.getD_nil, cond_true, cond_false, Act.put, List.setIfInBounds_toArray, List.set_cons_zero, List.set_cons_succ]
      generalize xv 0 = y0 at *
      generalize xv 1 = y1 at *
      generalize xv 2 = y2 at *
      generalize xv 3 = y3 at *
      generalize xv 4 = y4 at *
      generalize xv 5 = y5 at *
      generalize xv 6 = y6 at *
      generalize xv 7 = y7 at *
      obtain ⟨hbE, hkE, hzE⟩ := hS
      have hoE : wE.ownsRow B 5 1 y7 ((b4 ++ [32]) ++ decE rn).length (cellsB ((b4 ++ [32]) ++ decE rn)) := h7
      obtain ⟨b5, hb5⟩ : ∃ b5, (b4 ++ [32]) ++ decE rn = b5 := ⟨_, rfl⟩
      have HE5 := Lib.hid hb5
      have hl5 : b5.length ≤ 140737488200070 := by rw [← hb5, List.length_append, List.length_append]; simp; omega
      rw [hb5] at hoE
      clear hb5
      have HO5 := Lib.hid hoE
      have HB5 := Lib.hid hbE
      have HK5 := Lib.hid hkE
      have hz5 := hzE
      have HL5 := Lib.hid (hkE _ _ _ (by decide) HL1.out)
      obtain ⟨A9, c9, rfl⟩ := own_sliceD hoE
      clear hoE hbE hkE hzE h7 HO HB HK HZ hll
      have c1 := (HL5.out.cell 1).trans (show _ = some (Value.int .i64 kd) from rfl)
      have cl := HL5.out.lt
      go_wp2_with fail
      refine (HT.out _).mono ?_
      rintro e w' ⟨rfl, rfl⟩
      clear c1 cl
      have c1 := (HL5.out.cell 1).trans (show _ = some (Value.int .i64 kd) from rfl)
      have cl := HL5.out.lt
      go_wp2_with fail
      refine (HV.out _).mono ?_
      rintro e w' ⟨rfl, rfl⟩
      clear c1 cl
      go_wp2
      go_ret
      exact ⟨_, rfl, (by rw [show bs ++ lineE ⟨tn, kd, rn, tk, vl⟩ = b5 from by rw [HLN.out, ← HE5.out, ← HE4.out]; simp]; exact HO5.out), HB5.out, HK0.out.trans HK5.out⟩
  · have c1 := (HL4.out.cell 1).trans (show _ = some (Value.int .i64 kd) from rfl)
    have cl := HL4.out.lt
    go_wp2_with fail
    refine (HR.out _).mono ?_
    rintro e w' ⟨rfl, rfl⟩
    clear c1 cl
    have c1 := (HL4.out.cell 1).trans (show _ = some (Value.int .i64 kd) from rfl)
    have cl := HL4.out.lt
    go_wp2_with fail
    refine (HT.out _).mono ?_
    rintro e w' ⟨rfl, rfl⟩
    clear c1 cl
    have c1 := (HL4.out.cell 1).trans (show _ = some (Value.int .i64 kd) from rfl)
    have cl := HL4.out.lt
    go_wp2_with fail
    refine (HV.out _).mono ?_
    rintro e w' ⟨rfl, rfl⟩
    clear c1 cl
    go_wp2_with fail
    have HO := Lib.hid HO4.out
    have HB := Lib.hid HB4.out
    have HK := Lib.hid HK4.out
    have HZ := Lib.hid hz4
    clear HO4 HB4 HK4 HL4 hz4
    obtain ⟨vr, hvr⟩ : ∃ vr, Value.slice A9 b4.length c9 = vr := ⟨_, rfl⟩
    simp only [hvr] at HO ⊢
    clear hvr
    have hll : b4.length ≤ 140737488200100 := by omega
    refine wp_region_rely (GrS B w w1) (grV B N 4 0 vr b4 vl) [some 40, some 41, some 42, some 43, some 44, some 45, some 0] [[], [], [0, 1, 7], [], [3], [2, 4], [5]] [[], [], [0, 1, 7], [], [3], [0, 1, 2, 3, 4, 7], [0, 1, 2, 3, 4, 5, 7]] [[1, 3, 4, 5, 7], [0, 3, 4, 5, 7], [3, 4], [0, 1, 2, 5, 7], [0, 1, 2, 7], [], []] [0, 1, 2, 3, 4, 5, 6] 8 (by kernel_rfl) (by kernel_rfl) (by kernel_rfl) (by kernel_rfl) ?rS ?rI ?rT ?rE
    case rS => exact ⟨below_drewN HB.out 1, HK.out.trans (KeepT.below (below_drewN (Below.refl _ _) 1)), HZ.out⟩
    case rI =>
      intro j h1 h2
      have h1 : j < 8 := h1
      have h2 : 7 ≤ j := h2
      obtain rfl : j = 7 := by omega
      exact owns_drew HO.out
    case rT =>
      refine RelySteps.cons (RelyStep.mk [] [1, 3, 4, 5, 7] rfl rfl rfl (fun xv wS hS hV bq hb K hK => ?_)) ?_
      · clear hV
        simp only [putsOf, List.foldl_cons, List.foldl_nil, List.getD_cons_zero, List.getD_cons_succ, List.getD_nil, cond_true, cond_false, Act.put, List.setIfInBounds_toArray, List.set_cons_zero, List.set_cons_succ] at hb
        subst hb
        rw [if_pos (by rfl)]
        go_wp2_with fail
        exact hK.out _ _ ⟨_, rfl, hS, rfl, AllP.same _⟩
      refine RelySteps.cons (RelyStep.mk [] [0, 3, 4, 5, 7] rfl rfl rfl (fun xv wS hS hV bq hb K hK => ?_)) ?_
      · clear hV
        simp only [putsOf, List.foldl_cons, List.foldl_nil, List.getD_cons_zero, List.getD_cons_succ, List.getD_nil, cond_true, cond_false, Act.put, List.setIfInBounds_toArray, List.set_cons_zero, List.set_cons_succ] at hb
        subst hb
        rw [if_pos (by rfl)]
        have HSS := Lib.hid hS
        clear hS
        go_wp2_with fail
        exact hK.out _ _ ⟨_, rfl, ⟨HSS.out.1.alloc HSS.out.2.2 _, HSS.out.2.1.trans (KeepT.below ((Below.refl _ _).alloc (Nat.le_refl _) _)), by have := HSS.out.2.2; simp; omega⟩, ⟨_, rfl, Lies.made _ _ _⟩, AllP.of _ (fun j _ u h => grV_alloc _ h)⟩
      refine RelySteps.cons (RelyStep.mk [0, 1, 7] [3, 4] rfl rfl rfl (fun xv wS hS hV bq hb K hK => ?_)) ?_
      · obtain ⟨h0, h1, h7, _⟩ := hV
        have h0 : xv 0 = _ := h0
        simp only [putsOf, List.foldl_cons, List.foldl_nil, List.getD_cons_zero, List.getD_cons_succ, List.getD_nil, cond_true, cond_false, Act.put, List.setIfInBounds_toArray, List.set_cons_zero, List.set_cons_succ, h0] at hb
        clear h0
        generalize xv 1 = y1 at *
        generalize xv 7 = y7 at *
        subst hb
        rw [if_pos (by rfl)]
        have HSS := Lib.hid hS
        obtain ⟨g1, e1, hl1⟩ := h1
        subst e1
        clear hS
        refine step_list (ops := #[]) (by rfl) (append_arg wS rfl (.tmp 40) (.tmp 41) 53 rfl B 5 _ _ Tryd.underlying53 Tryd.infoU8 rfl vr b4.length (cellsB b4) rfl h7 (some ⟨g1, 0, none⟩) 1 1 rfl (cellsB [32]) rfl (fun h => by cases h) (fun k u hk => ⟨g1, 0, rfl, by rw [Nat.zero_add, hl1.cell]; rw [← hk]; simp [cellsB]⟩) (by intro q hq; simp [cellsB] at hq; subst hq; rfl) (by unfold maxLen; omega) (by omega) HSS.out.2.2 ?_)
        intro v' w' ho hb hgr
        rw [← cellsB_append] at ho
        exact hK.out _ _ ⟨_, rfl, ⟨HSS.out.1.trans hb, HSS.out.2.1.trans (KeepT.grown h7 hgr), Nat.le_trans HSS.out.2.2 hb.size⟩, (by show World.ownsRow _ _ _ _ _ _ _; rw [List.length_append]; exact ho), AllP.of _ (fun j hj u h => grV_low (all_in (grLow 0) rfl hj) h)⟩
      refine RelySteps.cons (RelyStep.mk [] [0, 1, 2, 5, 7] rfl rfl rfl (fun xv wS hS hV bq hb K hK => ?_)) ?_
      · clear hV
        simp only [putsOf, List.foldl_cons, List.foldl_nil, List.getD_cons_zero, List.getD_cons_succ, List.getD_nil, cond_true, cond_false, Act.put, List.setIfInBounds_toArray, List.set_cons_zero, List.set_cons_succ] at hb
        subst hb
        rw [if_pos (by rfl)]
        go_wp2_with fail
        exact hK.out _ _ ⟨_, rfl, hS, rfl, AllP.same _⟩
      refine RelySteps.cons (RelyStep.mk [3] [0, 1, 2, 7] rfl rfl rfl (fun xv wS hS hV bq hb K hK => ?_)) ?_
      · obtain ⟨h3, _⟩ := hV
        have h3 : xv 3 = _ := h3
        simp only [putsOf, List.foldl_cons, List.foldl_nil, List.getD_cons_zero, List.getD_cons_succ, List.getD_nil, cond_true, cond_false, Act.put, List.setIfInBounds_toArray, List.set_cons_zero, List.set_cons_succ, h3] at hb
        clear h3
        subst hb
        rw [if_pos (by rfl)]
        (have q1 := hS.2.1 _ _ _ (by decide) HL1.out; have c1 := (q1.cell 4).trans (show _ = some (Value.int .u64 (vl : Int)) from rfl); have c2 := q1.lt; clear q1)
        go_wp2_with fail
        exact hK.out _ _ ⟨_, rfl, hS, rfl, AllP.same _⟩
      refine RelySteps.cons (RelyStep.mk [2, 4] [] rfl rfl rfl (fun xv wS hS hV bq hb K hK => ?_)) ?_
      · obtain ⟨h2, h4, _⟩ := hV
        have h4 : xv 4 = _ := h4
        simp only [putsOf, List.foldl_cons, List.foldl_nil, List.getD_cons_zero, List.getD_cons_succ, List.getD_nil, cond_true, cond_false, Act.put, List.setIfInBounds_toArray, List.set_cons_zero, List.set_cons_succ, h4] at hb
        generalize xv 2 = y2 at *
        clear h4
        subst hb
        rw [if_pos (by rfl)]
        have HSS := Lib.hid hS
        have H2 := Lib.hid h2
        clear hS h2
        go_wp2_with fail
        refine (growNumber_any B 19 vl (b4 ++ [32]) _ _ (pow19 (by omega)) (by omega) (by omega) (by rw [List.length_append]; simp; omega) H2.out HSS.out.2.2).mono ?_
        rintro e w' ⟨v', rfl, ho, hb, hk⟩
        exact hK.out _ _ ⟨_, rfl, ⟨HSS.out.1.trans hb, HSS.out.2.1.trans hk, Nat.le_trans HSS.out.2.2 hb.size⟩, ho, AllP.of _ (fun j hj u h => grV_low (all_in (grLow 0) rfl hj) h)⟩
      refine RelySteps.cons (RelyStep.mk [5] [] rfl rfl rfl (fun xv wS hS hV bq hb K hK => ?_)) ?_
      · obtain ⟨h5, _⟩ := hV
        simp only [putsOf, List.foldl_cons, List.foldl_nil, List.getD_cons_zero, List.getD_cons_succ, List.getD_nil, cond_true, cond_false, Act.put, List.setIfInBounds_toArray, List.set_cons_zero, List.set_cons_succ] at hb
        generalize xv 5 = y5 at *
        subst hb
        rw [if_pos (by rfl)]
        have HSS := Lib.hid hS
        have H6 := Lib.hid h5
        clear hS h5
        go_wp2_with fail
        exact hK.out _ _ ⟨_, rfl, HSS.out, H6.out, AllP.same _⟩
      exact RelySteps.nil
    case rE =>
      intro xv wE hS hV
      have h6 := hV 6 (by decide) (by decide)
      clear hV
      simp only [putsOf, List.foldl_cons, List.foldl_nil, List.getD_cons_zero, List.getD_cons_succ, List.getD_nil, cond_true, cond_false, Act.put, List.setIfInBounds_toArray, List.set_cons_zero, List.set_cons_succ]
      generalize xv 0 = y0 at *
      generalize xv 1 = y1 at *
      generalize xv 2 = y2 at *
      generalize xv 3 = y3 at *
      generalize xv 4 = y4 at *
      generalize xv 5 = y5 at *
      generalize xv 6 = y6 at *
      obtain ⟨hbE, hkE, hzE⟩ := hS
      have hoE : wE.ownsRow B 5 1 y6 ((b4 ++ [32]) ++ decE vl).length (cellsB ((b4 ++ [32]) ++ decE vl)) := h6
      obtain ⟨b5, hb5⟩ : ∃ b5, (b4 ++ [32]) ++ decE vl = b5 := ⟨_, rfl⟩
      have HE5 := Lib.hid hb5
      have hl5 : b5.length ≤ 140737488200070 := by rw [← hb5, List.length_append, List.length_append]; simp; omega
      rw [hb5] at hoE
      clear hb5
      have HO5 := Lib.hid hoE
      have HB5 := Lib.hid hbE
      have HK5 := Lib.hid hkE
      have hz5 := hzE
      have HL5 := Lib.hid (hkE _ _ _ (by decide) HL1.out)
      obtain ⟨A9, c9, rfl⟩ := own_sliceD hoE
      clear hoE hbE hkE hzE h6 HO HB HK HZ hll
      go_wp2
      go_ret
      exact ⟨_, rfl, (by rw [show bs ++ lineE ⟨tn, kd, rn, tk, vl⟩ = b5 from by rw [HLN.out, ← HE5.out, ← HE4.out]; simp]; exact HO5.out), HB5.out, HK0.out.trans HK5.out⟩
  · have c1 := (HL4.out.cell 1).trans (show _ = some (Value.int .i64 kd) from rfl)
    have cl := HL4.out.lt
    go_wp2_with fail
    refine (HR.out _).mono ?_
    rintro e w' ⟨rfl, rfl⟩
    clear c1 cl
    have c1 := (HL4.out.cell 1).trans (show _ = some (Value.int .i64 kd) from rfl)
    have cl := HL4.out.lt
    go_wp2_with fail
    refine (HT.out _).mono ?_
    rintro e w' ⟨rfl, rfl⟩
    clear c1 cl
    have c1 := (HL4.out.cell 1).trans (show _ = some (Value.int .i64 kd) from rfl)
    have cl := HL4.out.lt
    go_wp2_with fail
    refine (HV.out _).mono ?_
    rintro e w' ⟨rfl, rfl⟩
    clear c1 cl
    go_wp2
    go_ret
    exact ⟨_, rfl, (by rw [show bs ++ lineE ⟨tn, kd, rn, tk, vl⟩ = b4 from by rw [HLN.out, ← HE4.out]; simp]; exact HO4.out), HB4.out, HK0.out.trans HK4.out⟩
end Go.Proofs.YtndcnflboikodaaDoor
