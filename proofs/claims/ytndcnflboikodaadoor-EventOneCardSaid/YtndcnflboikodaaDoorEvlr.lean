/-
  The document's Line and Print of events (layer 15).
-/
import Derived.Test.YtndcnflboikodaaDoorEvl
import Derived.Test.YtndcnflboikodaaDoorDecr
namespace Go.Proofs.YtndcnflboikodaaDoor
open Go.RowKit
set_option linter.unusedVariables false
set_option linter.unusedSimpArgs false
def rlnV (N tn : Nat) (kd : Int) : Nat → Value → World → Prop
  | 0, v, _ => v = .pointer (some ⟨N, 0, none⟩)
  | 1, v, _ => v = .int .i64 (tn : Int)
  | 2, v, _ => v = .int .u64 (tn : Int)
  | 3, v, _ => v = .string (textB (decE tn))
  | 4, v, _ => v = .string (textB (decE tn ++ [32]))
  | 5, v, _ => v = .pointer (some ⟨N, 1, none⟩)
  | 6, v, _ => v = .int .i64 kd
  | 7, v, _ => v = .string (textB (nameW kd))
  | 8, v, _ => v = .string (textB (decE tn ++ 32 :: nameW kd))
  | 9, v, _ => v = .string (textB (decE tn ++ 32 :: nameW kd))
  | _, _, _ => True
theorem rlnV_any {N tn : Nat} {kd : Int} {w w' : World} {j : Nat} {u : Value} (h : rlnV N tn kd j u w) : rlnV N tn kd j u w' := by
  match j with
  | 0 => exact h
  | 1 => exact h
  | 2 => exact h
  | 3 => exact h
  | 4 => exact h
  | 5 => exact h
  | 6 => exact h
  | 7 => exact h
  | 8 => exact h
  | 9 => exact h
  | _ + 10 => trivial
theorem sum_32 (l : List UInt8) : textB l ++ ⟨#[32]⟩ = textB (l ++ [32]) := text_append l [32]
theorem sum_pre (l : List UInt8) : (⟨#[32]⟩ : ByteArray) ++ textB l = textB (32 :: l) := text_append [32] l
theorem sum_10 (l : List UInt8) : textB l ++ ⟨#[10]⟩ = textB (l ++ [10]) := text_append l [10]
set_option maxHeartbeats 8000000 in
set_option maxRecDepth 100000 in
theorem rfLine15 (x : Ev) (w : World) (h0 : 0 ≤ x.th) (h1 : x.th ≤ 1000) (h2 : 0 ≤ x.rg) (h3 : x.rg ≤ 1000) (h4 : x.tk ≤ 18446744073709551615) (h5 : x.vl ≤ 18446744073709551615) :
    Calls Tryd.prog 13 #[.agg (evC x)] w fun e w' => e = .returned (.string (textB (lineE x))) ∧ Below w.heap.size w w' := by
  obtain ⟨th, kd, rg, tk, vl⟩ := x
  simp only at h0 h1 h2 h3 h4 h5
  obtain ⟨tn, rfl⟩ : ∃ tn : Nat, th = tn := ⟨th.toNat, by omega⟩
  obtain ⟨rn, rfl⟩ : ∃ rn : Nat, rg = rn := ⟨rg.toNat, by omega⟩
  have HLN := Lib.hid (lineE_is ⟨tn, kd, rn, tk, vl⟩)
  simp only [Int.toNat_natCast] at HLN
  have hb0 : Below w.heap.size w (w.alloc (.cells (evC ⟨tn, kd, rn, tk, vl⟩) 24)) := (Below.refl _ _).alloc (Nat.le_refl _) _
  have l0 := Lies.made w 24 (evC ⟨tn, kd, rn, tk, vl⟩)
  have HB := Lib.hid hb0
  have HL := Lib.hid l0
  have HKA := Lib.hid (kinds_apart kd)
  have hnl := nameW_size kd
  have hdl := decE_length tn
  have hdr := decE_length rn
  have hdt := decE_length tk
  have hdv := decE_length vl
  have hw1 : IntKind.u64.wrap (tn : Int) = (tn : Int) := by rw [IntKind.wrap_u64]; omega
  have HNM := Lib.hid (nameW_text kd)
  obtain ⟨N, hN⟩ : ∃ N, w.heap.size = N := ⟨_, rfl⟩
  have HNN := Lib.hid hN
  rw [hN] at HL
  clear l0 hb0
  go_enter Tryd.func13, Tryd.ntmps13
  go_wp2_with fail
  try simp only [hN]
  clear hN
  generalize w.alloc (.cells (evC ⟨tn, kd, rn, tk, vl⟩) 24) = w1 at *
  refine wp_region_rely (fun q => Below w.heap.size w q ∧ Below w1.heap.size w1 q) (rlnV N tn kd) [some 5, some 6, some 7, some 8, some 9, some 10, some 11, some 12, some 13, some 3] [[], [0], [1], [2], [3], [], [5], [6], [4, 7], [8]] [[], [0], [0, 1], [1, 2], [2, 3], [], [5], [2, 5, 6], [3, 4, 6, 7], [0, 1, 2, 3, 4, 5, 6, 7, 8]] [[2, 3, 4, 5, 6, 7, 8], [3, 4, 5, 6, 7, 8], [4, 5, 6, 7, 8], [5, 6, 8], [0, 5, 6, 7], [0, 1, 2, 3, 4, 7, 8], [0, 1, 2, 3, 4, 8], [0, 3, 4], [0, 1], []] [0, 1, 2, 3, 4, 5, 6, 7, 8, 9] 10 (by kernel_rfl) (by kernel_rfl) (by kernel_rfl) (by kernel_rfl) ?rS (fun j h1 h2 => absurd (Nat.lt_of_lt_of_le h1 (Nat.le_trans (by decide) h2)) (Nat.lt_irrefl _)) ?rT ?rE
  case rS => exact ⟨below_drewN HB.out 1, below_drewN (Below.refl _ _) 1⟩
  case rT =>
    refine RelySteps.cons (RelyStep.mk [] [2, 3, 4, 5, 6, 7, 8] rfl rfl rfl (fun xv wS hS hV bq hb K hK => ?_)) ?_
    · clear hV
      simp only [putsOf, List.foldl_cons, List.foldl_nil, List.getD_cons_zero, List.getD_cons_succ, List.getD_nil, cond_true, cond_false, Act.put, List.setIfInBounds_toArray, List.set_cons_zero, List.set_cons_succ] at hb
      subst hb
      rw [if_pos (by rfl)]
      go_wp2_with fail
      exact hK.out _ _ ⟨_, rfl, hS, rfl, AllP.same _⟩
    refine RelySteps.cons (RelyStep.mk [0] [3, 4, 5, 6, 7, 8] rfl rfl rfl (fun xv wS hS hV bq hb K hK => ?_)) ?_
    · obtain ⟨h0, _⟩ := hV
      have h0 : xv 0 = _ := h0
      simp only [putsOf, List.foldl_cons, List.foldl_nil, List.getD_cons_zero, List.getD_cons_succ, List.getD_nil, cond_true, cond_false, Act.put, List.setIfInBounds_toArray, List.set_cons_zero, List.set_cons_succ, h0] at hb
      clear h0
      subst hb
      rw [if_pos (by rfl)]
      (have q1 := HL.out.below hS.2 HL.out.lt; have c1 := (q1.cell 0).trans (show _ = some (Value.int .i64 (tn : Int)) from rfl); have c2 := q1.lt; clear q1)
      go_wp2_with fail
      exact hK.out _ _ ⟨_, rfl, hS, rfl, AllP.same _⟩
    refine RelySteps.cons (RelyStep.mk [1] [4, 5, 6, 7, 8] rfl rfl rfl (fun xv wS hS hV bq hb K hK => ?_)) ?_
    · obtain ⟨h1, _⟩ := hV
      have h1 : xv 1 = _ := h1
      simp only [putsOf, List.foldl_cons, List.foldl_nil, List.getD_cons_zero, List.getD_cons_succ, List.getD_nil, cond_true, cond_false, Act.put, List.setIfInBounds_toArray, List.set_cons_zero, List.set_cons_succ, h1] at hb
      clear h1
      subst hb
      rw [if_pos (by rfl)]
      go_wp2_with fail
      exact hK.out _ _ ⟨_, rfl, hS, rfl, AllP.same _⟩
    refine RelySteps.cons (RelyStep.mk [2] [5, 6, 8] rfl rfl rfl (fun xv wS hS hV bq hb K hK => ?_)) ?_
    · obtain ⟨h2, _⟩ := hV
      have h2 : xv 2 = _ := h2
      simp only [putsOf, List.foldl_cons, List.foldl_nil, List.getD_cons_zero, List.getD_cons_succ, List.getD_nil, cond_true, cond_false, Act.put, List.setIfInBounds_toArray, List.set_cons_zero, List.set_cons_succ, h2] at hb
      clear h2
      subst hb
      rw [if_pos (by rfl)]
      have HSS := Lib.hid hS
      clear hS
      go_wp2_with fail
      refine (rfNumber tn wS (by omega)).mono ?_
      rintro e w' ⟨rfl, hb⟩
      exact hK.out _ _ ⟨_, rfl, ⟨HSS.out.1.trans (hb.mono HSS.out.1.size), HSS.out.2.trans (hb.mono HSS.out.2.size)⟩, rfl, AllP.of _ (fun j _ u h => rlnV_any h)⟩
    refine RelySteps.cons (RelyStep.mk [3] [0, 5, 6, 7] rfl rfl rfl (fun xv wS hS hV bq hb K hK => ?_)) ?_
    · obtain ⟨h3, _⟩ := hV
      have h3 : xv 3 = _ := h3
      simp only [putsOf, List.foldl_cons, List.foldl_nil, List.getD_cons_zero, List.getD_cons_succ, List.getD_nil, cond_true, cond_false, Act.put, List.setIfInBounds_toArray, List.set_cons_zero, List.set_cons_succ, h3] at hb
      clear h3
      subst hb
      rw [if_pos (by rfl)]
      have HSS := Lib.hid hS
      have hsm := sum_32 (decE tn)
      have hsz : ¬ 9223372036854775807 < (textB (decE tn)).size + 1 := by rw [textB_size]; omega
      clear hS
      go_wp2_with fail
      exact hK.out _ _ ⟨_, rfl, HSS.out, rfl, AllP.same _⟩
    refine RelySteps.cons (RelyStep.mk [] [0, 1, 2, 3, 4, 7, 8] rfl rfl rfl (fun xv wS hS hV bq hb K hK => ?_)) ?_
    · clear hV
      simp only [putsOf, List.foldl_cons, List.foldl_nil, List.getD_cons_zero, List.getD_cons_succ, List.getD_nil, cond_true, cond_false, Act.put, List.setIfInBounds_toArray, List.set_cons_zero, List.set_cons_succ] at hb
      subst hb
      rw [if_pos (by rfl)]
      go_wp2_with fail
      exact hK.out _ _ ⟨_, rfl, hS, rfl, AllP.same _⟩
    refine RelySteps.cons (RelyStep.mk [5] [0, 1, 2, 3, 4, 8] rfl rfl rfl (fun xv wS hS hV bq hb K hK => ?_)) ?_
    · obtain ⟨h5, _⟩ := hV
      have h5 : xv 5 = _ := h5
      simp only [putsOf, List.foldl_cons, List.foldl_nil, List.getD_cons_zero, List.getD_cons_succ, List.getD_nil, cond_true, cond_false, Act.put, List.setIfInBounds_toArray, List.set_cons_zero, List.set_cons_succ, h5] at hb
      clear h5
      subst hb
      rw [if_pos (by rfl)]
      (have q1 := HL.out.below hS.2 HL.out.lt; have c1 := (q1.cell 1).trans (show _ = some (Value.int .i64 kd) from rfl); have c2 := q1.lt; clear q1)
      go_wp2_with fail
      exact hK.out _ _ ⟨_, rfl, hS, rfl, AllP.same _⟩
    refine RelySteps.cons (RelyStep.mk [6] [0, 3, 4] rfl rfl rfl (fun xv wS hS hV bq hb K hK => ?_)) ?_
    · obtain ⟨h6, _⟩ := hV
      have h6 : xv 6 = _ := h6
      simp only [putsOf, List.foldl_cons, List.foldl_nil, List.getD_cons_zero, List.getD_cons_succ, List.getD_nil, cond_true, cond_false, Act.put, List.setIfInBounds_toArray, List.set_cons_zero, List.set_cons_succ, h6] at hb
      clear h6
      subst hb
      rw [if_pos (by rfl)]
      have HSS := Lib.hid hS
      clear hS
      go_wp2_with fail
      refine (rfEvName kd wS).mono ?_
      rintro e w' ⟨rfl, hb⟩
      exact hK.out _ _ ⟨_, rfl, ⟨HSS.out.1.trans (hb.mono HSS.out.1.size), HSS.out.2.trans (hb.mono HSS.out.2.size)⟩, (by show Value.string _ = Value.string _; rw [HNM.out]), AllP.of _ (fun j _ u h => rlnV_any h)⟩
    refine RelySteps.cons (RelyStep.mk [4, 7] [0, 1] rfl rfl rfl (fun xv wS hS hV bq hb K hK => ?_)) ?_
    · obtain ⟨h4, h7, _⟩ := hV
      have h4 : xv 4 = _ := h4
      have h7 : xv 7 = _ := h7
      simp only [putsOf, List.foldl_cons, List.foldl_nil, List.getD_cons_zero, List.getD_cons_succ, List.getD_nil, cond_true, cond_false, Act.put, List.setIfInBounds_toArray, List.set_cons_zero, List.set_cons_succ, h4, h7] at hb
      clear h4
      clear h7
      subst hb
      rw [if_pos (by rfl)]
      have HSS := Lib.hid hS
      have hsm : textB (decE tn ++ [32]) ++ textB (nameW kd) = textB (decE tn ++ 32 :: nameW kd) := by rw [text_append]; simp
      have hsz : ¬ 9223372036854775807 < (textB (decE tn ++ [32])).size + (textB (nameW kd)).size := by rw [textB_size, textB_size]; simp; omega
      clear hS
      go_wp2_with fail
      exact hK.out _ _ ⟨_, rfl, HSS.out, rfl, AllP.same _⟩
    refine RelySteps.cons (RelyStep.mk [8] [] rfl rfl rfl (fun xv wS hS hV bq hb K hK => ?_)) ?_
    · obtain ⟨h8, _⟩ := hV
      have h8 : xv 8 = _ := h8
      simp only [putsOf, List.foldl_cons, List.foldl_nil, List.getD_cons_zero, List.getD_cons_succ, List.getD_nil, cond_true, cond_false, Act.put, List.setIfInBounds_toArray, List.set_cons_zero, List.set_cons_succ, h8] at hb
      clear h8
      subst hb
      rw [if_pos (by rfl)]
      go_wp2_with fail
      exact hK.out _ _ ⟨_, rfl, hS, rfl, AllP.same _⟩
    exact RelySteps.nil
  case rE =>
    intro xv wE hS hV
    have h9 := hV 9 (by decide) (by decide)
    clear hV
    simp only [putsOf, List.foldl_cons, List.foldl_nil, List.getD_cons_zero, List.getD_cons_succ, List.getD_nil, cond_true, cond_false, Act.put, List.setIfInBounds_toArray, List.set_cons_zero, List.set_cons_succ]
    have h9 : xv 9 = _ := h9
    rw [h9]; clear h9
    generalize xv 0 = y0 at *
    generalize xv 1 = y1 at *
    generalize xv 2 = y2 at *
    generalize xv 3 = y3 at *
    generalize xv 4 = y4 at *
    generalize xv 5 = y5 at *
    generalize xv 6 = y6 at *
    generalize xv 7 = y7 at *
    generalize xv 8 = y8 at *
    obtain ⟨hbE, hbE1⟩ := hS
    have HB2 := Lib.hid hbE
    have HL2 := Lib.hid (HL.out.below hbE1 HL.out.lt)
    obtain ⟨X, hX⟩ : ∃ X, decE tn ++ 32 :: nameW kd = X := ⟨_, rfl⟩
    have hxl : X.length ≤ 28 := by rw [← hX, List.length_append, List.length_cons]; omega
    rw [hX]
    rw [hX] at HLN
    clear hX hbE hbE1 HB HL
    have H0 := Lib.hid (rfHasRing kd)
    have H1 := Lib.hid (rfHasTicket kd)
    have H2 := Lib.hid (rfHasValue kd)
    have HNS := Lib.hid (rfNames kd)
    have c1 := (HL2.out.cell 1).trans (show _ = some (Value.int .i64 kd) from rfl)
    have cl := HL2.out.lt
    go_wp2_with fail
    refine (HNS.out _).mono ?_
    rintro e w' ⟨rfl, rfl⟩
    generalize nmsB kd = ns at *
    go_wp2_with fail
    refine (H0.out _).mono ?_
    rintro e w' ⟨rfl, rfl⟩
    clear c1 cl HNS H0
    rcases HKA.out with ⟨k1, k2, k3⟩ | ⟨k1, k2, k3⟩ | ⟨k1, k2, k3⟩ | ⟨k1, k2, k3⟩
    all_goals
      rw [k1] at H1
      rw [k3] at H2
      rw [k2]
      rw [k1, k2, k3] at HLN
      clear HKA k1 k2 k3
    · have c1 := (HL2.out.cell 2).trans (show _ = some ((Value.int .i64 (rn : Int))) from rfl)
      have cl := HL2.out.lt
      have hwr : IntKind.u64.wrap ((rn : Nat) : Int) = ((rn : Nat) : Int) := by rw [IntKind.wrap_u64]; omega
      go_wp2_with fail
      refine (rfNumber rn _ (by omega)).mono ?_
      rintro e w3 ⟨rfl, hbq⟩
      have HB3 := Lib.hid (HB2.out.trans (hbq.mono HB2.out.size))
      have HL3 := Lib.hid (HL2.out.below hbq HL2.out.lt)
      obtain ⟨Y, hy9⟩ : ∃ y, X ++ 32 :: decE rn = y := ⟨_, rfl⟩
      have HY := Lib.hid hy9
      have hyl : (Y).length ≤ 28 + 30 := by rw [← hy9, List.length_append, List.length_cons]; omega
      have hs1 := sum_pre (decE rn)
      have hs2 : textB X ++ textB (32 :: decE rn) = textB Y := by rw [text_append, hy9]
      have hz1 : ¬ 9223372036854775807 < 1 + (textB (decE rn)).size := by rw [textB_size]; omega
      have hz2 : ¬ 9223372036854775807 < (textB X).size + (textB (32 :: decE rn)).size := by rw [textB_size, textB_size, List.length_cons]; omega
      clear hy9 c1 cl hbq HL2 HB2 hwr
      go_wp2_with fail
      refine (H1.out _).mono ?_
      rintro e w' ⟨rfl, rfl⟩
      have c1 := (HL3.out.cell 3).trans (show _ = some ((Value.int .u64 (tk : Int))) from rfl)
      have cl := HL3.out.lt
      have hwr : IntKind.u64.wrap ((tk : Nat) : Int) = ((tk : Nat) : Int) := by rw [IntKind.wrap_u64]; omega
      go_wp2_with fail
      refine (rfNumber tk _ (by omega)).mono ?_
      rintro e w4 ⟨rfl, hbq⟩
      have HB4 := Lib.hid (HB3.out.trans (hbq.mono HB3.out.size))
      have HL4 := Lib.hid (HL3.out.below hbq HL3.out.lt)
      obtain ⟨Z, hy9⟩ : ∃ y, Y ++ 32 :: decE tk = y := ⟨_, rfl⟩
      have HZ := Lib.hid hy9
      have hzl : (Z).length ≤ 60 + 30 := by rw [← hy9, List.length_append, List.length_cons]; omega
      have hs1 := sum_pre (decE tk)
      have hs2 : textB Y ++ textB (32 :: decE tk) = textB Z := by rw [text_append, hy9]
      have hz1 : ¬ 9223372036854775807 < 1 + (textB (decE tk)).size := by rw [textB_size]; omega
      have hz2 : ¬ 9223372036854775807 < (textB Y).size + (textB (32 :: decE tk)).size := by rw [textB_size, textB_size, List.length_cons]; omega
      clear hy9 c1 cl hbq HL3 HB3 hwr
      go_wp2_with fail
      refine (H2.out _).mono ?_
      rintro e w' ⟨rfl, rfl⟩
      go_wp2
      go_ret
      exact ⟨ret_text9 (by rw [HLN.out, ← HZ.out, ← HY.out]; simp), HB4.out⟩
    · have c1 := (HL2.out.cell 2).trans (show _ = some ((Value.int .i64 (rn : Int))) from rfl)
      have cl := HL2.out.lt
      have hwr : IntKind.u64.wrap ((rn : Nat) : Int) = ((rn : Nat) : Int) := by rw [IntKind.wrap_u64]; omega
      go_wp2_with fail
      refine (rfNumber rn _ (by omega)).mono ?_
      rintro e w3 ⟨rfl, hbq⟩
      have HB3 := Lib.hid (HB2.out.trans (hbq.mono HB2.out.size))
      have HL3 := Lib.hid (HL2.out.below hbq HL2.out.lt)
      obtain ⟨Y, hy9⟩ : ∃ y, X ++ 32 :: decE rn = y := ⟨_, rfl⟩
      have HY := Lib.hid hy9
      have hyl : (Y).length ≤ 28 + 30 := by rw [← hy9, List.length_append, List.length_cons]; omega
      have hs1 := sum_pre (decE rn)
      have hs2 : textB X ++ textB (32 :: decE rn) = textB Y := by rw [text_append, hy9]
      have hz1 : ¬ 9223372036854775807 < 1 + (textB (decE rn)).size := by rw [textB_size]; omega
      have hz2 : ¬ 9223372036854775807 < (textB X).size + (textB (32 :: decE rn)).size := by rw [textB_size, textB_size, List.length_cons]; omega
      clear hy9 c1 cl hbq HL2 HB2 hwr
      go_wp2_with fail
      refine (H1.out _).mono ?_
      rintro e w' ⟨rfl, rfl⟩
      go_wp2_with fail
      refine (H2.out _).mono ?_
      rintro e w' ⟨rfl, rfl⟩
      go_wp2
      go_ret
      exact ⟨ret_text9 (by rw [HLN.out, ← HY.out]; simp), HB3.out⟩
    · go_wp2_with fail
      refine (H1.out _).mono ?_
      rintro e w' ⟨rfl, rfl⟩
      go_wp2_with fail
      refine (H2.out _).mono ?_
      rintro e w' ⟨rfl, rfl⟩
      have c1 := (HL2.out.cell 4).trans (show _ = some ((Value.int .u64 (vl : Int))) from rfl)
      have cl := HL2.out.lt
      have hwr : IntKind.u64.wrap ((vl : Nat) : Int) = ((vl : Nat) : Int) := by rw [IntKind.wrap_u64]; omega
      go_wp2_with fail
      refine (rfNumber vl _ (by omega)).mono ?_
      rintro e w3 ⟨rfl, hbq⟩
      have HB3 := Lib.hid (HB2.out.trans (hbq.mono HB2.out.size))
      have HL3 := Lib.hid (HL2.out.below hbq HL2.out.lt)
      obtain ⟨Y, hy9⟩ : ∃ y, X ++ 32 :: decE vl = y := ⟨_, rfl⟩
      have HY := Lib.hid hy9
      have hyl : (Y).length ≤ 28 + 30 := by rw [← hy9, List.length_append, List.length_cons]; omega
      have hs1 := sum_pre (decE vl)
      have hs2 : textB X ++ textB (32 :: decE vl) = textB Y := by rw [text_append, hy9]
      have hz1 : ¬ 9223372036854775807 < 1 + (textB (decE vl)).size := by rw [textB_size]; omega
      have hz2 : ¬ 9223372036854775807 < (textB X).size + (textB (32 :: decE vl)).size := by rw [textB_size, textB_size, List.length_cons]; omega
      clear hy9 c1 cl hbq HL2 HB2 hwr
      go_wp2
      go_ret
      exact ⟨ret_text9 (by rw [HLN.out, ← HY.out]; simp), HB3.out⟩
    · go_wp2_with fail
      refine (H1.out _).mono ?_
      rintro e w' ⟨rfl, rfl⟩
      go_wp2_with fail
      refine (H2.out _).mono ?_
      rintro e w' ⟨rfl, rfl⟩
      go_wp2
      go_ret
      exact ⟨ret_text9 (by rw [HLN.out]; simp), HB2.out⟩
set_option maxHeartbeats 8000000 in
set_option maxRecDepth 100000 in
theorem rfPrint15 (l : List Ev) (A : Option Addr) (c : Nat) (w : World) (h : EvsAt w A c l) (hok : ∀ x ∈ l, evOk x) (hr : ∀ x ∈ l, rightE x = true) (hl : l.length ≤ 65536) :
    Calls Tryd.prog 22 #[.slice A l.length c] w fun e w' => e = .returned (.string (textB (printE l))) ∧ Below w.heap.size w w' := by
  obtain ⟨A', c', e', h1, h2, _⟩ := h.form
  simp only [Value.slice.injEq, true_and] at e'
  obtain ⟨rfl, rfl⟩ := e'
  unfold maxLen at h2
  have HH := Lib.hid h
  have HOK := Lib.hid hok
  have HALL := Lib.hid hr
  have HB := Lib.hid (Below.refl w.heap.size w)
  clear h hok hr
  go_enter Tryd.func22, Tryd.ntmps22
  go_wp2_with fail
  go_loopw [3, 4] (fun v u wr => ∃ k : Nat, k ≤ l.length ∧ u = .int .i64 k ∧ v = .string (textB (printE (l.take k))) ∧ Hid (Below w.heap.size w wr)) (fun _ u _ => l.length - (intOf u).toNat)
  case atStart => exact ⟨0, by omega, rfl, rfl, HB⟩
  case round =>
    clear HB
    obtain ⟨k, hk, rfl, rfl, HB⟩ := hrel
    by_cases hlt : k < l.length
    · have hki : (k : Int) < (l.length : Int) := by omega
      obtain ⟨x, hx⟩ : ∃ x, l[k]? = some x := ⟨_, List.getElem?_eq_getElem hlt⟩
      obtain ⟨b, off, rfl, hbl, hg⟩ := EvsAt.at_ (HH.out.later HB.out) hx
      have g0 := hg 0 _ (by decide) rfl
      have g1 := hg 1 _ (by decide) rfl
      have g2 := hg 2 _ (by decide) rfl
      have g3 := hg 3 _ (by decide) rfl
      have g4 := hg 4 _ (by decide) rfl
      rw [Nat.add_zero] at g0
      have hxm := List.mem_of_getElem? hx
      obtain ⟨k1, ⟨r1, r2, r3, r4, r5⟩, q1, q2, q3⟩ := right_parts (HALL.out x hxm)
      have hv := (HOK.out x hxm).2.2.2.2
      have HN : Hid (printE (l.take (k + 1)) = (printE (l.take k) ++ lineE x) ++ [10]) := by
        show _ = _
        rw [List.take_add_one, hx, Option.toList_some, printE_push]
      have hpl : (printE (l.take k)).length ≤ 101 * 65536 := by
        have := printE_length (l.take k)
        rw [List.length_take] at this; omega
      have hxl := (lineE_length x).2
      clear hg hx q1 q2 q3 hxm
      generalize printE (l.take k) = L at *
      go_wp2_with fail
      refine (rfLine15 x _ r1 (by omega) r3 (by omega) (by omega) hv).mono ?_
      rintro e w3 ⟨rfl, hb⟩
      have HB3 := Lib.hid (HB.out.trans (hb.mono HB.out.size))
      have hs1 := sum_10 (lineE x)
      have hs2 : textB L ++ textB (lineE x ++ [10]) = textB (printE (l.take (k + 1))) := by rw [text_append, HN.out]; simp
      have hz1 : ¬ 9223372036854775807 < (textB (lineE x)).size + 1 := by rw [textB_size]; omega
      have hz2 : ¬ 9223372036854775807 < (textB L).size + (textB (lineE x ++ [10])).size := by rw [textB_size, textB_size, List.length_append]; simp; omega
      clear g0 g1 g2 g3 g4 hb HB HN
      go_wp2
      go_roundw
      case rel => exact ⟨k + 1, by omega, by go_num, rfl, HB3⟩
      case measure => simp [intOf]; omega
    · obtain rfl : k = l.length := by omega
      have hall : textB (printE (l.take l.length)) = textB (printE l) := by rw [List.take_length]
      rw [hall]
      clear hall
      go_wp2
      go_ret
      exact ⟨rfl, HB.out⟩
end Go.Proofs.YtndcnflboikodaaDoor
