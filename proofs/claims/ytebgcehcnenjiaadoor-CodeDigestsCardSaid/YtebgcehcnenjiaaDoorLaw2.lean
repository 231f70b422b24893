/-
  CodePrints: its walk.
-/
import Derived.Test.YtebgcehcnenjiaaDoorLaw1
import Derived.Test.YtebgcehcnenjiaaDoorCopy2
namespace Go.Proofs.YtebgcehcnenjiaaDoor
open Go.RowKit
set_option linter.unusedVariables false
set_option linter.unusedSimpArgs false
def prV (A : Option Addr) (c : Nat) (B : Option Addr) (d : Nat) (p : Pg) : Nat → Value → World → Prop
  | 0, v, _ => v = .agg (pgC A c B d p)
  | 1, v, _ => v = .int .u32 (dgN p : Nat)
  | 2, v, _ => v = .agg (pgC A c B d p)
  | 3, v, _ => v = .int .u32 (dgN p : Nat)
  | 4, v, _ => v = .bool false
  | _, _, _ => True
theorem prV_all {A : Option Addr} {c : Nat} {B : Option Addr} {d : Nat} {p : Pg} {w w' : World} {j : Nat} {u : Value} (h : prV A c B d p j u w) : prV A c B d p j u w' := by
  match j with
  | 0 => exact h
  | 1 => exact h
  | 2 => exact h
  | 3 => exact h
  | 4 => exact h
  | _ + 5 => trivial
/-- A copy, as a program. -/
theorem cp_pg {w w' : World} {p : Pg} {e : Ending} (h : CpPost w p e w') : ∃ A c B d vs, e = .returned (.agg (pgC A c B d p)) ∧ PgAt w' A c B d p ∧ w'.ownsRow w.heap.size 51 1 (.slice B p.ts.length d) p.ts.length vs ∧ Inners w' w.heap.size w'.heap.size p.ts vs ∧ Below w.heap.size w w' := by
  obtain ⟨vr, vt, vs, rfl, hr, ht, hi, hb⟩ := h
  obtain ⟨A, c, B, d, rfl, rfl, hp⟩ := own_pg hr ht hi
  exact ⟨A, c, B, d, vs, rfl, hp, ht, hi, hb⟩
theorem prE_no {p : Pg} (h : encB p = false) : prE p = ⟨#[]⟩ := by unfold prE; rw [h]; rfl
theorem prC_no {p : Pg} (h : encB p = false) : prC p = 1 := by unfold prC; rw [h]; rfl
theorem prE_yes {p : Pg} (h : encB p = true) : prE p = textB (pgE p) := by unfold prE; rw [h]; rfl
theorem prC_yes {p : Pg} (h : encB p = true) : prC p = 0 := by unfold prC; rw [h]; rfl
set_option maxHeartbeats 8000000 in
set_option maxRecDepth 100000 in
theorem prints_walk (z : Pa) (W : World) (h : PaAt W z) (hN : NamesAt W) :
    Calls Tryd.prog 5 #[.agg (pgC z.A z.c z.B z.d z.p)] W fun e w' => e = .returned (.bool true) ∧ Below W.heap.size W w' := by
  obtain ⟨A, c, B, d, p⟩ := z
  obtain ⟨hp, hok⟩ := h
  replace hp : PgAt W A c B d p := hp
  replace hok : pgOk p := hok
  obtain ⟨hc1, hc2⟩ := seq_form hp.1
  obtain ⟨hd1, hd2⟩ := hp.2.form
  have hb0 : Below W.heap.size W (W.alloc (.cells (pgC A c B d p) 35)) := (Below.refl _ _).alloc (Nat.le_refl _) _
  have l0 := Lies.made W 35 (pgC A c B d p)
  have HP := Lib.hid hp
  have HOK := Lib.hid hok
  have HB := Lib.hid hb0
  have HL := Lib.hid l0
  have HN := Lib.hid hN
  have hgl := hN.lt
  clear hp hok hb0 l0 hN
  go_enter Tryd.func5, Tryd.ntmps5
  go_wp2_with fail
  generalize W.alloc (.cells (pgC A c B d p) 35) = w1 at *
  have c0 := (HL.out.cell 0).trans (show _ = some (Value.slice A p.rs.length c) from rfl)
  have c1 := (HL.out.cell 1).trans (show _ = some (Value.slice B p.ts.length d) from rfl)
  have cl := HL.out.lt
  refine (awake_any _ (HN.out.later HB.out hgl)).mono ?_
  rintro e w2 ⟨rfl, hbm⟩
  replace HB := Lib.hid (HB.out.trans ((hbm).mono HB.out.size))
  replace HL := Lib.hid (HL.out.below hbm HL.out.lt)
  clear c0 c1 cl
  have c0 := (HL.out.cell 0).trans (show _ = some (Value.slice A p.rs.length c) from rfl)
  have c1 := (HL.out.cell 1).trans (show _ = some (Value.slice B p.ts.length d) from rfl)
  have cl := HL.out.lt
  clear hbm
  go_wp2_with fail
  have HF := Lib.hid (fun w (hw : Below W.heap.size W w) => rfFew p 100 A c B d w (HP.out.later hw) (by omega))
  refine (HF.out _ HB.out).mono ?_
  rintro e wf ⟨rfl, hbm⟩
  clear HF
  replace HB := Lib.hid (HB.out.trans ((hbm).mono HB.out.size))
  replace HL := Lib.hid (HL.out.below hbm HL.out.lt)
  clear c0 c1 cl
  have c0 := (HL.out.cell 0).trans (show _ = some (Value.slice A p.rs.length c) from rfl)
  have c1 := (HL.out.cell 1).trans (show _ = some (Value.slice B p.ts.length d) from rfl)
  have cl := HL.out.lt
  clear hbm
  obtain ⟨fb, hfb⟩ : ∃ fb, fewB p 100 = fb := ⟨_, rfl⟩
  have HFB := Lib.hid hfb
  rw [hfb]
  clear hfb
  cases fb
  case false =>
    clear HFB
    go_wp2_with fail
    refine (awake_any _ (HN.out.later HB.out hgl)).mono ?_
    rintro e wz ⟨rfl, hbz⟩
    have hbz := HB.out.trans (hbz.mono HB.out.size)
    go_wp2
    go_ret
    exact ⟨rfl, hbz⟩
  obtain ⟨hf1, hf2, hf3, hf4⟩ := of_decide_eq_true HFB.out
  have HF3 := Lib.hid hf3
  clear hf3 HFB
  have HCP := Lib.hid (fun w (hw : Below W.heap.size W w) => rfCopy p A c B d w (HP.out.later hw) hf1 hf2 (fun l hl => by have := HF3.out l hl; omega))
  go_wp2_with fail
  refine (HCP.out _ HB.out).mono ?_
  intro e w3 hcp
  obtain ⟨A', c', B', d', vs, rfl, hpg, _, _, hbm⟩ := cp_pg hcp
  have HC := Lib.hid (cprint_any p A' c' B' d' w3 hpg)
  clear hcp hpg HCP
  replace HB := Lib.hid (HB.out.trans ((hbm).mono HB.out.size))
  replace HL := Lib.hid (HL.out.below hbm HL.out.lt)
  clear c0 c1 cl
  have c0 := (HL.out.cell 0).trans (show _ = some (Value.slice A p.rs.length c) from rfl)
  have c1 := (HL.out.cell 1).trans (show _ = some (Value.slice B p.ts.length d) from rfl)
  have cl := HL.out.lt
  clear hbm
  go_wp2_with fail
  refine HC.out.mono ?_
  rintro e w4 ⟨rfl, hbm⟩
  clear HC
  replace HB := Lib.hid (HB.out.trans ((hbm).mono HB.out.size))
  replace HL := Lib.hid (HL.out.below hbm HL.out.lt)
  clear c0 c1 cl
  have c0 := (HL.out.cell 0).trans (show _ = some (Value.slice A p.rs.length c) from rfl)
  have c1 := (HL.out.cell 1).trans (show _ = some (Value.slice B p.ts.length d) from rfl)
  have cl := HL.out.lt
  clear hbm
  go_wp2_with fail
  clear c0 c1 cl
  refine wp_region_rely (fun q => Below w4.heap.size w4 q) (prV A c B d p) [some 19, some 20, some 21, some 22, some 23] [[], [0], [], [2], [1, 3]] [[], [0], [], [0, 2], [0, 1, 2, 3]] [[2, 3, 4], [2], [0, 1, 4], [1], []] [0, 1, 2, 3, 4] 5 (by kernel_rfl) (by kernel_rfl) (by kernel_rfl) (by kernel_rfl) ?rS (fun j h1 h2 => absurd (Nat.lt_of_lt_of_le h1 (Nat.le_trans (by decide) h2)) (Nat.lt_irrefl _)) ?rT ?rE
  case rS => exact below_drewN (Below.refl _ _) 1
  case rT =>
    refine RelySteps.cons (RelyStep.mk [] [2, 3, 4] rfl rfl rfl (fun xv wS hS hV bq hb K hK => ?_)) ?_
    · clear hV
      simp only [putsOf, List.foldl_cons, List.foldl_nil, List.getD_cons_zero, List.getD_cons_succ, List.getD_nil, cond_true, cond_false, Act.put, List.setIfInBounds_toArray, List.set_cons_zero, List.set_cons_succ] at hb
      subst hb
      rw [if_pos (by rfl)]
      (have q1 := HL.out.below hS HL.out.lt; have c0 := (q1.cell 0).trans (show _ = some (Value.slice A p.rs.length c) from rfl); have c1 := (q1.cell 1).trans (show _ = some (Value.slice B p.ts.length d) from rfl); have cl := q1.lt; clear q1)
      go_wp2_with fail
      exact hK.out _ _ ⟨_, rfl, hS, rfl, AllP.same _⟩
    refine RelySteps.cons (RelyStep.mk [0] [2] rfl rfl rfl (fun xv wS hS hV bq hb K hK => ?_)) ?_
    · obtain ⟨h0, _⟩ := hV
      have h0 : xv 0 = _ := h0
      simp only [putsOf, List.foldl_cons, List.foldl_nil, List.getD_cons_zero, List.getD_cons_succ, List.getD_nil, cond_true, cond_false, Act.put, List.setIfInBounds_toArray, List.set_cons_zero, List.set_cons_succ, h0] at hb
      clear h0
      subst hb
      rw [if_pos (by rfl)]
      have HSS := Lib.hid hS
      clear hS
      go_wp2_with fail
      refine (codeDigest p A c B d wS (HP.out.later (HB.out.trans (HSS.out.mono HB.out.size)))).mono ?_
      rintro e w5 ⟨rfl, hb⟩
      exact hK.out _ _ ⟨_, rfl, HSS.out.trans (hb.mono HSS.out.size), rfl, AllP.of _ (fun j _ u h => prV_all h)⟩
    refine RelySteps.cons (RelyStep.mk [] [0, 1, 4] rfl rfl rfl (fun xv wS hS hV bq hb K hK => ?_)) ?_
    · clear hV
      simp only [putsOf, List.foldl_cons, List.foldl_nil, List.getD_cons_zero, List.getD_cons_succ, List.getD_nil, cond_true, cond_false, Act.put, List.setIfInBounds_toArray, List.set_cons_zero, List.set_cons_succ] at hb
      subst hb
      rw [if_pos (by rfl)]
      (have q1 := HL.out.below hS HL.out.lt; have c0 := (q1.cell 0).trans (show _ = some (Value.slice A p.rs.length c) from rfl); have c1 := (q1.cell 1).trans (show _ = some (Value.slice B p.ts.length d) from rfl); have cl := q1.lt; clear q1)
      go_wp2_with fail
      exact hK.out _ _ ⟨_, rfl, hS, rfl, AllP.same _⟩
    refine RelySteps.cons (RelyStep.mk [2] [1] rfl rfl rfl (fun xv wS hS hV bq hb K hK => ?_)) ?_
    · obtain ⟨h2, _⟩ := hV
      have h2 : xv 2 = _ := h2
      simp only [putsOf, List.foldl_cons, List.foldl_nil, List.getD_cons_zero, List.getD_cons_succ, List.getD_nil, cond_true, cond_false, Act.put, List.setIfInBounds_toArray, List.set_cons_zero, List.set_cons_succ, h2] at hb
      clear h2
      subst hb
      rw [if_pos (by rfl)]
      have HSS := Lib.hid hS
      clear hS
      go_wp2_with fail
      refine (rfDigest p A c B d wS (HP.out.later (HB.out.trans (HSS.out.mono HB.out.size))) HOK.out).mono ?_
      rintro e w5 ⟨rfl, hb⟩
      exact hK.out _ _ ⟨_, rfl, HSS.out.trans (hb.mono HSS.out.size), rfl, AllP.of _ (fun j _ u h => prV_all h)⟩
    refine RelySteps.cons (RelyStep.mk [1, 3] [] rfl rfl rfl (fun xv wS hS hV bq hb K hK => ?_)) ?_
    · obtain ⟨h1, h3, _⟩ := hV
      have h1 : xv 1 = _ := h1
      have h3 : xv 3 = _ := h3
      simp only [putsOf, List.foldl_cons, List.foldl_nil, List.getD_cons_zero, List.getD_cons_succ, List.getD_nil, cond_true, cond_false, Act.put, List.setIfInBounds_toArray, List.set_cons_zero, List.set_cons_succ, h1, h3] at hb
      clear h1
      clear h3
      subst hb
      rw [if_pos (by rfl)]
      go_wp2_with fail
      exact hK.out _ _ ⟨_, rfl, hS, rfl, AllP.same _⟩
    exact RelySteps.nil
  case rE =>
    intro xv wE hS hV
    have h4 := hV 4 (by decide) (by decide)
    clear hV
    simp only [putsOf, List.foldl_cons, List.foldl_nil, List.getD_cons_zero, List.getD_cons_succ, List.getD_nil, cond_true, cond_false, Act.put, List.setIfInBounds_toArray, List.set_cons_zero, List.set_cons_succ]
    have h4 : xv 4 = _ := h4
    rw [h4]; clear h4
    generalize xv 0 = y0 at *
    generalize xv 1 = y1 at *
    generalize xv 2 = y2 at *
    generalize xv 3 = y3 at *
    replace HB := Lib.hid (HB.out.trans (hS.mono HB.out.size))
    replace HL := Lib.hid (HL.out.below hS HL.out.lt)
    clear hS
    have c0 := (HL.out.cell 0).trans (show _ = some (Value.slice A p.rs.length c) from rfl)
    have c1 := (HL.out.cell 1).trans (show _ = some (Value.slice B p.ts.length d) from rfl)
    have cl := HL.out.lt
    have HWR := Lib.hid (fun w (hw : Below W.heap.size W w) => rfWritten p A c B d w (HP.out.later hw) HOK.out)
    go_wp2_with fail
    refine (HWR.out _ HB.out).mono ?_
    rintro e w6 ⟨rfl, hbm⟩
    clear HWR
    replace HB := Lib.hid (HB.out.trans ((hbm).mono HB.out.size))
    replace HL := Lib.hid (HL.out.below hbm HL.out.lt)
    clear c0 c1 cl
    have c0 := (HL.out.cell 0).trans (show _ = some (Value.slice A p.rs.length c) from rfl)
    have c1 := (HL.out.cell 1).trans (show _ = some (Value.slice B p.ts.length d) from rfl)
    have cl := HL.out.lt
    clear hbm
    cases he : encB p with
    | false =>
      have HE1 := Lib.hid (prE_no he)
      have HE2 := Lib.hid (prC_no he)
      clear he
      rw [HE1.out, HE2.out]
      clear HE1 HE2
      go_wp2
      go_ret
      exact ⟨rfl, HB.out⟩
    | true =>
      have HRP := Lib.hid (fun w (hw : Below W.heap.size W w) => rfPrint p A c B d w (HP.out.later hw) he)
      have HE1 := Lib.hid (prE_yes he)
      have HE2 := Lib.hid (prC_yes he)
      clear he
      rw [HE1.out, HE2.out]
      clear HE1 HE2
      generalize textB (pgE p) = tx at *
      go_wp2_with fail
      refine (HRP.out _ HB.out).mono ?_
      rintro e w7 ⟨rfl, hbm⟩
      clear HRP
      replace HB := Lib.hid (HB.out.trans ((hbm).mono HB.out.size))
      replace HL := Lib.hid (HL.out.below hbm HL.out.lt)
      clear c0 c1 cl
      have c0 := (HL.out.cell 0).trans (show _ = some (Value.slice A p.rs.length c) from rfl)
      have c1 := (HL.out.cell 1).trans (show _ = some (Value.slice B p.ts.length d) from rfl)
      have cl := HL.out.lt
      clear hbm
      go_wp2
      go_ret
      exact ⟨rfl, HB.out⟩
end Go.Proofs.YtebgcehcnenjiaaDoor
