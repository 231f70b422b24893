import Derived.Test.YteecfffgigaomaaLaw2
namespace Go.Proofs.Yteecfffgigaomaa
open Go.RowKit
set_option linter.unusedVariables false
set_option linter.unusedSimpArgs false
/-- What the check's lists and the document's lie in. -/
structure RchM (W w : World) (box : Array Value) (l : List In) (va vb vc vd : Value) : Prop where
  lies : Lies w W.heap.size 25 box
  bel : Below W.heap.size W w
  a : w.ownsRow W.heap.size 4 1 va (l.length + 1) (boolC (rchL l))
  b : w.ownsRow W.heap.size 4 1 vb (l.length + 1) (boolC (rchL l))
  c : w.ownsRow W.heap.size 3 1 vc (touchL l).length (ints (touchL l))
  d : w.ownsRow W.heap.size 3 1 vd (touchL l).length (ints (touchL l))
theorem RchM.later {W w w' : World} {box : Array Value} {l : List In} {va vb vc vd : Value} (h : RchM W w box l va vb vc vd) (hb : Below w.heap.size w w') : RchM W w' box l va vb vc vd :=
  ⟨h.lies.below hb h.lies.lt, h.bel.trans (hb.mono h.bel.size), owned_below h.a hb, owned_below h.b hb, owned_below h.c hb, owned_below h.d hb⟩
def crV (N b o tn : Nat) (vT vl : Value) (l : List In) : Nat → Value → World → Prop
  | 0, v, _ => v = .pointer (some ⟨N, 1, none⟩)
  | 1, v, _ => v = vT
  | 2, v, _ => v = .int .i64 (tn : Int)
  | 3, v, _ => v = .pointer (some ⟨b, o + tn, none⟩)
  | 4, v, _ => v = vl
  | 5, v, w => w.ownsRow N 4 1 v (l.length + 1) (boolC (rchL l))
  | 6, v, _ => v = .pointer (some ⟨N, 1, none⟩)
  | 7, v, _ => v = vT
  | 8, v, _ => v = .int .i64 (tn : Int)
  | 9, v, _ => v = .pointer (some ⟨b, o + tn, none⟩)
  | 10, v, _ => v = vl
  | 11, v, w => w.ownsRow N 3 1 v (touchL l).length (ints (touchL l))
  | 12, v, w => w.ownsRow N 4 1 v (l.length + 1) (boolC (rchL l))
  | 13, v, w => w.ownsRow N 3 1 v (touchL l).length (ints (touchL l))
  | _, _, _ => True
theorem crV_below {N b o tn : Nat} {vT vl : Value} {l : List In} {w w' : World} (hb : Below w.heap.size w w') {j : Nat} {u : Value} (h : crV N b o tn vT vl l j u w) : crV N b o tn vT vl l j u w' := by
  match j with
  | 0 => exact h
  | 1 => exact h
  | 2 => exact h
  | 3 => exact h
  | 4 => exact h
  | 5 => exact owned_below h hb
  | 6 => exact h
  | 7 => exact h
  | 8 => exact h
  | 9 => exact h
  | 10 => exact h
  | 11 => exact owned_below h hb
  | 12 => exact owned_below h hb
  | 13 => exact owned_below h hb
  | _ + 14 => trivial
noncomputable def overB (l : List In) (i : Nat) : Bool := rchB l l.length || (List.range i).any (endsAt l)
theorem over_next (l : List In) (i : Nat) : overB l (i + 1) = (overB l i || endsAt l i) := by
  unfold overB
  rw [List.range_succ, List.any_append, Bool.or_assoc]; simp
theorem over_ends (l : List In) : overB l l.length = endsB l := by unfold overB endsB; rw [Bool.or_comm]
set_option maxHeartbeats 16000000 in
set_option maxRecDepth 100000 in
theorem reach_walk (z : Pa) (t : Int) (W : World) (h : PaAt W z) (ht : (Lit.int .i64 t).wf = true) :
    Calls Try.prog 4 #[.agg (pgC z.A z.c z.B z.d z.p), .int .i64 t] W fun e w' => e = .returned (.bool true) ∧ Below W.heap.size W w' := by
  have hti := Go.bounds_i64 ht
  clear ht
  obtain ⟨A, c, B, d, p⟩ := z
  obtain ⟨hp, hok⟩ := h
  replace hp : PgAt W A c B d p := hp
  replace hok : pgOk p := hok
  obtain ⟨hc1, hc2⟩ := seq_form hp.1
  obtain ⟨hd1, hd2⟩ := hp.2.form
  have hb0 : Below W.heap.size W (W.alloc (.cells (pgC A c B d p) 25)) := (Below.refl _ _).alloc (Nat.le_refl _) _
  have l0 := Lies.made W 25 (pgC A c B d p)
  have HP := Lib.hid hp
  have HOK := Lib.hid hok
  have HB := Lib.hid hb0
  have HL := Lib.hid l0
  clear hp hok hb0 l0
  go_enter Try.func4, Try.ntmps4
  go_wp2_with fail
  generalize W.alloc (.cells (pgC A c B d p) 25) = w1 at *
  have c0 := (HL.out.cell 0).trans (show _ = some (Value.slice A p.rs.length c) from rfl)
  have c1 := (HL.out.cell 1).trans (show _ = some (Value.slice B p.ts.length d) from rfl)
  have cl := HL.out.lt
  refine (awake_any _).mono ?_
  rintro e w2 ⟨rfl, hbm⟩
  replace HB := Lib.hid (HB.out.trans ((hbm).mono HB.out.size))
  replace HL := Lib.hid (HL.out.below hbm HL.out.lt)
  clear c0 c1 cl
  have c0 := (HL.out.cell 0).trans (show _ = some (Value.slice A p.rs.length c) from rfl)
  have c1 := (HL.out.cell 1).trans (show _ = some (Value.slice B p.ts.length d) from rfl)
  have cl := HL.out.lt
  clear hbm
  go_wp2_with fail
  have HF := Lib.hid (fun w (hw : Below W.heap.size W w) => rfFew p 100 A c B d w (HP.out.later hw) (by omega))
  refine (HF.out _ HB.out).mono ?_
  rintro e wf ⟨rfl, hbm⟩
  clear HF
  replace HB := Lib.hid (HB.out.trans ((hbm).mono HB.out.size))
  replace HL := Lib.hid (HL.out.below hbm HL.out.lt)
  clear c0 c1 cl
  have c0 := (HL.out.cell 0).trans (show _ = some (Value.slice A p.rs.length c) from rfl)
  have c1 := (HL.out.cell 1).trans (show _ = some (Value.slice B p.ts.length d) from rfl)
  have cl := HL.out.lt
  clear hbm
  obtain ⟨fb, hfb⟩ : ∃ fb, fewB p 100 = fb := ⟨_, rfl⟩
  have HFB := Lib.hid hfb
  rw [hfb]
  clear hfb
  cases fb
  case false =>
    clear HFB
    go_wp2_with fail
    refine (awake_any _).mono ?_
    rintro e wz ⟨rfl, hbz⟩
    have hbz := HB.out.trans (hbz.mono HB.out.size)
    go_wp2
    go_ret
    exact ⟨rfl, hbz⟩
  obtain ⟨hf1, hf2, hf3, hf4⟩ := of_decide_eq_true HFB.out
  have HF3 := Lib.hid hf3
  clear hf3 HFB
  have HCP := Lib.hid (fun w (hw : Below W.heap.size W w) => rfCopy p A c B d w (HP.out.later hw) hf1 hf2 (fun l hl => by have := HF3.out l hl; omega))
  go_wp2_with fail
  refine (HCP.out _ HB.out).mono ?_
  intro e w3 hcp
  obtain ⟨A', c', B', d', vs, rfl, hpg, _, _, hbm⟩ := cp_pg hcp
  have HC := Lib.hid (ckReach p A' c' B' d' t w3 hpg HOK.out hti)
  clear hcp hpg HCP
  replace HB := Lib.hid (HB.out.trans ((hbm).mono HB.out.size))
  replace HL := Lib.hid (HL.out.below hbm HL.out.lt)
  clear c0 c1 cl
  have c0 := (HL.out.cell 0).trans (show _ = some (Value.slice A p.rs.length c) from rfl)
  have c1 := (HL.out.cell 1).trans (show _ = some (Value.slice B p.ts.length d) from rfl)
  have cl := HL.out.lt
  clear hbm
  go_wp2_with fail
  refine HC.out.mono ?_
  rintro e w4 ⟨va, rfl, hbm, hv1, hv2⟩
  have HVA := Lib.hid hv1
  have HVB := Lib.hid (fun h l hl => owns_mono (hv2 h l hl) HB.out.size)
  have HB4 := Lib.hid (Below.refl w4.heap.size w4)
  clear HC hv1 hv2
  replace HB := Lib.hid (HB.out.trans ((hbm).mono HB.out.size))
  replace HL := Lib.hid (HL.out.below hbm HL.out.lt)
  clear c0 c1 cl
  have c0 := (HL.out.cell 0).trans (show _ = some (Value.slice A p.rs.length c) from rfl)
  have c1 := (HL.out.cell 1).trans (show _ = some (Value.slice B p.ts.length d) from rfl)
  have cl := HL.out.lt
  clear hbm
  have HC := Lib.hid (fun w (hw : Below W.heap.size W w) => ckEnds p A c B d t w (HP.out.later hw) HOK.out hti)
  go_wp2_with fail
  refine (HC.out _ HB.out).mono ?_
  rintro e w5 ⟨be, rfl, hbm, he1, he2⟩
  have HE1 := Lib.hid he1
  have HE2 := Lib.hid he2
  clear HC he1 he2
  replace HB := Lib.hid (HB.out.trans (hbm.mono HB.out.size))
  replace HL := Lib.hid (HL.out.below hbm HL.out.lt)
  replace HB4 := Lib.hid (HB4.out.trans (hbm.mono HB4.out.size))
  clear c0 c1 cl
  have c0 := (HL.out.cell 0).trans (show _ = some (Value.slice A p.rs.length c) from rfl)
  have c1 := (HL.out.cell 1).trans (show _ = some (Value.slice B p.ts.length d) from rfl)
  have cl := HL.out.lt
  clear hbm
  have HC := Lib.hid (fun w (hw : Below W.heap.size W w) => ckTouches p A c B d t w (HP.out.later hw) HOK.out hti)
  go_wp2_with fail
  refine (HC.out _ HB.out).mono ?_
  rintro e w6 ⟨vc, rfl, hbm, hv1, hv2⟩
  have HVC := Lib.hid hv1
  have HVD := Lib.hid (fun h l hl => owns_mono (hv2 h l hl) HB.out.size)
  clear HC hv1 hv2
  replace HB := Lib.hid (HB.out.trans (hbm.mono HB.out.size))
  replace HL := Lib.hid (HL.out.below hbm HL.out.lt)
  replace HB4 := Lib.hid (HB4.out.trans (hbm.mono HB4.out.size))
  clear c0 c1 cl
  have c0 := (HL.out.cell 0).trans (show _ = some (Value.slice A p.rs.length c) from rfl)
  have c1 := (HL.out.cell 1).trans (show _ = some (Value.slice B p.ts.length d) from rfl)
  have cl := HL.out.lt
  clear hbm
  have HC := Lib.hid (fun w (hw : Below W.heap.size W w) => r11Right p A c B d w (HP.out.later hw) HOK.out)
  go_wp2_with fail
  refine (HC.out _ HB.out).mono ?_
  rintro e w7 ⟨rfl, hbm⟩
  clear HC
  replace HB := Lib.hid (HB.out.trans (hbm.mono HB.out.size))
  replace HL := Lib.hid (HL.out.below hbm HL.out.lt)
  replace HB4 := Lib.hid (HB4.out.trans (hbm.mono HB4.out.size))
  clear c0 c1 cl
  have c0 := (HL.out.cell 0).trans (show _ = some (Value.slice A p.rs.length c) from rfl)
  have c1 := (HL.out.cell 1).trans (show _ = some (Value.slice B p.ts.length d) from rfl)
  have cl := HL.out.lt
  have HB6 := Lib.hid hbm
  clear hbm
  obtain ⟨rb, hrb⟩ : ∃ rb, rightP p = rb := ⟨_, rfl⟩
  have HRB := Lib.hid hrb
  rw [hrb]
  clear hrb
  cases rb
  case false =>
    have HN : Hid (namesE p t = 1) := by show _ = _; unfold namesE; rw [HRB.out, if_pos rfl]
    have hne : namesE p t ≠ 0 := by rw [HN.out]; decide
    have ea := HVA.out hne
    have eb := HVC.out hne
    have ec := HE1.out hne
    subst ea eb ec
    rw [HN.out]
    clear hne
    go_wp2
    go_ret
    exact ⟨rfl, HB.out⟩
  by_cases ht0 : t < 0
  · have e1 : decide (t < 0) = true := by simpa using ht0
    have HN : Hid (namesE p t = 5) := by show _ = _; unfold namesE; rw [HRB.out, if_neg (by decide), if_pos (Or.inl ht0)]
    clear ht0
    have hne : namesE p t ≠ 0 := by rw [HN.out]; decide
    have ea := HVA.out hne
    have eb := HVC.out hne
    have ec := HE1.out hne
    subst ea eb ec
    rw [HN.out]
    clear hne
    go_wp2
    go_ret
    exact ⟨rfl, HB.out⟩
  have e1 : decide (t < 0) = false := by simpa using ht0
  by_cases ht1 : (p.ts.length : Int) ≤ t
  · have e2 : decide ((p.ts.length : Int) ≤ t) = true := by simpa using ht1
    have HN : Hid (namesE p t = 5) := by show _ = _; unfold namesE; rw [HRB.out, if_neg (by decide), if_pos (Or.inr ht1)]
    clear ht1 ht0
    have hne : namesE p t ≠ 0 := by rw [HN.out]; decide
    have ea := HVA.out hne
    have eb := HVC.out hne
    have ec := HE1.out hne
    subst ea eb ec
    rw [HN.out]
    clear hne
    go_wp2
    go_ret
    exact ⟨rfl, HB.out⟩
  have e2 : decide ((p.ts.length : Int) ≤ t) = false := by simpa using ht1
  obtain ⟨tn, rfl⟩ : ∃ tn : Nat, t = tn := ⟨t.toNat, by omega⟩
  have htn : tn < p.ts.length := by omega
  have htnI : (tn : Int) < (p.ts.length : Int) := by omega
  have e3 : decide (p.ts.length ≤ tn) = false := by simp; omega
  obtain ⟨l, hl⟩ : ∃ l, p.ts[tn]? = some l := ⟨_, List.getElem?_eq_getElem htn⟩
  obtain ⟨⟨_, hts8, hrs8⟩, _, hall⟩ := rightP_all HRB.out
  obtain ⟨h256, hokl, hins⟩ := hall l (List.mem_of_getElem? hl)
  obtain ⟨b, off, B2, d2, hBe, g0w, hil⟩ := HP.out.2.at_ hl
  subst hBe
  obtain ⟨hc3, hc4⟩ := seq_form hil
  have hbl := World.block_lt_of_cell? W _ g0w
  have HG := Lib.hid (fun w (hw : Below W.heap.size W w) => (hw.cell (p := ⟨b, off + tn, none⟩) hbl).trans g0w)
  have HIL := Lib.hid hil
  have HOKL := Lib.hid hokl
  have HINS := Lib.hid hins
  have HNE : Hid (namesE p (tn : Int) = 0) := by
    show namesE p (tn : Int) = 0
    unfold namesE
    rw [HRB.out, if_neg (by decide), if_neg (by omega)]
  have HL2 := Lib.hid (show p.ts[(tn : Int).toNat]? = some l by rw [Int.toNat_natCast]; exact hl)
  have HLM := Lib.hid hl
  clear hall hokl hil g0w hins hl
  have ho1 := owned_below (HVB.out HNE.out l HL2.out) HB4.out
  have ho2 := owned_below (HVD.out HNE.out l HL2.out) HB6.out
  have HBE := Lib.hid (HE2.out HNE.out l HL2.out)
  have g0 := HG.out _ HB.out
  rw [HNE.out]
  clear HVA HVB HVC HVD HE1 HE2 HB4 HB6 HL2 ht0 ht1
  obtain ⟨Ac, cc, rfl⟩ := own_slice ho2
  obtain ⟨ga, capa, rfl, hga, hgal, hcapa, hcma, _⟩ := ownsRow_open ho1 (by omega)
  have HO1 := Lib.hid ho1
  have HO2 := Lib.hid ho2
  clear ho1 ho2
  go_wp2_with fail
  clear c0 c1 cl g0 hga hgal
  have HCB := Lib.hid (fun q (hq : Below w7.heap.size w7 q) => HL.out.below hq HL.out.lt)
  refine wp_region_rely (fun q => Below w7.heap.size w7 q) (crV W.heap.size b off tn (.slice (some ⟨b, off, none⟩) p.ts.length d) (.slice B2 l.length d2) l) [some 87, some 88, some 89, some 90, some 91, some 92, some 93, some 94, some 95, some 96, some 97, some 98, some 12, some 13] [[], [0], [], [1, 2], [3], [4], [], [6], [], [7, 8], [9], [10], [5], [11]] [[], [0], [], [0, 1, 2], [1, 2, 3], [3, 4], [], [6], [], [6, 7, 8], [7, 8, 9], [4, 9, 10], [0, 1, 2, 3, 4, 5, 10], [0, 1, 2, 3, 4, 5, 6, 7, 8, 9, 10, 11]] [[2, 3, 4, 5, 6, 7, 8, 9, 10, 11], [2, 4, 5, 6, 7, 8, 9, 10, 11], [0, 1, 4, 5, 6, 7, 8, 9, 10, 11], [5, 6, 7, 8, 9, 10, 11], [0, 6, 7, 8, 9, 10, 11], [0, 1, 2, 6, 7, 8, 9, 10], [0, 1, 2, 3, 4, 5, 8, 9, 10, 11, 12], [0, 1, 2, 3, 4, 5, 8, 10, 11, 12], [0, 1, 2, 3, 4, 5, 6, 7, 10, 11, 12], [0, 1, 2, 3, 4, 5, 11, 12], [0, 1, 2, 3, 4, 5, 6, 12], [0, 1, 2, 3, 5, 6, 7, 8], [6, 7, 8, 9, 11], [12]] [0, 1, 2, 3, 4, 5, 6, 7, 8, 9, 10, 11, 12, 13] 14 (by kernel_rfl) (by kernel_rfl) (by kernel_rfl) (by kernel_rfl) ?rS (fun j h1 h2 => absurd (Nat.lt_of_lt_of_le h1 (Nat.le_trans (by decide) h2)) (Nat.lt_irrefl _)) ?rT ?rE
  case rS => exact below_drewN (Below.refl _ _) 1
  case rT =>
    refine RelySteps.cons (RelyStep.mk [] [2, 3, 4, 5, 6, 7, 8, 9, 10, 11] rfl rfl rfl (fun xv wS hS hV bq hb K hK => ?_)) ?_
    · clear hV
      simp only [putsOf, List.foldl_cons, List.foldl_nil, List.getD_cons_zero, List.getD_cons_succ, List.getD_nil, Act.put, List.setIfInBounds_toArray, List.set_cons_zero, List.set_cons_succ] at hb
      subst hb
      rw [if_pos (by rfl)]
      go_wp2_with fail
      exact hK.out _ _ ⟨_, rfl, hS, rfl, AllP.same _⟩
    refine RelySteps.cons (RelyStep.mk [0] [2, 4, 5, 6, 7, 8, 9, 10, 11] rfl rfl rfl (fun xv wS hS hV bq hb K hK => ?_)) ?_
    · obtain ⟨h0, _⟩ := hV
      have h0 : xv 0 = _ := h0
      simp only [putsOf, List.foldl_cons, List.foldl_nil, List.getD_cons_zero, List.getD_cons_succ, List.getD_nil, Act.put, List.setIfInBounds_toArray, List.set_cons_zero, List.set_cons_succ, h0] at hb
      clear h0
      subst hb
      rw [if_pos (by rfl)]
      (have q1 := HCB.out _ hS; have c1 := (q1.cell 1).trans (show _ = some (Value.slice (some ⟨b, off, none⟩) p.ts.length d) from rfl); have c2 := q1.lt; clear q1)
      go_wp2_with fail
      exact hK.out _ _ ⟨_, rfl, hS, rfl, AllP.same _⟩
    refine RelySteps.cons (RelyStep.mk [] [0, 1, 4, 5, 6, 7, 8, 9, 10, 11] rfl rfl rfl (fun xv wS hS hV bq hb K hK => ?_)) ?_
    · clear hV
      simp only [putsOf, List.foldl_cons, List.foldl_nil, List.getD_cons_zero, List.getD_cons_succ, List.getD_nil, Act.put, List.setIfInBounds_toArray, List.set_cons_zero, List.set_cons_succ] at hb
      subst hb
      rw [if_pos (by rfl)]
      go_wp2_with fail
      exact hK.out _ _ ⟨_, rfl, hS, rfl, AllP.same _⟩
    refine RelySteps.cons (RelyStep.mk [1, 2] [5, 6, 7, 8, 9, 10, 11] rfl rfl rfl (fun xv wS hS hV bq hb K hK => ?_)) ?_
    · obtain ⟨h1, h2, _⟩ := hV
      have h1 : xv 1 = _ := h1
      have h2 : xv 2 = _ := h2
      simp only [putsOf, List.foldl_cons, List.foldl_nil, List.getD_cons_zero, List.getD_cons_succ, List.getD_nil, Act.put, List.setIfInBounds_toArray, List.set_cons_zero, List.set_cons_succ, h1, h2] at hb
      clear h1
      clear h2
      subst hb
      rw [if_pos (by rfl)]
      go_wp2_with fail
      exact hK.out _ _ ⟨_, rfl, hS, rfl, AllP.same _⟩
    refine RelySteps.cons (RelyStep.mk [3] [0, 6, 7, 8, 9, 10, 11] rfl rfl rfl (fun xv wS hS hV bq hb K hK => ?_)) ?_
    · obtain ⟨h3, _⟩ := hV
      have h3 : xv 3 = _ := h3
      simp only [putsOf, List.foldl_cons, List.foldl_nil, List.getD_cons_zero, List.getD_cons_succ, List.getD_nil, Act.put, List.setIfInBounds_toArray, List.set_cons_zero, List.set_cons_succ, h3] at hb
      clear h3
      subst hb
      rw [if_pos (by rfl)]
      (have g0 := HG.out _ (HB.out.trans (hS.mono HB.out.size)); have g1 := World.block_lt_of_cell? _ _ g0)
      go_wp2_with fail
      exact hK.out _ _ ⟨_, rfl, hS, rfl, AllP.same _⟩
    refine RelySteps.cons (RelyStep.mk [4] [0, 1, 2, 6, 7, 8, 9, 10] rfl rfl rfl (fun xv wS hS hV bq hb K hK => ?_)) ?_
    · obtain ⟨h4, _⟩ := hV
      have h4 : xv 4 = _ := h4
      simp only [putsOf, List.foldl_cons, List.foldl_nil, List.getD_cons_zero, List.getD_cons_succ, List.getD_nil, Act.put, List.setIfInBounds_toArray, List.set_cons_zero, List.set_cons_succ, h4] at hb
      clear h4
      subst hb
      rw [if_pos (by rfl)]
      have HSS := Lib.hid hS
      clear hS
      go_wp2_with fail
      refine (r11Reach l B2 d2 wS (HIL.out.later (HB.out.trans (HSS.out.mono HB.out.size))) HOKL.out h256).mono ?_
      rintro e w' ⟨g, rfl, ho, hb⟩
      exact hK.out _ _ ⟨_, rfl, HSS.out.trans (hb.mono HSS.out.size), owns_mono ho (Nat.le_trans HB.out.size HSS.out.size), AllP.of _ (fun j _ u h => crV_below hb h)⟩
    refine RelySteps.cons (RelyStep.mk [] [0, 1, 2, 3, 4, 5, 8, 9, 10, 11, 12] rfl rfl rfl (fun xv wS hS hV bq hb K hK => ?_)) ?_
    · clear hV
      simp only [putsOf, List.foldl_cons, List.foldl_nil, List.getD_cons_zero, List.getD_cons_succ, List.getD_nil, Act.put, List.setIfInBounds_toArray, List.set_cons_zero, List.set_cons_succ] at hb
      subst hb
      rw [if_pos (by rfl)]
      go_wp2_with fail
      exact hK.out _ _ ⟨_, rfl, hS, rfl, AllP.same _⟩
    refine RelySteps.cons (RelyStep.mk [6] [0, 1, 2, 3, 4, 5, 8, 10, 11, 12] rfl rfl rfl (fun xv wS hS hV bq hb K hK => ?_)) ?_
    · obtain ⟨h6, _⟩ := hV
      have h6 : xv 6 = _ := h6
      simp only [putsOf, List.foldl_cons, List.foldl_nil, List.getD_cons_zero, List.getD_cons_succ, List.getD_nil, Act.put, List.setIfInBounds_toArray, List.set_cons_zero, List.set_cons_succ, h6] at hb
      clear h6
      subst hb
      rw [if_pos (by rfl)]
      (have q1 := HCB.out _ hS; have c1 := (q1.cell 1).trans (show _ = some (Value.slice (some ⟨b, off, none⟩) p.ts.length d) from rfl); have c2 := q1.lt; clear q1)
      go_wp2_with fail
      exact hK.out _ _ ⟨_, rfl, hS, rfl, AllP.same _⟩
    refine RelySteps.cons (RelyStep.mk [] [0, 1, 2, 3, 4, 5, 6, 7, 10, 11, 12] rfl rfl rfl (fun xv wS hS hV bq hb K hK => ?_)) ?_
    · clear hV
      simp only [putsOf, List.foldl_cons, List.foldl_nil, List.getD_cons_zero, List.getD_cons_succ, List.getD_nil, Act.put, List.setIfInBounds_toArray, List.set_cons_zero, List.set_cons_succ] at hb
      subst hb
      rw [if_pos (by rfl)]
      go_wp2_with fail
      exact hK.out _ _ ⟨_, rfl, hS, rfl, AllP.same _⟩
    refine RelySteps.cons (RelyStep.mk [7, 8] [0, 1, 2, 3, 4, 5, 11, 12] rfl rfl rfl (fun xv wS hS hV bq hb K hK => ?_)) ?_
    · obtain ⟨h7, h8, _⟩ := hV
      have h7 : xv 7 = _ := h7
      have h8 : xv 8 = _ := h8
      simp only [putsOf, List.foldl_cons, List.foldl_nil, List.getD_cons_zero, List.getD_cons_succ, List.getD_nil, Act.put, List.setIfInBounds_toArray, List.set_cons_zero, List.set_cons_succ, h7, h8] at hb
      clear h7
      clear h8
      subst hb
      rw [if_pos (by rfl)]
      go_wp2_with fail
      exact hK.out _ _ ⟨_, rfl, hS, rfl, AllP.same _⟩
    refine RelySteps.cons (RelyStep.mk [9] [0, 1, 2, 3, 4, 5, 6, 12] rfl rfl rfl (fun xv wS hS hV bq hb K hK => ?_)) ?_
    · obtain ⟨h9, _⟩ := hV
      have h9 : xv 9 = _ := h9
      simp only [putsOf, List.foldl_cons, List.foldl_nil, List.getD_cons_zero, List.getD_cons_succ, List.getD_nil, Act.put, List.setIfInBounds_toArray, List.set_cons_zero, List.set_cons_succ, h9] at hb
      clear h9
      subst hb
      rw [if_pos (by rfl)]
      (have g0 := HG.out _ (HB.out.trans (hS.mono HB.out.size)); have g1 := World.block_lt_of_cell? _ _ g0)
      go_wp2_with fail
      exact hK.out _ _ ⟨_, rfl, hS, rfl, AllP.same _⟩
    refine RelySteps.cons (RelyStep.mk [10] [0, 1, 2, 3, 5, 6, 7, 8] rfl rfl rfl (fun xv wS hS hV bq hb K hK => ?_)) ?_
    · obtain ⟨h10, _⟩ := hV
      have h10 : xv 10 = _ := h10
      simp only [putsOf, List.foldl_cons, List.foldl_nil, List.getD_cons_zero, List.getD_cons_succ, List.getD_nil, Act.put, List.setIfInBounds_toArray, List.set_cons_zero, List.set_cons_succ, h10] at hb
      clear h10
      subst hb
      rw [if_pos (by rfl)]
      have HSS := Lib.hid hS
      clear hS
      go_wp2_with fail
      refine (r11Touches l B2 d2 wS (HIL.out.later (HB.out.trans (HSS.out.mono HB.out.size))) HOKL.out h256).mono ?_
      rintro e w' ⟨v, rfl, ho, hb⟩
      exact hK.out _ _ ⟨_, rfl, HSS.out.trans (hb.mono HSS.out.size), owns_mono ho (Nat.le_trans HB.out.size HSS.out.size), AllP.of _ (fun j _ u h => crV_below hb h)⟩
    refine RelySteps.cons (RelyStep.mk [5] [6, 7, 8, 9, 11] rfl rfl rfl (fun xv wS hS hV bq hb K hK => ?_)) ?_
    · obtain ⟨h5, _⟩ := hV
      simp only [putsOf, List.foldl_cons, List.foldl_nil, List.getD_cons_zero, List.getD_cons_succ, List.getD_nil, Act.put, List.setIfInBounds_toArray, List.set_cons_zero, List.set_cons_succ] at hb
      generalize xv 5 = y5 at *
      subst hb
      rw [if_pos (by rfl)]
      have HSS := Lib.hid hS
      have H5 := Lib.hid h5
      clear hS h5
      go_wp2_with fail
      exact hK.out _ _ ⟨_, rfl, HSS.out, H5.out, AllP.same _⟩
    refine RelySteps.cons (RelyStep.mk [11] [12] rfl rfl rfl (fun xv wS hS hV bq hb K hK => ?_)) ?_
    · obtain ⟨h11, _⟩ := hV
      simp only [putsOf, List.foldl_cons, List.foldl_nil, List.getD_cons_zero, List.getD_cons_succ, List.getD_nil, Act.put, List.setIfInBounds_toArray, List.set_cons_zero, List.set_cons_succ] at hb
      generalize xv 11 = y11 at *
      subst hb
      rw [if_pos (by rfl)]
      have HSS := Lib.hid hS
      have H5 := Lib.hid h11
      clear hS h11
      go_wp2_with fail
      exact hK.out _ _ ⟨_, rfl, HSS.out, H5.out, AllP.same _⟩
    exact RelySteps.nil
  case rE =>
    intro xv wE hS hV
    have h12 := hV 12 (by decide) (by decide)
    have h13 := hV 13 (by decide) (by decide)
    clear hV
    simp only [putsOf, List.foldl_cons, List.foldl_nil, List.getD_cons_zero, List.getD_cons_succ, List.getD_nil, Act.put, List.setIfInBounds_toArray, List.set_cons_zero, List.set_cons_succ]
    generalize xv 0 = y0 at *
    generalize xv 1 = y1 at *
    generalize xv 2 = y2 at *
    generalize xv 3 = y3 at *
    generalize xv 4 = y4 at *
    generalize xv 5 = y5 at *
    generalize xv 6 = y6 at *
    generalize xv 7 = y7 at *
    generalize xv 8 = y8 at *
    generalize xv 9 = y9 at *
    generalize xv 10 = y10 at *
    generalize xv 11 = y11 at *
    generalize xv 12 = y12 at *
    generalize xv 13 = y13 at *
    have HO1 := owned_below HO1.out hS
    have HO2 := owned_below HO2.out hS
    obtain ⟨Ad, cd, rfl⟩ := own_slice h13
    obtain ⟨gb, capb, rfl, hgb, hgbl, hcapb, hcmb, _⟩ := ownsRow_open h12 (by omega)
    have HM : Hid (RchM W wE (pgC A c (some ⟨b, off, none⟩) d p) l (.slice (some ⟨ga, 0, none⟩) (l.length + 1) capa) (.slice (some ⟨gb, 0, none⟩) (l.length + 1) capb) (.slice Ac (touchL l).length cc) (.slice Ad (touchL l).length cd)) := ⟨HCB.out _ hS, HB.out.trans (hS.mono HB.out.size), HO1, h12, HO2, h13⟩
    clear HO1 HO2 h12 h13 HCB hS HB HL hgb hgbl
    have hq : Hid ((touchL l).length ≤ 8) := by
      show _ ≤ _
      unfold touchL
      exact Nat.le_trans (List.length_filter_le _ _) (by simp)
    have q8 := owns_cell HM.out.b (boolC_get (rchL_get (l := l) (a := l.length) (Nat.le_refl _)))
    have q8l := World.block_lt_of_cell? _ _ q8
    have HOV : Hid (overB l 0 = rchB l l.length) := by show _ = _; unfold overB; simp
    go_wp2_with fail
    clear q8 q8l
    go_loopw [131, 14] (fun u s wr => ∃ i : Nat, i ≤ l.length + 1 ∧ u = .int .i64 i ∧ s = .bool (overB l (min i l.length)) ∧ Hid (RchM W wr (pgC A c (some ⟨b, off, none⟩) d p) l (.slice (some ⟨ga, 0, none⟩) (l.length + 1) capa) (.slice (some ⟨gb, 0, none⟩) (l.length + 1) capb) (.slice Ac (touchL l).length cc) (.slice Ad (touchL l).length cd))) (fun u _ _ => l.length + 1 - (intOf u).toNat)
    case atStart => exact ⟨0, by omega, rfl, by rw [Nat.zero_min, HOV.out], HM⟩
    case round =>
      clear HM HOV
      obtain ⟨i, hi, rfl, rfl, hM⟩ := hrel
      obtain ⟨ov, hov⟩ : ∃ ov, overB l (min i l.length) = ov := ⟨_, rfl⟩
      rw [hov]
      have HOV := Lib.hid hov
      clear hov
      by_cases hlt : i ≤ l.length
      · have hii : (i : Int) < (l.length : Int) + 1 := by omega
        obtain ⟨rb, hrb⟩ : ∃ rb, rchB l i = rb := ⟨_, rfl⟩
        have q7 := owns_cell hM.out.a (boolC_get (rchL_get (l := l) (a := i) hlt))
        have q8 := owns_cell hM.out.b (boolC_get (rchL_get (l := l) (a := i) hlt))
        have q7l := World.block_lt_of_cell? _ _ q7
        have q8l := World.block_lt_of_cell? _ _ q8
        rw [hrb] at q7 q8
        have HRI := Lib.hid hrb
        clear hrb
        go_wp2_with fail
        go_quiet (fail)
        clear q7 q8 q7l q8l
        have hM := Lib.hid (hM.out.later (below_drewN (Below.refl _ _) nq))
        generalize wr.drewN nq = wr at *
        have q8 := owns_cell hM.out.b (boolC_get (rchL_get (l := l) (a := i) hlt))
        have q8l := World.block_lt_of_cell? _ _ q8
        rw [HRI.out] at q8
        have c1 := (hM.out.lies.cell 1).trans (show _ = some (Value.slice (some ⟨b, off, none⟩) p.ts.length d) from rfl)
        have cl := hM.out.lies.lt
        have g0 := HG.out _ hM.out.bel
        have gl := World.block_lt_of_cell? _ _ g0
        cases ov
        case true =>
          have HN : Hid (overB l (min (i + 1) l.length) = true) := by
            show _ = _
            by_cases hl2 : i < l.length
            · rw [show min (i + 1) l.length = min i l.length + 1 by omega, over_next, HOV.out]; rfl
            · rw [show min (i + 1) l.length = min i l.length by omega, HOV.out]
          go_wp2
          go_roundw
          case rel => exact ⟨i + 1, by omega, by go_num, by rw [HN.out], hM⟩
          case measure => simp [intOf]; omega
        by_cases hl2 : i < l.length
        · have hi2 : (i : Int) < (l.length : Int) := by omega
          obtain ⟨x, hx⟩ : ∃ x, l[i]? = some x := ⟨_, List.getElem?_eq_getElem hl2⟩
          obtain ⟨b3, off3, hBe, _, hg⟩ := InsAt.at_ (HIL.out.later hM.out.bel) hx
          subst hBe
          have y0 := hg 0 _ (by decide) rfl
          rw [Nat.add_zero] at y0
          have hn : overB l (min (i + 1) l.length) = (rb && (x.op == 25)) := by
            rw [show min (i + 1) l.length = i + 1 by omega, over_next, show i = min i l.length by omega, HOV.out, ← show i = min i l.length by omega, endsAt_get hx, HRI.out]; simp
          obtain ⟨ob, hob⟩ : ∃ ob, (x.op == 25) = ob := ⟨_, rfl⟩
          rw [hob] at hn
          have HN := Lib.hid hn
          clear hn hg hx
          cases rb
          case false =>
            clear hob
            go_wp2
            go_roundw
            case rel => exact ⟨i + 1, by omega, by go_num, by rw [HN.out]; rfl, hM⟩
            case measure => simp [intOf]; omega
          go_wp2
          go_roundw
          case rel => exact ⟨i + 1, by omega, by go_num, by rw [HN.out]; rfl, hM⟩
          case measure => simp [intOf]; omega
        · obtain rfl : i = l.length := by omega
          have HN : Hid (overB l (min (l.length + 1) l.length) = false) := by
            show _ = _
            rw [show min (l.length + 1) l.length = min l.length l.length by omega, HOV.out]
          have e9 : decide (l.length < l.length) = false := by simp
          have e10 : decide ((l.length : Int) < (l.length : Int)) = false := by simp
          go_wp2
          go_roundw
          case rel => exact ⟨l.length + 1, by omega, by go_num, by rw [HN.out], hM⟩
          case measure => simp [intOf]
      · obtain rfl : i = l.length + 1 := by omega
        have hoe : ov = endsB l := by rw [← HOV.out, ← over_ends]; congr 1; omega
        have e11 : (be == ov) = true := by rw [HBE.out, hoe]; simp
        have HE11 := Lib.hid e11
        have e12 : decide ((l.length : Int) + 1 < (l.length : Int) + 1) = false := by simp
        have e13 : decide (l.length + 1 < l.length + 1) = false := by simp
        clear hoe e11
        rw [show ((l.length + 1 : Nat) : Int) = (l.length : Int) + 1 by simp]
        go_wp2_with fail
        obtain ⟨z4, rfl⟩ : ∃ z4, z4 = u4 := ⟨_, rfl⟩
        go_loopw [175] (fun u wr => ∃ k : Nat, k ≤ (touchL l).length ∧ u = .int .i64 k ∧ Hid (RchM W wr (pgC A c (some ⟨b, off, none⟩) d p) l (.slice (some ⟨ga, 0, none⟩) (l.length + 1) capa) (.slice (some ⟨gb, 0, none⟩) (l.length + 1) capb) (.slice Ac (touchL l).length cc) (.slice Ad (touchL l).length cd))) (fun u _ => (touchL l).length - (intOf u).toNat)
        case atStart => exact ⟨0, by omega, rfl, hM⟩
        case round =>
          clear hM
          obtain ⟨k, hk, rfl, hM⟩ := hrel
          have hq8 := hq.out
          by_cases hlt : k < (touchL l).length
          · have hkk : (k : Int) < ((touchL l).length : Int) := by omega
            obtain ⟨r, hr⟩ : ∃ r, (touchL l)[k]? = some r := ⟨_, List.getElem?_eq_getElem hlt⟩
            obtain ⟨gc, capc, ec, _, _, hcapc, hcmc, hcell⟩ := ownsRow_open hM.out.c (by omega)
            obtain ⟨gd, capd, ed, _, _, hcapd, hcmd, hceld⟩ := ownsRow_open hM.out.d (by omega)
            simp only [Value.slice.injEq, true_and] at ec ed
            obtain ⟨hA1, hC1⟩ := ec
            obtain ⟨hA2, hC2⟩ := ed
            subst hA1 hC1 hA2 hC2
            have q7 := hcell k _ (ints_get hr)
            have q8 := hceld k _ (ints_get hr)
            have q7l := World.block_lt_of_cell? _ _ q7
            have q8l := World.block_lt_of_cell? _ _ q8
            clear hcell hceld hr
            go_wp2_with fail
            go_quiet (fail)
            clear q7 q8 q7l q8l
            have hM := Lib.hid (hM.out.later (below_drewN (Below.refl _ _) nq))
            generalize wr.drewN nq = wr at *
            go_wp2
            go_roundw
            case rel => exact ⟨k + 1, by omega, by go_num, hM⟩
            case measure => simp [intOf]; omega
          · obtain rfl : k = (touchL l).length := by omega
            go_wp2
            go_ret
            exact ⟨ret_bool HE11.out, hM.out.bel⟩
end Go.Proofs.Yteecfffgigaomaa
