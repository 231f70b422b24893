/-
  The document's Copy: its rows lie apart.
-/
import Derived.Test.YtebgcehcnenjiaaDoorCopy2
import Derived.Deep.DeepCutAuto
namespace Go.Proofs.YtebgcehcnenjiaaDoor
open Go.RowKit
set_option linter.unusedVariables false
set_option linter.unusedSimpArgs false
/-- No two of the rows lie in one block. -/
def ApartV (vs : List Value) : Prop := ∀ (j k : Nat) (v v' : Value), j < k → vs[j]? = some v → vs[k]? = some v' → ∀ r, v.ownBlock = some r → v'.ownBlock ≠ some r
theorem ApartV.snoc {vs : List Value} {u : Value} (h : ApartV vs) (hu : ∀ (j : Nat) (v : Value), vs[j]? = some v → ∀ r, v.ownBlock = some r → u.ownBlock ≠ some r) : ApartV (vs ++ [u]) := by
  intro j k v v' hjk hv hv'
  have hk := (List.getElem?_eq_some_iff.1 hv').1
  simp only [List.length_append, List.length_cons, List.length_nil] at hk
  rw [List.getElem?_append_left (by omega)] at hv
  by_cases e : k < vs.length
  · rw [List.getElem?_append_left e] at hv'
    exact h j k v v' hjk hv hv'
  · rw [List.getElem?_append_right (by omega), show k - vs.length = 0 by omega] at hv'
    simp at hv'
    subst hv'
    exact hu j v hv
/-- What Copy leaves: rows of the call's own. -/
def CpPostA (w : World) (p : Pg) (e : Ending) (w' : World) : Prop :=
  ∃ vr vt vs, ApartV vs ∧ e = .returned (.agg #[vr, vt]) ∧ w'.ownsRow w.heap.size 67 3 vr p.rs.length (rowsOf riF p.rs) ∧ w'.ownsRow w.heap.size 51 1 vt p.ts.length vs ∧ Inners w' w.heap.size w'.heap.size p.ts vs ∧ Below w.heap.size w w'
set_option maxHeartbeats 8000000 in
set_option maxRecDepth 100000 in
theorem rfCopyA (p : Pg) (A : Option Addr) (c : Nat) (B : Option Addr) (d : Nat) (w : World) (h : PgAt w A c B d p) (hr : p.rs.length ≤ 10) (ht : p.ts.length ≤ 10) (hl : ∀ l ∈ p.ts, l.length ≤ 1000) :
    Calls Tryd.prog 20 #[.agg (pgC A c B d p)] w (CpPostA w p) := by
  obtain ⟨hc1, hc2⟩ := seq_form h.1
  obtain ⟨hd1, hd2⟩ := h.2.form
  have hb0 : Below w.heap.size w ((w.alloc (.cells (pgC A c B d p) 35)).alloc (.cells #[.slice none 0 0, .slice none 0 0] 35)) := ((Below.refl _ _).alloc (Nat.le_refl _) _).alloc (by simp) _
  have l0 := (Lies.made w 35 (pgC A c B d p)).alloc (.cells #[.slice none 0 0, .slice none 0 0] 35)
  have l1 := Lies.made (w.alloc (.cells (pgC A c B d p) 35)) 35 #[.slice none 0 0, .slice none 0 0]
  rw [World.size_alloc] at l1
  have HH := Lib.hid h
  have HLEN := Lib.hid hl
  have HB0 := Lib.hid hb0
  have HL0 := Lib.hid l0
  have HL1 := Lib.hid l1
  clear h hl hb0 l0 l1
  go_enter Tryd.func20, Tryd.ntmps20
  go_upto_region 1 with (fail)
  generalize (w.alloc (.cells (pgC A c B d p) 35)).alloc (.cells #[.slice none 0 0, .slice none 0 0] 35) = w1 at *
  have c0 := (HL0.out.cell 0).trans (show _ = some (Value.slice A p.rs.length c) from rfl)
  have hlt0 := HL0.out.lt
  have HRS := Lib.hid ((HH.out.1.later HB0.out).later ((Below.refl w1.heap.size w1).alloc (Nat.le_refl _) (.cells #[] 67)))
  have HE := Lib.hid (owned_empty (w := w1) (B := w1.heap.size) 67 3 (Nat.le_refl _))
  go_wp2_with (at_builtin; refine append_argS (w1.alloc (.cells #[] 67)) 3 rfl (.tmp 5) (.tmp 7) 32 rfl w1.heap.size 67 _ 24 Tryd.underlying32 Tryd.infoRi rfl (by decide) _ 0 [] rfl HE.out A p.rs.length c rfl (rowsOf riF p.rs) HRS.out (riF_one _) (by unfold maxLen; omega) (by omega) (by simp) ?_)
  intro vr w2 ho2 hb2 hgr2
  obtain ⟨Ar, cr, rfl⟩ := own_slice ho2
  have hb12 : Below w1.heap.size w1 w2 := ((Below.refl w1.heap.size w1).alloc (Nat.le_refl _) (.cells #[] 67)).trans hb2
  have HB2 := Lib.hid (HB0.out.trans (hb12.mono HB0.out.size))
  have HL0a := Lib.hid (HL0.out.below hb12 HL0.out.lt)
  have HL1a := Lib.hid (HL1.out.below hb12 HL1.out.lt)
  have HO2 := Lib.hid (owns_mono ho2 HB0.out.size)
  have hw12 := hb12.size
  have hl1t := HL1.out.lt
  clear ho2 hb2 hgr2 hb12 HRS HE c0 hlt0 HB0 HL0 HL1
  go_wp2_with fail
  have HB3 := Lib.hid (HB2.out.alloc HB2.out.size (.cells #[.slice Ar p.rs.length cr, .slice none 0 0] 35))
  have HL0b := Lib.hid (HL0a.out.alloc (.cells #[.slice Ar p.rs.length cr, .slice none 0 0] 35))
  have HL1b := Lib.hid (HL1a.out.alloc (.cells #[.slice Ar p.rs.length cr, .slice none 0 0] 35))
  have HL2b := Lib.hid (Lies.made w2 35 #[.slice Ar p.rs.length cr, .slice none 0 0])
  have HO3 := Lib.hid (owned_below HO2.out ((Below.refl w2.heap.size w2).alloc (Nat.le_refl _) (.cells #[.slice Ar p.rs.length cr, .slice none 0 0] 35)))
  have hn3 : w.heap.size + 1 < w2.heap.size := by omega
  clear HB2 HL0a HL1a HO2
  generalize w2.alloc (.cells #[.slice Ar p.rs.length cr, .slice none 0 0] 35) = w3 at *
  generalize w2.heap.size = n3 at *
  have hw3 := HB3.out.size
  go_loopw [4] (fun u wr => ∃ (i : Nat) (vt : Value) (vs : List Value), i ≤ p.ts.length ∧ Hid (ApartV vs) ∧ u = .int .i64 i ∧ Hid (CpS w wr wr (pgC A c B d p) (.slice Ar p.rs.length cr) p vs) ∧ Hid (Lies wr n3 35 #[.slice Ar p.rs.length cr, vt]) ∧ Hid (wr.ownsRow w.heap.size 51 1 vt i vs)) (fun u _ => p.ts.length - (intOf u).toNat)
  case atStart => exact ⟨0, .slice none 0 0, [], by omega, (fun j k v v' _ hv => by cases hv), rfl, ⟨HB3.out, Nat.le_refl _, HO3.out, fun r hr => (own_lt HO3.out hr).2, (fun j v hv => by cases hv), HL0b.out, HL1b.out⟩, HL2b.out, World.ownsRow_nil _ _ _ _⟩
  case round =>
    clear HB3 HL0b HL1b HL2b HO3 hw3
    obtain ⟨i, vt, vs, hi, HAP, rfl, hS, hn, hv⟩ := hrel
    have c1 := (hS.out.box.cell 1).trans (show _ = some (Value.slice B p.ts.length d) from rfl)
    have hlc := hS.out.box.lt
    by_cases hlt : i < p.ts.length
    · have hii : (i : Int) < (p.ts.length : Int) := by omega
      obtain ⟨l, hl⟩ : ∃ l, p.ts[i]? = some l := ⟨_, List.getElem?_eq_getElem hlt⟩
      obtain ⟨b, off, B2, d2, rfl, g0, hil⟩ := HH.out.2.at_ hl
      have hbl := World.block_lt_of_cell? w _ g0
      obtain ⟨hc3, hc4⟩ := seq_form hil
      have hll := HLEN.out l (List.mem_of_getElem? hl)
      have G0 := Lib.hid g0
      have HIL := Lib.hid hil
      have HLL := Lib.hid hl
      have HVL : Hid (vs.length = i) := by have := hv.out.1; show _ = _; omega
      have hS0 : Hid (w.heap.size + 2 ≤ wr.heap.size) := hS.out.res.lt
      have hn3l := Lib.hid hn.out.lt
      clear g0 hil hl
      go_wp2_with fail
      clear c1 hlc
      refine wp_region_rely (fun q => CpS w wr q (pgC A c (some ⟨b, off, none⟩) d p) (.slice Ar p.rs.length cr) p vs) (cpV w wr n3 w.heap.size b off i (.slice Ar p.rs.length cr) vt (.slice (some ⟨b, off, none⟩) p.ts.length d) (.slice B2 l.length d2) p vs l) [some 17, some 18, some 19, some 20, some 21, some 22, some 23, some 24, some 25, some 26, some 27, some 28, none] [[], [0, 13], [], [], [3], [], [4, 5], [6], [2, 7], [8], [1, 9, 14, 13], [], [11, 10, 13]] [[], [0], [], [], [3], [], [3, 4, 5], [4, 5, 6], [2, 6, 7], [2, 7, 8], [0, 1, 2, 7, 8, 9, 14], [0, 1, 2, 3, 4, 5, 6, 7, 8, 9, 14], [0, 1, 2, 3, 4, 5, 6, 7, 8, 9, 10, 11, 13, 14]] [[2, 3, 4, 5, 6, 7, 8, 9, 10, 13, 14], [2, 3, 4, 5, 6, 7, 8, 9, 13, 14], [0, 1, 3, 4, 5, 6, 7, 9, 10, 13, 14], [0, 1, 2, 5, 6, 7, 8, 9, 10, 13, 14], [0, 1, 2, 5, 7, 8, 9, 10, 13, 14], [0, 1, 2, 3, 4, 7, 8, 9, 10, 13, 14], [0, 1, 2, 8, 9, 10, 13, 14], [0, 1, 2, 9, 10, 13, 14], [0, 1, 3, 13, 14], [0, 1, 3, 4, 5, 13, 14], [3, 4, 5, 13], [10, 13], []] [0, 1, 2, 3, 4, 5, 6, 7, 8, 9, 10, 11, 12] 15 (by kernel_rfl) (by kernel_rfl) (by kernel_rfl) (by kernel_rfl) ?rS ?rI ?rT ?rE
      case rS => exact hS.out.kept (Kept.drew noRow wr) (fun _ _ h => h) (fun h => h) (fun h => h) (fun _ _ _ _ h => h) (fun _ _ _ _ h => h)
      case rI =>
        intro j h1 h2
        have h2 : 13 ≤ j := h2
        have : j = 13 ∨ j = 14 := by omega
        rcases this with rfl | rfl
        · exact Lies.drew hn.out
        · exact owns_drew hv.out
      case rT =>
        refine RelySteps.cons (RelyStep.mk [] [2, 3, 4, 5, 6, 7, 8, 9, 10, 13, 14] rfl rfl rfl (fun xv wS hS hV bq hb K hK => ?_)) ?_
        · clear hV
          simp only [putsOf, List.foldl_cons, List.foldl_nil, List.getD_cons_zero, List.getD_cons_succ, List.getD_nil, cond_true, cond_false, Act.put, List.setIfInBounds_toArray, List.set_cons_zero, List.set_cons_succ] at hb
          subst hb
          rw [if_pos (by rfl)]
          go_wp2_with fail
          exact hK.out _ _ ⟨_, rfl, hS, rfl, AllP.same _⟩
        refine RelySteps.cons (RelyStep.mk [0, 13] [2, 3, 4, 5, 6, 7, 8, 9, 13, 14] rfl rfl rfl (fun xv wS hS hV bq hb K hK => ?_)) ?_
        · obtain ⟨h0, h13, _⟩ := hV
          have h0 : xv 0 = _ := h0
          simp only [putsOf, List.foldl_cons, List.foldl_nil, List.getD_cons_zero, List.getD_cons_succ, List.getD_nil, cond_true, cond_false, Act.put, List.setIfInBounds_toArray, List.set_cons_zero, List.set_cons_succ, h0] at hb
          clear h0
          generalize xv 13 = y13 at *
          subst hb
          rw [if_pos (by rfl)]
          (have q1 : Lies wS n3 _ _ := h13; have c1 := (q1.cell 1).trans (show _ = some vt from rfl); have c2 := q1.lt; clear q1 h13)
          go_wp2_with fail
          exact hK.out _ _ ⟨_, rfl, hS, rfl, AllP.same _⟩
        refine RelySteps.cons (RelyStep.mk [] [0, 1, 3, 4, 5, 6, 7, 9, 10, 13, 14] rfl rfl rfl (fun xv wS hS hV bq hb K hK => ?_)) ?_
        · clear hV
          simp only [putsOf, List.foldl_cons, List.foldl_nil, List.getD_cons_zero, List.getD_cons_succ, List.getD_nil, cond_true, cond_false, Act.put, List.setIfInBounds_toArray, List.set_cons_zero, List.set_cons_succ] at hb
          subst hb
          rw [if_pos (by rfl)]
          have HSS := Lib.hid hS
          clear hS
          go_wp2_with fail
          exact hK.out _ _ ⟨_, rfl, HSS.out.kept (Kept.alloc noRow wS _) (fun _ _ h => h) (fun h => h) (fun h => h) (fun _ _ _ _ h => h) (fun _ _ _ _ h => h), owned_empty _ _ HSS.out.le, AllP.of _ (fun j _ u h => cpV_alloc _ h)⟩
        refine RelySteps.cons (RelyStep.mk [] [0, 1, 2, 5, 6, 7, 8, 9, 10, 13, 14] rfl rfl rfl (fun xv wS hS hV bq hb K hK => ?_)) ?_
        · clear hV
          simp only [putsOf, List.foldl_cons, List.foldl_nil, List.getD_cons_zero, List.getD_cons_succ, List.getD_nil, cond_true, cond_false, Act.put, List.setIfInBounds_toArray, List.set_cons_zero, List.set_cons_succ] at hb
          subst hb
          rw [if_pos (by rfl)]
          go_wp2_with fail
          exact hK.out _ _ ⟨_, rfl, hS, rfl, AllP.same _⟩
        refine RelySteps.cons (RelyStep.mk [3] [0, 1, 2, 5, 7, 8, 9, 10, 13, 14] rfl rfl rfl (fun xv wS hS hV bq hb K hK => ?_)) ?_
        · obtain ⟨h3, _⟩ := hV
          have h3 : xv 3 = _ := h3
          simp only [putsOf, List.foldl_cons, List.foldl_nil, List.getD_cons_zero, List.getD_cons_succ, List.getD_nil, cond_true, cond_false, Act.put, List.setIfInBounds_toArray, List.set_cons_zero, List.set_cons_succ, h3] at hb
          clear h3
          subst hb
          rw [if_pos (by rfl)]
          (have q1 := hS.box; have c1 := (q1.cell 1).trans (show _ = some (Value.slice (some ⟨b, off, none⟩) p.ts.length d) from rfl); have c2 := q1.lt; clear q1)
          go_wp2_with fail
          exact hK.out _ _ ⟨_, rfl, hS, rfl, AllP.same _⟩
        refine RelySteps.cons (RelyStep.mk [] [0, 1, 2, 3, 4, 7, 8, 9, 10, 13, 14] rfl rfl rfl (fun xv wS hS hV bq hb K hK => ?_)) ?_
        · clear hV
          simp only [putsOf, List.foldl_cons, List.foldl_nil, List.getD_cons_zero, List.getD_cons_succ, List.getD_nil, cond_true, cond_false, Act.put, List.setIfInBounds_toArray, List.set_cons_zero, List.set_cons_succ] at hb
          subst hb
          rw [if_pos (by rfl)]
          go_wp2_with fail
          exact hK.out _ _ ⟨_, rfl, hS, rfl, AllP.same _⟩
        refine RelySteps.cons (RelyStep.mk [4, 5] [0, 1, 2, 8, 9, 10, 13, 14] rfl rfl rfl (fun xv wS hS hV bq hb K hK => ?_)) ?_
        · obtain ⟨h4, h5, _⟩ := hV
          have h4 : xv 4 = _ := h4
          have h5 : xv 5 = _ := h5
          simp only [putsOf, List.foldl_cons, List.foldl_nil, List.getD_cons_zero, List.getD_cons_succ, List.getD_nil, cond_true, cond_false, Act.put, List.setIfInBounds_toArray, List.set_cons_zero, List.set_cons_succ, h4, h5] at hb
          clear h4
          clear h5
          subst hb
          rw [if_pos (by rfl)]
          go_wp2_with fail
          exact hK.out _ _ ⟨_, rfl, hS, rfl, AllP.same _⟩
        refine RelySteps.cons (RelyStep.mk [6] [0, 1, 2, 9, 10, 13, 14] rfl rfl rfl (fun xv wS hS hV bq hb K hK => ?_)) ?_
        · obtain ⟨h6, _⟩ := hV
          have h6 : xv 6 = _ := h6
          simp only [putsOf, List.foldl_cons, List.foldl_nil, List.getD_cons_zero, List.getD_cons_succ, List.getD_nil, cond_true, cond_false, Act.put, List.setIfInBounds_toArray, List.set_cons_zero, List.set_cons_succ, h6] at hb
          clear h6
          subst hb
          rw [if_pos (by rfl)]
          (have c1 := (hS.bel.cell hbl).trans G0.out; have c2 : b < wS.heap.size := Nat.lt_of_lt_of_le hbl hS.bel.size)
          go_wp2_with fail
          exact hK.out _ _ ⟨_, rfl, hS, rfl, AllP.same _⟩
        refine RelySteps.cons (RelyStep.mk [2, 7] [0, 1, 3, 13, 14] rfl rfl rfl (fun xv wS hS hV bq hb K hK => ?_)) ?_
        · obtain ⟨h2, h7, _⟩ := hV
          have h7 : xv 7 = _ := h7
          simp only [putsOf, List.foldl_cons, List.foldl_nil, List.getD_cons_zero, List.getD_cons_succ, List.getD_nil, cond_true, cond_false, Act.put, List.setIfInBounds_toArray, List.set_cons_zero, List.set_cons_succ, h7] at hb
          generalize xv 2 = y2 at *
          clear h7
          subst hb
          rw [if_pos (by rfl)]
          have HSS := Lib.hid hS
          have hvt := hn
          clear hS
          refine step_list (ops := #[]) (by rfl) (append_argS wS 6 rfl (.tmp 19) (.tmp 24) 51 rfl wr.heap.size 24 _ 48 Tryd.underlying51 Tryd.infoIn rfl (by decide) y2 0 [] rfl h2 B2 l.length d2 rfl (rowsOf inF l) (HIL.out.later HSS.out.bel) (inF_one _) (by unfold maxLen; omega) (by omega) HSS.out.le ?_)
          intro v' w' ho hb hgr
          rw [List.nil_append, Nat.zero_add] at ho
          have hk := Kept.of_grown hgr
          have hg : ∀ r, y2.ownBlock = some r → wr.heap.size ≤ r := fun r hr => (own_lt h2 hr).1
          exact hK.out _ _ ⟨_, rfl, HSS.out.kept hk (fun k hk2 hs => by have := hg k hs; have := hS0.out; omega) (fun hs => by have := hg _ hs; have := hS0.out; omega) (fun hs => by have := hg _ hs; have := hS0.out; omega) (fun r cur hr _ hs => by have := hg r hs; omega) (fun r cur hr _ hs => by have := hg r hs; omega), ho, AllP.of _ (fun j hj u h => cpV_low hk (fun hs => by have := hg n3 hs; have := hn3l.out; omega) (fun r cur hv2 hl2 hs => by have := hg r hs; have := (own_lt hv.out hv2).2; omega) (all_in cpLow rfl hj) h)⟩
        refine RelySteps.cons (RelyStep.mk [8] [0, 1, 3, 4, 5, 13, 14] rfl rfl rfl (fun xv wS hS hV bq hb K hK => ?_)) ?_
        · obtain ⟨h8, _⟩ := hV
          simp only [putsOf, List.foldl_cons, List.foldl_nil, List.getD_cons_zero, List.getD_cons_succ, List.getD_nil, cond_true, cond_false, Act.put, List.setIfInBounds_toArray, List.set_cons_zero, List.set_cons_succ] at hb
          generalize xv 8 = y8 at *
          subst hb
          rw [if_pos (by rfl)]
          have HSS := Lib.hid hS
          have H8 := Lib.hid h8
          obtain ⟨A8, c8, rfl⟩ := own_slice h8
          clear hS h8
          go_wp2_with fail
          exact hK.out _ _ ⟨_, rfl, HSS.out.kept (Kept.alloc noRow wS _) (fun _ _ h => h) (fun h => h) (fun h => h) (fun _ _ _ _ h => h) (fun _ _ _ _ h => h), ⟨wS.heap.size, _, rfl, HSS.out.le, Lies.made _ _ _, owned_below H8.out ((Below.refl _ _).alloc (Nat.le_refl _) _)⟩, AllP.of _ (fun j _ u h => cpV_alloc _ h)⟩
        refine RelySteps.cons (RelyStep.mk [1, 9, 14, 13] [3, 4, 5, 13] rfl rfl rfl (fun xv wS hS hV bq hb K hK => ?_)) ?_
        · obtain ⟨h1, h9, h14, h13, _⟩ := hV
          have h1 : xv 1 = _ := h1
          simp only [putsOf, List.foldl_cons, List.foldl_nil, List.getD_cons_zero, List.getD_cons_succ, List.getD_nil, cond_true, cond_false, Act.put, List.setIfInBounds_toArray, List.set_cons_zero, List.set_cons_succ, h1] at hb
          clear h1
          generalize xv 9 = y9 at *
          generalize xv 14 = y14 at *
          generalize xv 13 = y13 at *
          subst hb
          rw [if_pos (by rfl)]
          have HSS := Lib.hid hS
          obtain ⟨g, u, rfl, hg9, hl9, hu9⟩ := h9
          clear hS
          refine step_list (ops := #[]) (by rfl) (append_argS wS 1 rfl (.tmp 18) (.tmp 26) 33 rfl w.heap.size 51 _ 24 Tryd.underlying33 Tryd.infoTh rfl (by decide) vt i vs rfl h14 (some ⟨g, 0, none⟩) 1 1 rfl [u] ⟨rfl, _, _, rfl, Nat.le_refl _, by unfold maxLen; omega, (fun h => by cases h), fun k x hx => ⟨g, 0, rfl, by rw [Nat.zero_add, hl9.cell]; rw [← hx]; simp⟩⟩ (by intro q hq; simp at hq; subst hq; exact own_one hu9) (by unfold maxLen; omega) (by omega) HSS.out.bel.size ?_)
          intro v' w' ho hb hgr
          have hk := Kept.of_grown hgr
          exact hK.out _ _ ⟨_, rfl, HSS.out.kept hk (fun k hk2 hs => by have := (own_lt h14 hs).1; omega) (fun hs => own_ne h14 HSS.out.box (by decide) hs) (fun hs => own_ne h14 HSS.out.res (by decide) hs) (fun r cur hr hl3 hs => own_ne h14 hl3 (by decide) hs) (fun r cur hr hl3 hs => own_ne h14 hl3 (by decide) hs), ⟨u, ho, owns_kept hu9 hk (fun r cur _ hl3 hs => own_ne h14 hl3 (by decide) hs)⟩, AllP.of _ (fun j hj q h => cpV_low2 hk (fun hs => own_ne h14 (show Lies wS n3 _ _ from h13) (by decide) hs) (all_in (fun j => cpLow j && j != 14) rfl hj) h)⟩
        refine RelySteps.cons (RelyStep.mk [] [10, 13] rfl rfl rfl (fun xv wS hS hV bq hb K hK => ?_)) ?_
        · clear hV
          simp only [putsOf, List.foldl_cons, List.foldl_nil, List.getD_cons_zero, List.getD_cons_succ, List.getD_nil, cond_true, cond_false, Act.put, List.setIfInBounds_toArray, List.set_cons_zero, List.set_cons_succ] at hb
          subst hb
          rw [if_pos (by rfl)]
          go_wp2_with fail
          exact hK.out _ _ ⟨_, rfl, hS, rfl, AllP.same _⟩
        refine RelySteps.cons (RelyStep.mk [11, 10, 13] [] rfl rfl rfl (fun xv wS hS hV bq hb K hK => ?_)) ?_
        · obtain ⟨h11, h10, h13, _⟩ := hV
          have h11 : xv 11 = _ := h11
          simp only [putsOf, List.foldl_cons, List.foldl_nil, List.getD_cons_zero, List.getD_cons_succ, List.getD_nil, cond_true, cond_false, Act.put, List.setIfInBounds_toArray, List.set_cons_zero, List.set_cons_succ, h11] at hb
          clear h11
          generalize xv 10 = y10 at *
          generalize xv 13 = y13 at *
          subst hb
          rw [if_pos (by rfl)]
          have HSS := Lib.hid hS
          obtain ⟨u, ho, hu⟩ := h10
          have hl13 : Lies wS n3 35 #[.slice Ar p.rs.length cr, vt] := h13
          obtain ⟨A10, c10, rfl⟩ := own_slice ho
          have HO10 := Lib.hid ho
          have HU10 := Lib.hid hu
          have HL13 := Lib.hid hl13
          have q1 := (hl13.cell 1).trans (show _ = some vt from rfl)
          have f1 := hl13.free 1
          have qt := hl13.lt
          clear hS ho hu hl13 h13
          go_wp2_with fail
          exact hK.out _ _ ⟨undef, rfl, HSS.out.kept (Kept.put wS n3 1 _) (fun k hk (e : k = n3) => by omega) (fun (e : _ = n3) => by omega) (fun (e : _ = n3) => by omega) (fun r cur _ hl3 (e : r = n3) => by subst e; exact absurd (hl3.same HL13.out).1 (by decide)) (fun r cur _ hl3 (e : r = n3) => by subst e; exact absurd (hl3.same HL13.out).1 (by decide)),
            ⟨_, u, HL13.out.put 1 _, owns_put HO10.out HL13.out (by decide) 1 _, owns_put HU10.out HL13.out (by decide) 1 _⟩, AllP.of _ (fun j hj q h => cpV_low3 (all_in (fun j => cpLow j && (j != 14 && j != 13)) rfl hj) h)⟩
        exact RelySteps.nil
      case rE =>
        intro xv wE hS hV
        have h12 := hV 12 (by decide) (by decide)
        clear hV
        simp only [putsOf, List.foldl_cons, List.foldl_nil, List.getD_cons_zero, List.getD_cons_succ, List.getD_nil, cond_true, cond_false, Act.put, List.setIfInBounds_toArray, List.set_cons_zero, List.set_cons_succ]
        generalize xv 0 = y0 at *
        generalize xv 1 = y1 at *
        generalize xv 2 = y2 at *
        generalize xv 3 = y3 at *
        generalize xv 4 = y4 at *
        generalize xv 5 = y5 at *
        generalize xv 6 = y6 at *
        generalize xv 7 = y7 at *
        generalize xv 8 = y8 at *
        generalize xv 9 = y9 at *
        generalize xv 10 = y10 at *
        generalize xv 11 = y11 at *
        generalize xv 12 = y12 at *
        obtain ⟨v, u, hn', hv', hu'⟩ := h12
        have HS2 : Hid (CpS w wE wE (pgC A c (some ⟨b, off, none⟩) d p) (.slice Ar p.rs.length cr) p (vs ++ [u])) :=
          ⟨hS.bel, Nat.le_refl _, hS.rr, fun r hr => Nat.lt_of_lt_of_le (hS.rlt r hr) hS.le, (hS.inn.mono hS.le).snoc (by rw [HVL.out]; exact HLL.out) (owns_mono hu' (by have := hS0.out; omega)) (fun r hr => (own_lt hu' hr).2), hS.box, hS.res⟩
        have HAP2 : Hid (ApartV (vs ++ [u])) := HAP.out.snoc (fun j v hv r hr => by
          obtain ⟨_, _, _, h3⟩ := hS.inn j v hv
          have h4 := h3 r hr
          intro h5
          have := (own_lt hu' h5).1
          omega)
        have HN2 := Lib.hid hn'
        have HV2 := Lib.hid hv'
        clear hS hn' hv' hu'
        go_wp2
        go_roundw
        case rel => exact ⟨i + 1, v, vs ++ [u], by omega, HAP2, by go_num, HS2, HN2, HV2⟩
        case measure => simp [intOf]; omega
    · obtain rfl : i = p.ts.length := by omega
      obtain ⟨At, ct, rfl⟩ := own_slice hv.out
      have n0 := (hn.out.cell 0).trans (show _ = some (Value.slice Ar p.rs.length cr) from rfl)
      have n1 := (hn.out.cell 1).trans (show _ = some (Value.slice At p.ts.length ct) from rfl)
      have nlt := hn.out.lt
      have rf0 := hS.out.res.free 0
      have rf1 := hS.out.res.free 1
      have rlt := hS.out.res.lt
      have r0 := (hS.out.res.cell 0).trans (show _ = some (Value.slice none 0 0) from rfl)
      have r1 := (hS.out.res.cell 1).trans (show _ = some (Value.slice none 0 0) from rfl)
      have HK := Lib.hid ((Kept.put wr (w.heap.size + 1) 0 (.slice Ar p.rs.length cr)).trans (Kept.put _ (w.heap.size + 1) 1 (.slice At p.ts.length ct)) (fun _ _ h => h))
      have HR := Lib.hid ((hS.out.res.put 0 (.slice Ar p.rs.length cr)).put 1 (.slice At p.ts.length ct))
      have q0 := (HR.out.cell 0).trans (show _ = some (Value.slice Ar p.rs.length cr) from rfl)
      have q1 := (HR.out.cell 1).trans (show _ = some (Value.slice At p.ts.length ct) from rfl)
      have HQ0 := Lib.hid q0
      have HQ1 := Lib.hid q1
      clear q0 q1
      go_wp2
      refine bodyPost_ret (v := .agg #[.slice Ar p.rs.length cr, .slice At p.ts.length ct]) (by simp [results, Tryd.results20, go_sem, HQ0.out, HQ1.out]) rfl ?_
      exact ⟨_, _, vs, HAP.out, rfl, owns_kept hS.out.rr HK.out (fun r cur hr hl3 (e : r = w.heap.size + 1) => by subst e; exact absurd (hl3.same hS.out.res).1 (by decide)),
        owns_kept hv.out HK.out (fun r cur hr hl3 (e : r = w.heap.size + 1) => by subst e; exact absurd (hl3.same hS.out.res).1 (by decide)),
        (hS.out.inn.kept HK.out (fun r cur _ hl3 (e : r = w.heap.size + 1) => by subst e; exact absurd (hl3.same hS.out.res).1 (by decide))).mono HK.out.size,
        hS.out.bel.trans (HK.out.below hS.out.bel.size (fun k hk (e : k = w.heap.size + 1) => by omega))⟩
end Go.Proofs.YtebgcehcnenjiaaDoor
