/-
  The law's first line (layer 16): awake.
-/
import Derived.Test.YtiegmpjoiekekaaThz
namespace Go.Proofs.Ytiegmpjoiekekaa
open Go.RowKit
set_option linter.unusedVariables false
set_option linter.unusedSimpArgs false
theorem dz_no {l : List In} {x : Th} {e : Ev} {v : Nat} {k : Int} (h : (doZ l x e v).2 = k) (hk : k ≠ 0) : (doZ l x e v).1 = thO := by
  unfold doZ at h ⊢
  split
  case isFalse => rfl
  split
  case isFalse => rfl
  split
  case isFalse => rfl
  rename_i h1 h2 h3
  rw [if_pos h1, if_pos h2, if_pos h3] at h
  exact absurd h.symm hk
theorem seqA5 (w : World) : SeqS w 1 (.slice none thA5.sn.length 0) thA5.sn.length (cells64 thA5.sn) := SeqS.of_owns (World.ownsRow_nil w 0 23 1)
set_option maxHeartbeats 8000000 in
set_option maxRecDepth 100000 in
theorem awake16 (w : World) : Calls Try.prog 8 #[] w fun e w' => e = .returned (.bool true) ∧ Below w.heap.size w w' := by
  have HB := Lib.hid (Below.refl w.heap.size w)
  go_enter Try.func8, Try.ntmps8
  go_wp2_with fail
  refine (smp16 _).mono ?_
  rintro e wa1 ⟨v, rfl, ho, hbm⟩
  obtain ⟨A1, k1, rfl⟩ := owns_slice ho
  replace HB := Lib.hid (HB.out.trans (hbm.mono HB.out.size))
  have HI := Lib.hid (SeqS.of_owns ho)
  clear ho hbm
  go_wp2_with fail
  refine (nextU smpL A1 k1 thO none 0 wa1 HI.out smpOk thOkO (seqO _) (by decide)).mono ?_
  rintro e wb1 ⟨u, rfl, ⟨A2, k2, rfl, ho⟩, hbm⟩
  rw [sc1.1]
  rw [sc1.2.1]
  replace HB := Lib.hid (HB.out.trans (hbm.mono HB.out.size))
  clear hbm
  clear HI ho
  obtain ⟨K1a, K1b⟩ := sc1.2.2
  generalize hz1 : (nxZ smpL thO).1 = z1 at *
  clear hz1
  have HBn := Lib.hid (((Below.refl wb1.heap.size wb1).alloc (Nat.le_refl _) (.cells thZ 27)).alloc (by simp) (.cells akZ 31))
  have lz0 := ((Lies.made wb1 27 thZ).alloc (.cells akZ 31))
  have HZ0_0 := Lib.hid lz0
  clear lz0
  have lz1 := (Lies.made (wb1.alloc (.cells thZ 27)) 31 akZ)
  rw [show (wb1.alloc (.cells thZ 27)).heap.size = wb1.heap.size + 1 by simp] at lz1
  have HZ0_1 := Lib.hid lz1
  clear lz1
  generalize hw3 : ((wb1.alloc (.cells thZ 27)).alloc (.cells akZ 31)) = w3 at *
  generalize hn5 : wb1.heap.size = n5 at *
  have hns : n5 ≤ w3.heap.size := by rw [← hn5]; exact HBn.out.size
  have hk0 := kept_rowT (w := w3) (g := n5) (thC z1 (.slice A2 z1.sn.length k2))
  have HZ1_0 := Lib.hid (lies_row HZ0_0.out (thC z1 (.slice A2 z1.sn.length k2)))
  have HZ1_1 := Lib.hid (HZ0_1.out.kept hk0 (fun (e : n5 + 1 = n5) => by omega))
  have HBn0 := Lib.hid (HBn.out.trans (hk0.below (show n5 ≤ w3.heap.size from hns) (fun k hk (e : k = n5) => by omega)))
  have hks0 : w3.heap.size ≤ (w3.setRow (n5) (thC z1 (.slice A2 z1.sn.length k2))).heap.size := hk0.size
  have hk1 := kept_rowT (w := (w3.setRow (n5) (thC z1 (.slice A2 z1.sn.length k2)))) (g := n5 + 1) (akC ⟨7, 0, 0, 0, 0, 10⟩)
  have HZ2_0 := Lib.hid (HZ1_0.out.kept hk1 (fun (e : n5 = n5 + 1) => by omega))
  have HZ2_1 := Lib.hid (lies_row HZ1_1.out (akC ⟨7, 0, 0, 0, 0, 10⟩))
  have HBn1 := Lib.hid (HBn0.out.trans (hk1.below (show n5 ≤ (w3.setRow (n5) (thC z1 (.slice A2 z1.sn.length k2))).heap.size from Nat.le_trans hns hks0) (fun k hk (e : k = n5 + 1) => by omega)))
  have hks1 : w3.heap.size ≤ ((w3.setRow (n5) (thC z1 (.slice A2 z1.sn.length k2))).setRow (n5 + 1) (akC ⟨7, 0, 0, 0, 0, 10⟩)).heap.size := Nat.le_trans hks0 hk1.size
  clear hk0 hk1
  go_upto_region 2 with (first | refine wpList_store_row rfl 27 _ _ rfl (n5) (thC z1 (.slice A2 z1.sn.length k2)) rfl rfl 27 thZ HZ0_0.out infoTh rfl (thC_one _ rfl) ?_ | refine wpList_store_row rfl 31 _ _ rfl (n5 + 1) (akC ⟨7, 0, 0, 0, 0, 10⟩) rfl rfl 31 akZ HZ1_1.out infoAk rfl (akC_one _) ?_)
  clear hw3 hks0 hks1 hns HBn HBn0 HZ0_0 HZ0_1 HZ1_0 HZ1_1
  generalize ((w3.setRow (n5) (thC z1 (.slice A2 z1.sn.length k2))).setRow (n5 + 1) (akC ⟨7, 0, 0, 0, 0, 10⟩)) = wc1 at *
  have hbf := HBn1.out
  rw [← hn5] at hbf
  clear HBn1
  replace HB := Lib.hid (HB.out.trans (hbf.mono HB.out.size))
  clear hbf
  have HS1 := HZ2_0
  clear HZ2_0
  have HA1 := HZ2_1
  clear HZ2_1
  generalize n5 = b1 at *
  clear hn5
  generalize hv1 : (Value.slice A2 z1.sn.length k2) = v1 at *
  clear hv1
  go_wp2_with fail
  refine (smp16 _).mono ?_
  rintro e wa2 ⟨v, rfl, ho, hbm⟩
  obtain ⟨A1, k1, rfl⟩ := owns_slice ho
  replace HS1 := Lib.hid (HS1.out.below hbm HS1.out.lt)
  replace HA1 := Lib.hid (HA1.out.below hbm HA1.out.lt)
  replace HB := Lib.hid (HB.out.trans (hbm.mono HB.out.size))
  have HI := Lib.hid (SeqS.of_owns ho)
  clear ho hbm
  go_wp2_with fail
  refine (doU smpL A1 k1 thO none 0 e12 0 wa2 HI.out smpOk thOkO (seqO _) (by decide)).mono ?_
  rintro e wb2 ⟨u, rfl, ⟨A2, k2, rfl, ho⟩, hbm⟩
  rw [sc2.1]
  replace HS1 := Lib.hid (HS1.out.below hbm HS1.out.lt)
  replace HA1 := Lib.hid (HA1.out.below hbm HA1.out.lt)
  replace HB := Lib.hid (HB.out.trans (hbm.mono HB.out.size))
  clear hbm
  clear HI
  have HT := Lib.hid (owns_mono ho (Nat.zero_le _))
  clear ho
  rw [show (doZ smpL thO e12 0).1 = smT from rfl] at HT ⊢
  have HBn := Lib.hid ((Below.refl wb2.heap.size wb2).alloc (Nat.le_refl _) (.cells thZ 27))
  have lz0 := (Lies.made wb2 27 thZ)
  have HZ0_0 := Lib.hid lz0
  clear lz0
  generalize hw3 : (wb2.alloc (.cells thZ 27)) = w3 at *
  generalize hn5 : wb2.heap.size = n5 at *
  have hns : n5 ≤ w3.heap.size := by rw [← hn5]; exact HBn.out.size
  have hk0 := kept_rowT (w := w3) (g := n5) (thC smT (.slice A2 smT.sn.length k2))
  have HZ1_0 := Lib.hid (lies_row HZ0_0.out (thC smT (.slice A2 smT.sn.length k2)))
  have HBn0 := Lib.hid (HBn.out.trans (hk0.below (show n5 ≤ w3.heap.size from hns) (fun k hk (e : k = n5) => by omega)))
  have hks0 : w3.heap.size ≤ (w3.setRow (n5) (thC smT (.slice A2 smT.sn.length k2))).heap.size := hk0.size
  clear hk0
  go_upto_region 3 with (first | refine wpList_store_row rfl 27 _ _ rfl (n5) (thC smT (.slice A2 smT.sn.length k2)) rfl rfl 27 thZ HZ0_0.out infoTh rfl (thC_one _ rfl) ?_)
  clear hw3 hks0 hns HBn HZ0_0
  generalize (w3.setRow (n5) (thC smT (.slice A2 smT.sn.length k2))) = wc2 at *
  have hbf := HBn0.out
  rw [← hn5] at hbf
  clear HBn0
  replace HS1 := Lib.hid (HS1.out.below hbf HS1.out.lt)
  replace HA1 := Lib.hid (HA1.out.below hbf HA1.out.lt)
  replace HT := Lib.hid (owned_below HT.out hbf)
  replace HB := Lib.hid (HB.out.trans (hbf.mono HB.out.size))
  clear hbf
  have HS2 := HZ1_0
  clear HZ1_0
  generalize n5 = b2 at *
  clear hn5
  generalize A2 = AT at *
  generalize k2 = kT at *
  have do3 : ∀ (A0 : Option Addr) (k0 : Nat) (q : World), World.ownsRow q wc2.heap.size 50 6 (.slice A0 4 k0) 4 (rowsOf inF smpL) → World.ownsRow q 0 23 1 (.slice AT smT.sn.length kT) smT.sn.length (cells64 smT.sn) → Calls Try.prog 18 #[.slice A0 smpL.length k0, .agg (thC smT (.slice AT smT.sn.length kT)), .agg (evC e12), .int .u64 ((0 : Nat) : Int)] q (DoPost (thO, 11) q) := fun A0 k0 q hr ho => by
    have hz : doZ smpL smT e12 0 = (thO, 11) := Prod.ext (dz_no sc3 (by decide)) sc3
    rw [← hz]
    exact doU smpL A0 k0 smT _ _ e12 0 q (SeqS.of_owns hr) smpOk okT (SeqS.of_owns ho) (by decide +kernel)
  have DO3 := Lib.hid do3
  clear do3
  go_wp2_with fail
  refine wp_region_relyx (lwS wc2 27 31 7 8 5 thZ 1000 1001 1002 akZ) (fkV wc2.heap.size [.row 50 6 4 (rowsOf inF smpL), .eq (.agg (thC smT (.slice AT smT.sn.length kT))), .eq (.agg (evC e12)), .tup thO [.int .i64 11], .tup thO [.int .i64 11], .st thO, .eq (.int .i64 11), .any, .any, .eq (.int .i64 11)]) [some 39, some 40, some 41, some 42, some 38, some 43, some 44, some 6, none, some 7] [[], [], [], [0, 1, 2], [3], [4], [4], [], [7, 5], [6]] [[], [], [], [0, 1, 2], [0, 1, 2, 3], [3], [3, 8], [], [0, 1, 2, 3, 5, 7], [0, 1, 2, 3, 4, 5, 6, 7, 8]] [[1, 2, 4, 5, 6, 7], [0, 2, 4, 5, 6, 7], [0, 1, 4, 5, 6, 7], [5, 6, 7], [7], [4, 6, 7], [4, 5, 7], [0, 1, 2, 3, 4, 5, 6], [4, 6], []] [0, 1, 2, 3, 4, 5, 6, 7, 8, 9] 10 (by kernel_rfl) (by kernel_rfl) (by kernel_rfl) (by kernel_rfl) ?rS (fun j h1 h2 => absurd (Nat.lt_of_lt_of_le h1 (Nat.le_trans (by decide) h2)) (Nat.lt_irrefl _)) ?rT ?rE
  case rS => exact lw_start
  case rT =>
    refine RelyStepsX.cons (RelyStepX.mk [] [1, 2, 4, 5, 6, 7] rfl rfl rfl (fun xv Lv wS hS hL hLd hV bq hb K hK => ?_)) ?_
    · clear hV
      simp only [putsOf, List.foldl_cons, List.foldl_nil, List.getD_cons_zero, List.getD_cons_succ, List.getD_nil, cond_true, cond_false, Act.put, List.setIfInBounds_toArray, List.set_cons_zero, List.set_cons_succ] at hb
      subst hb
      rw [if_pos (by rfl)]
      have HSS := Lib.hid hS
      clear hS
      go_wp2_with fail
      refine (smp16 _).mono ?_
      rintro e w' ⟨v, rfl, ho, hbm⟩
      exact hK.out _ _ ⟨_, rfl, lw_below rfl HSS.out hbm, owns_mono ho (lw_le HSS.out), AllPX.of _ (fun j _ _ h => fkV_below hbm h)⟩
    refine RelyStepsX.cons (RelyStepX.mk [] [0, 2, 4, 5, 6, 7] rfl rfl rfl (fun xv Lv wS hS hL hLd hV bq hb K hK => ?_)) ?_
    · clear hV
      simp only [putsOf, List.foldl_cons, List.foldl_nil, List.getD_cons_zero, List.getD_cons_succ, List.getD_nil, cond_true, cond_false, Act.put, List.setIfInBounds_toArray, List.set_cons_zero, List.set_cons_succ] at hb
      subst hb
      rw [if_pos (by rfl)]
      (have HZ := Lib.hid (HS2.out.below hS.1 HS2.out.lt); have c0 := (HZ.out.cell 0).trans (show _ = some (Value.int .i64 smT.at_) from rfl); have c1 := (HZ.out.cell 1).trans (show _ = some (Value.int .i64 smT.ph) from rfl); have c2 := (HZ.out.cell 2).trans (show _ = some (Value.int .i64 smT.rg) from rfl); have c3 := (HZ.out.cell 3).trans (show _ = some (Value.int .i64 smT.st) from rfl); have c4 := (HZ.out.cell 4).trans (show _ = some (Value.int .u64 (smT.tk : Int)) from rfl); have c5 := (HZ.out.cell 5).trans (show _ = some (Value.int .u64 (smT.r 0 : Int)) from rfl); have c6 := (HZ.out.cell 6).trans (show _ = some (Value.int .u64 (smT.r 1 : Int)) from rfl); have c7 := (HZ.out.cell 7).trans (show _ = some (Value.int .u64 (smT.r 2 : Int)) from rfl); have c8 := (HZ.out.cell 8).trans (show _ = some (Value.int .u64 (smT.r 3 : Int)) from rfl); have c9 := (HZ.out.cell 9).trans (show _ = some (Value.int .u64 (smT.r 4 : Int)) from rfl); have c10 := (HZ.out.cell 10).trans (show _ = some (Value.int .u64 (smT.r 5 : Int)) from rfl); have c11 := (HZ.out.cell 11).trans (show _ = some (Value.int .u64 (smT.r 6 : Int)) from rfl); have c12 := (HZ.out.cell 12).trans (show _ = some (Value.int .u64 (smT.r 7 : Int)) from rfl); have c13 := (HZ.out.cell 13).trans (show _ = some ((.slice AT smT.sn.length kT)) from rfl); have cl := HZ.out.lt)
      go_wp2_with fail
      exact hK.out _ _ ⟨_, rfl, lw_op (i := 1) rfl hS, rfl, AllPX.same _⟩
    refine RelyStepsX.cons (RelyStepX.mk [] [0, 1, 4, 5, 6, 7] rfl rfl rfl (fun xv Lv wS hS hL hLd hV bq hb K hK => ?_)) ?_
    · clear hV
      simp only [putsOf, List.foldl_cons, List.foldl_nil, List.getD_cons_zero, List.getD_cons_succ, List.getD_nil, cond_true, cond_false, Act.put, List.setIfInBounds_toArray, List.set_cons_zero, List.set_cons_succ] at hb
      subst hb
      rw [if_pos (by rfl)]
      go_wp2_with fail
      exact hK.out _ _ ⟨_, rfl, lw_op (i := 2) rfl hS, rfl, AllPX.same _⟩
    refine RelyStepsX.cons (RelyStepX.mk [0, 1, 2] [5, 6, 7] rfl rfl rfl (fun xv Lv wS hS hL hLd hV bq hb K hK => ?_)) ?_
    · obtain ⟨h0, h1, h2, _⟩ := hV
      have h1 : xv 1 = _ := h1
      have h2 : xv 2 = _ := h2
      simp only [putsOf, List.foldl_cons, List.foldl_nil, List.getD_cons_zero, List.getD_cons_succ, List.getD_nil, cond_true, cond_false, Act.put, List.setIfInBounds_toArray, List.set_cons_zero, List.set_cons_succ, h1, h2] at hb
      generalize hy0 : xv 0 = y0 at *
      clear h1
      clear h2
      subst hb
      rw [if_pos (by rfl)]
      have HSS := Lib.hid hS
      clear hS
      obtain ⟨A0, k0, rfl⟩ := owns_slice (show World.ownsRow wS wc2.heap.size _ _ _ _ _ from h0)
      have hrow : World.ownsRow wS wc2.heap.size _ _ _ _ _ := h0
      have HROW := Lib.hid hrow
      clear hrow h0
      go_wp2_with fail
      refine (DO3.out A0 k0 wS HROW.out (owned_below HT.out HSS.out.1)).mono ?_
      rintro e w' ⟨u, rfl, ho, hbm⟩
      exact hK.out _ _ ⟨_, rfl, lw_below rfl HSS.out hbm, ⟨u, rfl, ownTh_mono ho (lw_le HSS.out)⟩, AllPX.of _ (fun j _ _ h => fkV_below hbm h)⟩
    refine RelyStepsX.cons (RelyStepX.mk [3] [7] rfl rfl rfl (fun xv Lv wS hS hL hLd hV bq hb K hK => ?_)) ?_
    · obtain ⟨h3, _⟩ := hV
      simp only [putsOf, List.foldl_cons, List.foldl_nil, List.getD_cons_zero, List.getD_cons_succ, List.getD_nil, cond_true, cond_false, Act.put, List.setIfInBounds_toArray, List.set_cons_zero, List.set_cons_succ] at hb
      generalize hy3 : xv 3 = y3 at *
      subst hb
      rw [if_pos (by rfl)]
      have HSS := Lib.hid hS
      clear hS
      obtain ⟨u1, rfl, ho⟩ := h3
      go_wp2_with fail
      exact hK.out _ _ ⟨_, rfl, lw_pure rfl HSS.out, ⟨u1, rfl, ho⟩, AllPX.same _⟩
    refine RelyStepsX.cons (RelyStepX.mk [4] [4, 6, 7] rfl rfl rfl (fun xv Lv wS hS hL hLd hV bq hb K hK => ?_)) ?_
    · obtain ⟨h4, _⟩ := hV
      simp only [putsOf, List.foldl_cons, List.foldl_nil, List.getD_cons_zero, List.getD_cons_succ, List.getD_nil, cond_true, cond_false, Act.put, List.setIfInBounds_toArray, List.set_cons_zero, List.set_cons_succ] at hb
      generalize hy4 : xv 4 = y4 at *
      subst hb
      rw [if_pos (by rfl)]
      have HSS := Lib.hid hS
      clear hS
      obtain ⟨u1, rfl, ho⟩ := h4
      go_wp2_with fail
      exact hK.out _ _ ⟨_, rfl, lw_pure rfl HSS.out, ho, AllPX.same _⟩
    refine RelyStepsX.cons (RelyStepX.mk [4] [4, 5, 7] rfl rfl rfl (fun xv Lv wS hS hL hLd hV bq hb K hK => ?_)) ?_
    · obtain ⟨h4, _⟩ := hV
      simp only [putsOf, List.foldl_cons, List.foldl_nil, List.getD_cons_zero, List.getD_cons_succ, List.getD_nil, cond_true, cond_false, Act.put, List.setIfInBounds_toArray, List.set_cons_zero, List.set_cons_succ] at hb
      generalize hy4 : xv 4 = y4 at *
      subst hb
      rw [if_pos (by rfl)]
      have HSS := Lib.hid hS
      clear hS
      obtain ⟨u1, rfl, ho⟩ := h4
      go_wp2_with fail
      exact hK.out _ _ ⟨_, rfl, lw_pure rfl HSS.out, rfl, AllPX.same _⟩
    refine RelyStepsX.cons (RelyStepX.mk [] [0, 1, 2, 3, 4, 5, 6] rfl rfl rfl (fun xv Lv wS hS hL hLd hV bq hb K hK => ?_)) ?_
    · clear hV
      simp only [putsOf, List.foldl_cons, List.foldl_nil, List.getD_cons_zero, List.getD_cons_succ, List.getD_nil, cond_true, cond_false, Act.put, List.setIfInBounds_toArray, List.set_cons_zero, List.set_cons_succ] at hb
      subst hb
      rw [if_pos (by rfl)]
      have HSS := Lib.hid hS
      clear hS
      go_wp2_with fail
      have hbm := (Below.refl wS.heap.size wS).alloc (Nat.le_refl _) (.cells thZ 27)
      exact hK.out _ _ ⟨_, rfl, lw_made1 rfl HSS.out, trivial, AllPX.of _ (fun j _ _ h => fkV_below hbm h)⟩
    refine RelyStepsX.cons (RelyStepX.mk [7, 5] [4, 6] rfl rfl rfl (fun xv Lv wS hS hL hLd hV bq hb K hK => ?_)) ?_
    · obtain ⟨h7, h5, _⟩ := hV
      simp only [putsOf, List.foldl_cons, List.foldl_nil, List.getD_cons_zero, List.getD_cons_succ, List.getD_nil, cond_true, cond_false, Act.put, List.setIfInBounds_toArray, List.set_cons_zero, List.set_cons_succ] at hb
      generalize hy7 : xv 7 = y7 at *
      generalize hy5 : xv 5 = y5 at *
      subst hb
      rw [if_pos (by rfl)]
      have HSS := Lib.hid hS
      clear hS
      obtain ⟨g, hg, hN, hl⟩ := bk_open HSS.out.2.1 (hLd 7 (by decide +kernel)) hL
      rw [hy7] at hg
      subst hg
      obtain ⟨A5, k5, e5, ho5⟩ := h5
      subst e5
      refine wp_store_row _ _ _ rfl g (thC thO (.slice A5 (thO).sn.length k5)) rfl rfl 27 thZ hl infoTh rfl (thC_one _ rfl) ?_
      exact hK.out _ _ ⟨undef, rfl, lw_store1 rfl HSS.out (hLd 7 (by decide +kernel)) (hLd 5 (by decide +kernel)) hy7 hN hl hy5 (by decide), trivial, AllPX.of _ (fun j hj _ h => fkV_row _ hl (all_typ rfl hj) h)⟩
    refine RelyStepsX.cons (RelyStepX.mk [6] [] rfl rfl rfl (fun xv Lv wS hS hL hLd hV bq hb K hK => ?_)) ?_
    · obtain ⟨h6, _⟩ := hV
      have h6 : xv 6 = _ := h6
      simp only [putsOf, List.foldl_cons, List.foldl_nil, List.getD_cons_zero, List.getD_cons_succ, List.getD_nil, cond_true, cond_false, Act.put, List.setIfInBounds_toArray, List.set_cons_zero, List.set_cons_succ, h6] at hb
      clear h6
      subst hb
      rw [if_pos (by rfl)]
      go_wp2_with fail
      exact hK.out _ _ ⟨_, rfl, lw_op (i := 9) rfl hS, rfl, AllPX.same _⟩
    exact RelyStepsX.nil
  case rE =>
    intro xv Lv wE hS hLall hV
    have h9 := hV 9 (by decide) (by decide)
    clear hV
    simp only [putsOf, List.foldl_cons, List.foldl_nil, List.getD_cons_zero, List.getD_cons_succ, List.getD_nil, cond_true, cond_false, Act.put, List.setIfInBounds_toArray, List.set_cons_zero, List.set_cons_succ]
    have h9 : xv 9 = _ := h9
    rw [h9]; clear h9
    generalize xv 0 = y0 at *
    generalize xv 1 = y1 at *
    generalize xv 2 = y2 at *
    generalize xv 3 = y3 at *
    generalize xv 4 = y4 at *
    generalize xv 5 = y5 at *
    generalize xv 6 = y6 at *
    generalize xv 7 = y7 at *
    generalize xv 8 = y8 at *
    have hbm := hS.1
    replace HS1 := Lib.hid (HS1.out.below hbm HS1.out.lt)
    replace HA1 := Lib.hid (HA1.out.below hbm HA1.out.lt)
    replace HS2 := Lib.hid (HS2.out.below hbm HS2.out.lt)
    replace HT := Lib.hid (owned_below HT.out hbm)
    replace HB := Lib.hid (HB.out.trans (hbm.mono HB.out.size))
    clear hS hbm hLall
    generalize wE = wc3 at *
    have do4 : ∀ (A0 : Option Addr) (k0 : Nat) (q : World), World.ownsRow q wc3.heap.size 50 6 (.slice A0 4 k0) 4 (rowsOf inF smpL) → World.ownsRow q 0 23 1 (.slice AT smT.sn.length kT) smT.sn.length (cells64 smT.sn) → Calls Try.prog 18 #[.slice A0 smpL.length k0, .agg (thC smT (.slice AT smT.sn.length kT)), .agg (evC e14), .int .u64 ((0 : Nat) : Int)] q (DoPost (smU, 0) q) := fun A0 k0 q hr ho => by
      have hz : doZ smpL smT e14 0 = (smU, 0) := Prod.ext rfl sc4.1
      rw [← hz]
      exact doU smpL A0 k0 smT _ _ e14 0 q (SeqS.of_owns hr) smpOk okT (SeqS.of_owns ho) (by decide +kernel)
    have DO4 := Lib.hid do4
    clear do4
    go_wp2_with fail
    refine wp_region_relyx (lwS wc3 27 31 7 8 5 thZ 1000 1001 1002 akZ) (fkV wc3.heap.size [.row 50 6 4 (rowsOf inF smpL), .eq (.agg (thC smT (.slice AT smT.sn.length kT))), .eq (.agg (evC e14)), .tup smU [.int .i64 0], .tup smU [.int .i64 0], .st smU, .eq (.int .i64 0), .any, .any, .eq (.int .i64 0)]) [some 46, some 47, some 48, some 49, some 45, some 50, some 51, some 8, none, some 9] [[], [], [], [0, 1, 2], [3], [4], [4], [], [7, 5], [6]] [[], [], [], [0, 1, 2], [0, 1, 2, 3], [3], [3, 8], [], [0, 1, 2, 3, 7], [0, 1, 2, 3, 4, 6, 7, 8]] [[1, 2, 4, 5, 6, 7], [0, 2, 4, 5, 6, 7], [0, 1, 4, 5, 6, 7], [5, 6, 7], [7], [4, 6, 7], [4, 5, 7], [0, 1, 2, 3, 4, 5, 6], [4, 5, 6], [5]] [0, 1, 2, 3, 4, 5, 6, 7, 8, 9] 10 (by kernel_rfl) (by kernel_rfl) (by kernel_rfl) (by kernel_rfl) ?rS (fun j h1 h2 => absurd (Nat.lt_of_lt_of_le h1 (Nat.le_trans (by decide) h2)) (Nat.lt_irrefl _)) ?rT ?rE
    case rS => exact lw_start
    case rT =>
      refine RelyStepsX.cons (RelyStepX.mk [] [1, 2, 4, 5, 6, 7] rfl rfl rfl (fun xv Lv wS hS hL hLd hV bq hb K hK => ?_)) ?_
      · clear hV
        simp only [putsOf, List.foldl_cons, List.foldl_nil, List.getD_cons_zero, List.getD_cons_succ, List.getD_nil, cond_true, cond_false, Act.put, List.setIfInBounds_toArray, List.set_cons_zero, List.set_cons_succ] at hb
        subst hb
        rw [if_pos (by rfl)]
        have HSS := Lib.hid hS
        clear hS
        go_wp2_with fail
        refine (smp16 _).mono ?_
        rintro e w' ⟨v, rfl, ho, hbm⟩
        exact hK.out _ _ ⟨_, rfl, lw_below rfl HSS.out hbm, owns_mono ho (lw_le HSS.out), AllPX.of _ (fun j _ _ h => fkV_below hbm h)⟩
      refine RelyStepsX.cons (RelyStepX.mk [] [0, 2, 4, 5, 6, 7] rfl rfl rfl (fun xv Lv wS hS hL hLd hV bq hb K hK => ?_)) ?_
      · clear hV
        simp only [putsOf, List.foldl_cons, List.foldl_nil, List.getD_cons_zero, List.getD_cons_succ, List.getD_nil, cond_true, cond_false, Act.put, List.setIfInBounds_toArray, List.set_cons_zero, List.set_cons_succ] at hb
        subst hb
        rw [if_pos (by rfl)]
        (have HZ := Lib.hid (HS2.out.below hS.1 HS2.out.lt); have c0 := (HZ.out.cell 0).trans (show _ = some (Value.int .i64 smT.at_) from rfl); have c1 := (HZ.out.cell 1).trans (show _ = some (Value.int .i64 smT.ph) from rfl); have c2 := (HZ.out.cell 2).trans (show _ = some (Value.int .i64 smT.rg) from rfl); have c3 := (HZ.out.cell 3).trans (show _ = some (Value.int .i64 smT.st) from rfl); have c4 := (HZ.out.cell 4).trans (show _ = some (Value.int .u64 (smT.tk : Int)) from rfl); have c5 := (HZ.out.cell 5).trans (show _ = some (Value.int .u64 (smT.r 0 : Int)) from rfl); have c6 := (HZ.out.cell 6).trans (show _ = some (Value.int .u64 (smT.r 1 : Int)) from rfl); have c7 := (HZ.out.cell 7).trans (show _ = some (Value.int .u64 (smT.r 2 : Int)) from rfl); have c8 := (HZ.out.cell 8).trans (show _ = some (Value.int .u64 (smT.r 3 : Int)) from rfl); have c9 := (HZ.out.cell 9).trans (show _ = some (Value.int .u64 (smT.r 4 : Int)) from rfl); have c10 := (HZ.out.cell 10).trans (show _ = some (Value.int .u64 (smT.r 5 : Int)) from rfl); have c11 := (HZ.out.cell 11).trans (show _ = some (Value.int .u64 (smT.r 6 : Int)) from rfl); have c12 := (HZ.out.cell 12).trans (show _ = some (Value.int .u64 (smT.r 7 : Int)) from rfl); have c13 := (HZ.out.cell 13).trans (show _ = some ((.slice AT smT.sn.length kT)) from rfl); have cl := HZ.out.lt)
        go_wp2_with fail
        exact hK.out _ _ ⟨_, rfl, lw_op (i := 1) rfl hS, rfl, AllPX.same _⟩
      refine RelyStepsX.cons (RelyStepX.mk [] [0, 1, 4, 5, 6, 7] rfl rfl rfl (fun xv Lv wS hS hL hLd hV bq hb K hK => ?_)) ?_
      · clear hV
        simp only [putsOf, List.foldl_cons, List.foldl_nil, List.getD_cons_zero, List.getD_cons_succ, List.getD_nil, cond_true, cond_false, Act.put, List.setIfInBounds_toArray, List.set_cons_zero, List.set_cons_succ] at hb
        subst hb
        rw [if_pos (by rfl)]
        go_wp2_with fail
        exact hK.out _ _ ⟨_, rfl, lw_op (i := 2) rfl hS, rfl, AllPX.same _⟩
      refine RelyStepsX.cons (RelyStepX.mk [0, 1, 2] [5, 6, 7] rfl rfl rfl (fun xv Lv wS hS hL hLd hV bq hb K hK => ?_)) ?_
      · obtain ⟨h0, h1, h2, _⟩ := hV
        have h1 : xv 1 = _ := h1
        have h2 : xv 2 = _ := h2
        simp only [putsOf, List.foldl_cons, List.foldl_nil, List.getD_cons_zero, List.getD_cons_succ, List.getD_nil, cond_true, cond_false, Act.put, List.setIfInBounds_toArray, List.set_cons_zero, List.set_cons_succ, h1, h2] at hb
        generalize hy0 : xv 0 = y0 at *
        clear h1
        clear h2
        subst hb
        rw [if_pos (by rfl)]
        have HSS := Lib.hid hS
        clear hS
        obtain ⟨A0, k0, rfl⟩ := owns_slice (show World.ownsRow wS wc3.heap.size _ _ _ _ _ from h0)
        have hrow : World.ownsRow wS wc3.heap.size _ _ _ _ _ := h0
        have HROW := Lib.hid hrow
        clear hrow h0
        go_wp2_with fail
        refine (DO4.out A0 k0 wS HROW.out (owned_below HT.out HSS.out.1)).mono ?_
        rintro e w' ⟨u, rfl, ho, hbm⟩
        exact hK.out _ _ ⟨_, rfl, lw_below rfl HSS.out hbm, ⟨u, rfl, ownTh_mono ho (lw_le HSS.out)⟩, AllPX.of _ (fun j _ _ h => fkV_below hbm h)⟩
      refine RelyStepsX.cons (RelyStepX.mk [3] [7] rfl rfl rfl (fun xv Lv wS hS hL hLd hV bq hb K hK => ?_)) ?_
      · obtain ⟨h3, _⟩ := hV
        simp only [putsOf, List.foldl_cons, List.foldl_nil, List.getD_cons_zero, List.getD_cons_succ, List.getD_nil, cond_true, cond_false, Act.put, List.setIfInBounds_toArray, List.set_cons_zero, List.set_cons_succ] at hb
        generalize hy3 : xv 3 = y3 at *
        subst hb
        rw [if_pos (by rfl)]
        have HSS := Lib.hid hS
        clear hS
        obtain ⟨u1, rfl, ho⟩ := h3
        go_wp2_with fail
        exact hK.out _ _ ⟨_, rfl, lw_pure rfl HSS.out, ⟨u1, rfl, ho⟩, AllPX.same _⟩
      refine RelyStepsX.cons (RelyStepX.mk [4] [4, 6, 7] rfl rfl rfl (fun xv Lv wS hS hL hLd hV bq hb K hK => ?_)) ?_
      · obtain ⟨h4, _⟩ := hV
        simp only [putsOf, List.foldl_cons, List.foldl_nil, List.getD_cons_zero, List.getD_cons_succ, List.getD_nil, cond_true, cond_false, Act.put, List.setIfInBounds_toArray, List.set_cons_zero, List.set_cons_succ] at hb
        generalize hy4 : xv 4 = y4 at *
        subst hb
        rw [if_pos (by rfl)]
        have HSS := Lib.hid hS
        clear hS
        obtain ⟨u1, rfl, ho⟩ := h4
        go_wp2_with fail
        exact hK.out _ _ ⟨_, rfl, lw_pure rfl HSS.out, ho, AllPX.same _⟩
      refine RelyStepsX.cons (RelyStepX.mk [4] [4, 5, 7] rfl rfl rfl (fun xv Lv wS hS hL hLd hV bq hb K hK => ?_)) ?_
      · obtain ⟨h4, _⟩ := hV
        simp only [putsOf, List.foldl_cons, List.foldl_nil, List.getD_cons_zero, List.getD_cons_succ, List.getD_nil, cond_true, cond_false, Act.put, List.setIfInBounds_toArray, List.set_cons_zero, List.set_cons_succ] at hb
        generalize hy4 : xv 4 = y4 at *
        subst hb
        rw [if_pos (by rfl)]
        have HSS := Lib.hid hS
        clear hS
        obtain ⟨u1, rfl, ho⟩ := h4
        go_wp2_with fail
        exact hK.out _ _ ⟨_, rfl, lw_pure rfl HSS.out, rfl, AllPX.same _⟩
      refine RelyStepsX.cons (RelyStepX.mk [] [0, 1, 2, 3, 4, 5, 6] rfl rfl rfl (fun xv Lv wS hS hL hLd hV bq hb K hK => ?_)) ?_
      · clear hV
        simp only [putsOf, List.foldl_cons, List.foldl_nil, List.getD_cons_zero, List.getD_cons_succ, List.getD_nil, cond_true, cond_false, Act.put, List.setIfInBounds_toArray, List.set_cons_zero, List.set_cons_succ] at hb
        subst hb
        rw [if_pos (by rfl)]
        have HSS := Lib.hid hS
        clear hS
        go_wp2_with fail
        have hbm := (Below.refl wS.heap.size wS).alloc (Nat.le_refl _) (.cells thZ 27)
        exact hK.out _ _ ⟨_, rfl, lw_made1 rfl HSS.out, trivial, AllPX.of _ (fun j _ _ h => fkV_below hbm h)⟩
      refine RelyStepsX.cons (RelyStepX.mk [7, 5] [4, 5, 6] rfl rfl rfl (fun xv Lv wS hS hL hLd hV bq hb K hK => ?_)) ?_
      · obtain ⟨h7, h5, _⟩ := hV
        simp only [putsOf, List.foldl_cons, List.foldl_nil, List.getD_cons_zero, List.getD_cons_succ, List.getD_nil, cond_true, cond_false, Act.put, List.setIfInBounds_toArray, List.set_cons_zero, List.set_cons_succ] at hb
        generalize hy7 : xv 7 = y7 at *
        generalize hy5 : xv 5 = y5 at *
        subst hb
        rw [if_pos (by rfl)]
        have HSS := Lib.hid hS
        clear hS
        obtain ⟨g, hg, hN, hl⟩ := bk_open HSS.out.2.1 (hLd 7 (by decide +kernel)) hL
        rw [hy7] at hg
        subst hg
        obtain ⟨A5, k5, e5, ho5⟩ := h5
        subst e5
        refine wp_store_row _ _ _ rfl g (thC smU (.slice A5 (smU).sn.length k5)) rfl rfl 27 thZ hl infoTh rfl (thC_one _ rfl) ?_
        exact hK.out _ _ ⟨undef, rfl, lw_store1 rfl HSS.out (hLd 7 (by decide +kernel)) (hLd 5 (by decide +kernel)) hy7 hN hl hy5 (by decide), trivial, AllPX.of _ (fun j hj _ h => fkV_row _ hl (all_typ rfl hj) h)⟩
      refine RelyStepsX.cons (RelyStepX.mk [6] [5] rfl rfl rfl (fun xv Lv wS hS hL hLd hV bq hb K hK => ?_)) ?_
      · obtain ⟨h6, _⟩ := hV
        have h6 : xv 6 = _ := h6
        simp only [putsOf, List.foldl_cons, List.foldl_nil, List.getD_cons_zero, List.getD_cons_succ, List.getD_nil, cond_true, cond_false, Act.put, List.setIfInBounds_toArray, List.set_cons_zero, List.set_cons_succ, h6] at hb
        clear h6
        subst hb
        rw [if_pos (by rfl)]
        go_wp2_with fail
        exact hK.out _ _ ⟨_, rfl, lw_op (i := 9) rfl hS, rfl, AllPX.same _⟩
      exact RelyStepsX.nil
    case rE =>
      intro xv Lv wE hS hLall hV
      have h5 := hV 5 (by decide) (by decide)
      have h9 := hV 9 (by decide) (by decide)
      clear hV
      obtain ⟨g1, a1, hx1, hN1, hl1, hv1⟩ := bk_done hS.2.1 (hLall 7 (by decide +kernel)) (hLall 8 (by decide +kernel))
      simp only [putsOf, List.foldl_cons, List.foldl_nil, List.getD_cons_zero, List.getD_cons_succ, List.getD_nil, cond_true, cond_false, Act.put, List.setIfInBounds_toArray, List.set_cons_zero, List.set_cons_succ]
      have h9 : xv 9 = _ := h9
      rw [h9]; clear h9
      generalize xv 0 = y0 at *
      generalize xv 1 = y1 at *
      generalize xv 2 = y2 at *
      generalize xv 3 = y3 at *
      generalize xv 4 = y4 at *
      generalize xv 5 = y5 at *
      generalize xv 6 = y6 at *
      generalize xv 7 = y7 at *
      generalize xv 8 = y8 at *
      have hbm := hS.1
      subst hx1
      obtain ⟨A5, k5, e5, ho5⟩ := h5
      rw [hv1] at e5
      injection e5 with e5
      subst e5
      have HS4 := Lib.hid hl1
      have HU := Lib.hid (owns_mono ho5 (Nat.zero_le _))
      clear hv1 ho5 hl1 hN1
      generalize g1 = bHS4 at *
      generalize A5 = AHS4 at *
      generalize k5 = kHS4 at *
      replace HS1 := Lib.hid (HS1.out.below hbm HS1.out.lt)
      replace HA1 := Lib.hid (HA1.out.below hbm HA1.out.lt)
      replace HS2 := Lib.hid (HS2.out.below hbm HS2.out.lt)
      replace HT := Lib.hid (owned_below HT.out hbm)
      replace HB := Lib.hid (HB.out.trans (hbm.mono HB.out.size))
      clear hS hbm hLall
      generalize wE = wc4 at *
      have do5 : ∀ (A0 : Option Addr) (k0 : Nat) (q : World), World.ownsRow q wc4.heap.size 50 6 (.slice A0 4 k0) 4 (rowsOf inF smpL) → World.ownsRow q 0 23 1 (.slice AT smT.sn.length kT) smT.sn.length (cells64 smT.sn) → Calls Try.prog 18 #[.slice A0 smpL.length k0, .agg (thC smT (.slice AT smT.sn.length kT)), .agg (evC e00), .int .u64 ((0 : Nat) : Int)] q (DoPost (thO, 3) q) := fun A0 k0 q hr ho => by
        have hz : doZ smpL smT e00 0 = (thO, 3) := Prod.ext (dz_no sc5 (by decide)) sc5
        rw [← hz]
        exact doU smpL A0 k0 smT _ _ e00 0 q (SeqS.of_owns hr) smpOk okT (SeqS.of_owns ho) (by decide +kernel)
      have DO5 := Lib.hid do5
      clear do5
      go_wp2_with fail
      refine wp_region_relyx (lwS wc4 27 31 7 8 5 thZ 1000 1001 1002 akZ) (fkV wc4.heap.size [.row 50 6 4 (rowsOf inF smpL), .eq (.agg (thC smT (.slice AT smT.sn.length kT))), .eq (.agg (evC e00)), .tup thO [.int .i64 3], .tup thO [.int .i64 3], .st thO, .eq (.int .i64 3), .any, .any, .eq (.int .i64 3)]) [some 53, some 54, some 55, some 56, some 52, some 57, some 58, some 10, none, some 11] [[], [], [], [0, 1, 2], [3], [4], [4], [], [7, 5], [6]] [[], [], [], [0, 1, 2], [0, 1, 2, 3], [3], [3, 8], [], [0, 1, 2, 3, 5, 7], [0, 1, 2, 3, 4, 5, 6, 7, 8]] [[1, 2, 4, 5, 6, 7], [0, 2, 4, 5, 6, 7], [0, 1, 4, 5, 6, 7], [5, 6, 7], [7], [4, 6, 7], [4, 5, 7], [0, 1, 2, 3, 4, 5, 6], [4, 6], []] [0, 1, 2, 3, 4, 5, 6, 7, 8, 9] 10 (by kernel_rfl) (by kernel_rfl) (by kernel_rfl) (by kernel_rfl) ?rS (fun j h1 h2 => absurd (Nat.lt_of_lt_of_le h1 (Nat.le_trans (by decide) h2)) (Nat.lt_irrefl _)) ?rT ?rE
      case rS => exact lw_start
      case rT =>
        refine RelyStepsX.cons (RelyStepX.mk [] [1, 2, 4, 5, 6, 7] rfl rfl rfl (fun xv Lv wS hS hL hLd hV bq hb K hK => ?_)) ?_
        · clear hV
          simp only [putsOf, List.foldl_cons, List.foldl_nil, List.getD_cons_zero, List.getD_cons_succ, List.getD_nil, cond_true, cond_false, Act.put, List.setIfInBounds_toArray, List.set_cons_zero, List.set_cons_succ] at hb
          subst hb
          rw [if_pos (by rfl)]
          have HSS := Lib.hid hS
          clear hS
          go_wp2_with fail
          refine (smp16 _).mono ?_
          rintro e w' ⟨v, rfl, ho, hbm⟩
          exact hK.out _ _ ⟨_, rfl, lw_below rfl HSS.out hbm, owns_mono ho (lw_le HSS.out), AllPX.of _ (fun j _ _ h => fkV_below hbm h)⟩
        refine RelyStepsX.cons (RelyStepX.mk [] [0, 2, 4, 5, 6, 7] rfl rfl rfl (fun xv Lv wS hS hL hLd hV bq hb K hK => ?_)) ?_
        · clear hV
          simp only [putsOf, List.foldl_cons, List.foldl_nil, List.getD_cons_zero, List.getD_cons_succ, List.getD_nil, cond_true, cond_false, Act.put, List.setIfInBounds_toArray, List.set_cons_zero, List.set_cons_succ] at hb
          subst hb
          rw [if_pos (by rfl)]
          (have HZ := Lib.hid (HS2.out.below hS.1 HS2.out.lt); have c0 := (HZ.out.cell 0).trans (show _ = some (Value.int .i64 smT.at_) from rfl); have c1 := (HZ.out.cell 1).trans (show _ = some (Value.int .i64 smT.ph) from rfl); have c2 := (HZ.out.cell 2).trans (show _ = some (Value.int .i64 smT.rg) from rfl); have c3 := (HZ.out.cell 3).trans (show _ = some (Value.int .i64 smT.st) from rfl); have c4 := (HZ.out.cell 4).trans (show _ = some (Value.int .u64 (smT.tk : Int)) from rfl); have c5 := (HZ.out.cell 5).trans (show _ = some (Value.int .u64 (smT.r 0 : Int)) from rfl); have c6 := (HZ.out.cell 6).trans (show _ = some (Value.int .u64 (smT.r 1 : Int)) from rfl); have c7 := (HZ.out.cell 7).trans (show _ = some (Value.int .u64 (smT.r 2 : Int)) from rfl); have c8 := (HZ.out.cell 8).trans (show _ = some (Value.int .u64 (smT.r 3 : Int)) from rfl); have c9 := (HZ.out.cell 9).trans (show _ = some (Value.int .u64 (smT.r 4 : Int)) from rfl); have c10 := (HZ.out.cell 10).trans (show _ = some (Value.int .u64 (smT.r 5 : Int)) from rfl); have c11 := (HZ.out.cell 11).trans (show _ = some (Value.int .u64 (smT.r 6 : Int)) from rfl); have c12 := (HZ.out.cell 12).trans (show _ = some (Value.int .u64 (smT.r 7 : Int)) from rfl); have c13 := (HZ.out.cell 13).trans (show _ = some ((.slice AT smT.sn.length kT)) from rfl); have cl := HZ.out.lt)
          go_wp2_with fail
          exact hK.out _ _ ⟨_, rfl, lw_op (i := 1) rfl hS, rfl, AllPX.same _⟩
        refine RelyStepsX.cons (RelyStepX.mk [] [0, 1, 4, 5, 6, 7] rfl rfl rfl (fun xv Lv wS hS hL hLd hV bq hb K hK => ?_)) ?_
        · clear hV
          simp only [putsOf, List.foldl_cons, List.foldl_nil, List.getD_cons_zero, List.getD_cons_succ, List.getD_nil, cond_true, cond_false, Act.put, List.setIfInBounds_toArray, List.set_cons_zero, List.set_cons_succ] at hb
          subst hb
          rw [if_pos (by rfl)]
          go_wp2_with fail
          exact hK.out _ _ ⟨_, rfl, lw_op (i := 2) rfl hS, rfl, AllPX.same _⟩
        refine RelyStepsX.cons (RelyStepX.mk [0, 1, 2] [5, 6, 7] rfl rfl rfl (fun xv Lv wS hS hL hLd hV bq hb K hK => ?_)) ?_
        · obtain ⟨h0, h1, h2, _⟩ := hV
          have h1 : xv 1 = _ := h1
          have h2 : xv 2 = _ := h2
          simp only [putsOf, List.foldl_cons, List.foldl_nil, List.getD_cons_zero, List.getD_cons_succ, List.getD_nil, cond_true, cond_false, Act.put, List.setIfInBounds_toArray, List.set_cons_zero, List.set_cons_succ, h1, h2] at hb
          generalize hy0 : xv 0 = y0 at *
          clear h1
          clear h2
          subst hb
          rw [if_pos (by rfl)]
          have HSS := Lib.hid hS
          clear hS
          obtain ⟨A0, k0, rfl⟩ := owns_slice (show World.ownsRow wS wc4.heap.size _ _ _ _ _ from h0)
          have hrow : World.ownsRow wS wc4.heap.size _ _ _ _ _ := h0
          have HROW := Lib.hid hrow
          clear hrow h0
          go_wp2_with fail
          refine (DO5.out A0 k0 wS HROW.out (owned_below HT.out HSS.out.1)).mono ?_
          rintro e w' ⟨u, rfl, ho, hbm⟩
          exact hK.out _ _ ⟨_, rfl, lw_below rfl HSS.out hbm, ⟨u, rfl, ownTh_mono ho (lw_le HSS.out)⟩, AllPX.of _ (fun j _ _ h => fkV_below hbm h)⟩
        refine RelyStepsX.cons (RelyStepX.mk [3] [7] rfl rfl rfl (fun xv Lv wS hS hL hLd hV bq hb K hK => ?_)) ?_
        · obtain ⟨h3, _⟩ := hV
          simp only [putsOf, List.foldl_cons, List.foldl_nil, List.getD_cons_zero, List.getD_cons_succ, List.getD_nil, cond_true, cond_false, Act.put, List.setIfInBounds_toArray, List.set_cons_zero, List.set_cons_succ] at hb
          generalize hy3 : xv 3 = y3 at *
          subst hb
          rw [if_pos (by rfl)]
          have HSS := Lib.hid hS
          clear hS
          obtain ⟨u1, rfl, ho⟩ := h3
          go_wp2_with fail
          exact hK.out _ _ ⟨_, rfl, lw_pure rfl HSS.out, ⟨u1, rfl, ho⟩, AllPX.same _⟩
        refine RelyStepsX.cons (RelyStepX.mk [4] [4, 6, 7] rfl rfl rfl (fun xv Lv wS hS hL hLd hV bq hb K hK => ?_)) ?_
        · obtain ⟨h4, _⟩ := hV
          simp only [putsOf, List.foldl_cons, List.foldl_nil, List.getD_cons_zero, List.getD_cons_succ, List.getD_nil, cond_true, cond_false, Act.put, List.setIfInBounds_toArray, List.set_cons_zero, List.set_cons_succ] at hb
          generalize hy4 : xv 4 = y4 at *
          subst hb
          rw [if_pos (by rfl)]
          have HSS := Lib.hid hS
          clear hS
          obtain ⟨u1, rfl, ho⟩ := h4
          go_wp2_with fail
          exact hK.out _ _ ⟨_, rfl, lw_pure rfl HSS.out, ho, AllPX.same _⟩
        refine RelyStepsX.cons (RelyStepX.mk [4] [4, 5, 7] rfl rfl rfl (fun xv Lv wS hS hL hLd hV bq hb K hK => ?_)) ?_
        · obtain ⟨h4, _⟩ := hV
          simp only [putsOf, List.foldl_cons, List.foldl_nil, List.getD_cons_zero, List.getD_cons_succ, List.getD_nil, cond_true, cond_false, Act.put, List.setIfInBounds_toArray, List.set_cons_zero, List.set_cons_succ] at hb
          generalize hy4 : xv 4 = y4 at *
          subst hb
          rw [if_pos (by rfl)]
          have HSS := Lib.hid hS
          clear hS
          obtain ⟨u1, rfl, ho⟩ := h4
          go_wp2_with fail
          exact hK.out _ _ ⟨_, rfl, lw_pure rfl HSS.out, rfl, AllPX.same _⟩
        refine RelyStepsX.cons (RelyStepX.mk [] [0, 1, 2, 3, 4, 5, 6] rfl rfl rfl (fun xv Lv wS hS hL hLd hV bq hb K hK => ?_)) ?_
        · clear hV
          simp only [putsOf, List.foldl_cons, List.foldl_nil, List.getD_cons_zero, List.getD_cons_succ, List.getD_nil, cond_true, cond_false, Act.put, List.setIfInBounds_toArray, List.set_cons_zero, List.set_cons_succ] at hb
          subst hb
          rw [if_pos (by rfl)]
          have HSS := Lib.hid hS
          clear hS
          go_wp2_with fail
          have hbm := (Below.refl wS.heap.size wS).alloc (Nat.le_refl _) (.cells thZ 27)
          exact hK.out _ _ ⟨_, rfl, lw_made1 rfl HSS.out, trivial, AllPX.of _ (fun j _ _ h => fkV_below hbm h)⟩
        refine RelyStepsX.cons (RelyStepX.mk [7, 5] [4, 6] rfl rfl rfl (fun xv Lv wS hS hL hLd hV bq hb K hK => ?_)) ?_
        · obtain ⟨h7, h5, _⟩ := hV
          simp only [putsOf, List.foldl_cons, List.foldl_nil, List.getD_cons_zero, List.getD_cons_succ, List.getD_nil, cond_true, cond_false, Act.put, List.setIfInBounds_toArray, List.set_cons_zero, List.set_cons_succ] at hb
          generalize hy7 : xv 7 = y7 at *
          generalize hy5 : xv 5 = y5 at *
          subst hb
          rw [if_pos (by rfl)]
          have HSS := Lib.hid hS
          clear hS
          obtain ⟨g, hg, hN, hl⟩ := bk_open HSS.out.2.1 (hLd 7 (by decide +kernel)) hL
          rw [hy7] at hg
          subst hg
          obtain ⟨A5, k5, e5, ho5⟩ := h5
          subst e5
          refine wp_store_row _ _ _ rfl g (thC thO (.slice A5 (thO).sn.length k5)) rfl rfl 27 thZ hl infoTh rfl (thC_one _ rfl) ?_
          exact hK.out _ _ ⟨undef, rfl, lw_store1 rfl HSS.out (hLd 7 (by decide +kernel)) (hLd 5 (by decide +kernel)) hy7 hN hl hy5 (by decide), trivial, AllPX.of _ (fun j hj _ h => fkV_row _ hl (all_typ rfl hj) h)⟩
        refine RelyStepsX.cons (RelyStepX.mk [6] [] rfl rfl rfl (fun xv Lv wS hS hL hLd hV bq hb K hK => ?_)) ?_
        · obtain ⟨h6, _⟩ := hV
          have h6 : xv 6 = _ := h6
          simp only [putsOf, List.foldl_cons, List.foldl_nil, List.getD_cons_zero, List.getD_cons_succ, List.getD_nil, cond_true, cond_false, Act.put, List.setIfInBounds_toArray, List.set_cons_zero, List.set_cons_succ, h6] at hb
          clear h6
          subst hb
          rw [if_pos (by rfl)]
          go_wp2_with fail
          exact hK.out _ _ ⟨_, rfl, lw_op (i := 9) rfl hS, rfl, AllPX.same _⟩
        exact RelyStepsX.nil
      case rE =>
        intro xv Lv wE hS hLall hV
        have h9 := hV 9 (by decide) (by decide)
        clear hV
        simp only [putsOf, List.foldl_cons, List.foldl_nil, List.getD_cons_zero, List.getD_cons_succ, List.getD_nil, cond_true, cond_false, Act.put, List.setIfInBounds_toArray, List.set_cons_zero, List.set_cons_succ]
        have h9 : xv 9 = _ := h9
        rw [h9]; clear h9
        generalize xv 0 = y0 at *
        generalize xv 1 = y1 at *
        generalize xv 2 = y2 at *
        generalize xv 3 = y3 at *
        generalize xv 4 = y4 at *
        generalize xv 5 = y5 at *
        generalize xv 6 = y6 at *
        generalize xv 7 = y7 at *
        generalize xv 8 = y8 at *
        have hbm := hS.1
        replace HS1 := Lib.hid (HS1.out.below hbm HS1.out.lt)
        replace HA1 := Lib.hid (HA1.out.below hbm HA1.out.lt)
        replace HS2 := Lib.hid (HS2.out.below hbm HS2.out.lt)
        replace HT := Lib.hid (owned_below HT.out hbm)
        replace HS4 := Lib.hid (HS4.out.below hbm HS4.out.lt)
        replace HU := Lib.hid (owned_below HU.out hbm)
        replace HB := Lib.hid (HB.out.trans (hbm.mono HB.out.size))
        clear hS hbm hLall
        generalize wE = wc5 at *
        have nx6 : ∀ (A0 : Option Addr) (k0 : Nat) (q : World), World.ownsRow q wc5.heap.size 50 6 (.slice A0 4 k0) 4 (rowsOf inF smpL) → World.ownsRow q 0 23 1 (.slice AHS4 smU.sn.length kHS4) smU.sn.length (cells64 smU.sn) → Calls Try.prog 10 #[.slice A0 smpL.length k0, .agg (thC smU (.slice AHS4 smU.sn.length kHS4))] q (NxPost ((nxZ smpL smU).1, noneA 0, 0) q) := fun A0 k0 q hr ho => by
          have hz : nxZ smpL smU = ((nxZ smpL smU).1, noneA 0, 0) := Prod.ext rfl (Prod.ext sc6.1 sc6.2)
          rw [← hz]
          exact nextU smpL A0 k0 smU _ _ q (SeqS.of_owns hr) smpOk okU (SeqS.of_owns ho) (by decide +kernel)
        have NX6 := Lib.hid nx6
        clear nx6
        go_wp2_with fail
        refine wp_region_relyx (lwS wc5 27 31 7 9 4 thZ 8 10 5 akZ) (fkV wc5.heap.size [.row 50 6 4 (rowsOf inF smpL), .eq (.agg (thC smU (.slice AHS4 smU.sn.length kHS4))), .tup (nxZ smpL smU).1 [.agg (akC (noneA 0)), .int .i64 0], .tup (nxZ smpL smU).1 [.agg (akC (noneA 0)), .int .i64 0], .st (nxZ smpL smU).1, .eq (.agg (akC (noneA 0))), .eq (.int .i64 0), .any, .any, .any, .any, .eq (.int .i64 0)]) [some 60, some 61, some 62, some 59, some 63, some 64, some 65, some 12, some 13, none, none, some 14] [[], [], [0, 1], [2], [3], [3], [3], [], [], [7, 4], [8, 5], [6]] [[], [], [0, 1], [0, 1, 2], [2], [2, 9], [2, 9, 10], [], [], [0, 1, 2, 4, 7], [0, 1, 2, 4, 7, 8, 9], [0, 1, 2, 3, 4, 6, 7, 8, 9, 10]] [[1, 3, 4, 5, 6, 7, 8], [0, 3, 4, 5, 6, 7, 8], [4, 5, 6, 7, 8], [7, 8], [3, 5, 6, 7, 8], [3, 4, 6, 7, 8], [3, 4, 5, 7, 8], [0, 1, 2, 3, 4, 5, 6, 8], [0, 1, 2, 3, 4, 5, 6, 7], [3, 5, 6, 8], [3, 5, 6], [5]] [0, 1, 2, 3, 4, 5, 6, 7, 8, 9, 10, 11] 12 (by kernel_rfl) (by kernel_rfl) (by kernel_rfl) (by kernel_rfl) ?rS (fun j h1 h2 => absurd (Nat.lt_of_lt_of_le h1 (Nat.le_trans (by decide) h2)) (Nat.lt_irrefl _)) ?rT ?rE
        case rS => exact lw_start
        case rT =>
          refine RelyStepsX.cons (RelyStepX.mk [] [1, 3, 4, 5, 6, 7, 8] rfl rfl rfl (fun xv Lv wS hS hL hLd hV bq hb K hK => ?_)) ?_
          · clear hV
            simp only [putsOf, List.foldl_cons, List.foldl_nil, List.getD_cons_zero, List.getD_cons_succ, List.getD_nil, cond_true, cond_false, Act.put, List.setIfInBounds_toArray, List.set_cons_zero, List.set_cons_succ] at hb
            subst hb
            rw [if_pos (by rfl)]
            have HSS := Lib.hid hS
            clear hS
            go_wp2_with fail
            refine (smp16 _).mono ?_
            rintro e w' ⟨v, rfl, ho, hbm⟩
            exact hK.out _ _ ⟨_, rfl, lw_below rfl HSS.out hbm, owns_mono ho (lw_le HSS.out), AllPX.of _ (fun j _ _ h => fkV_below hbm h)⟩
          refine RelyStepsX.cons (RelyStepX.mk [] [0, 3, 4, 5, 6, 7, 8] rfl rfl rfl (fun xv Lv wS hS hL hLd hV bq hb K hK => ?_)) ?_
          · clear hV
            simp only [putsOf, List.foldl_cons, List.foldl_nil, List.getD_cons_zero, List.getD_cons_succ, List.getD_nil, cond_true, cond_false, Act.put, List.setIfInBounds_toArray, List.set_cons_zero, List.set_cons_succ] at hb
            subst hb
            rw [if_pos (by rfl)]
            (have HZ := Lib.hid (HS4.out.below hS.1 HS4.out.lt); have c0 := (HZ.out.cell 0).trans (show _ = some (Value.int .i64 smU.at_) from rfl); have c1 := (HZ.out.cell 1).trans (show _ = some (Value.int .i64 smU.ph) from rfl); have c2 := (HZ.out.cell 2).trans (show _ = some (Value.int .i64 smU.rg) from rfl); have c3 := (HZ.out.cell 3).trans (show _ = some (Value.int .i64 smU.st) from rfl); have c4 := (HZ.out.cell 4).trans (show _ = some (Value.int .u64 (smU.tk : Int)) from rfl); have c5 := (HZ.out.cell 5).trans (show _ = some (Value.int .u64 (smU.r 0 : Int)) from rfl); have c6 := (HZ.out.cell 6).trans (show _ = some (Value.int .u64 (smU.r 1 : Int)) from rfl); have c7 := (HZ.out.cell 7).trans (show _ = some (Value.int .u64 (smU.r 2 : Int)) from rfl); have c8 := (HZ.out.cell 8).trans (show _ = some (Value.int .u64 (smU.r 3 : Int)) from rfl); have c9 := (HZ.out.cell 9).trans (show _ = some (Value.int .u64 (smU.r 4 : Int)) from rfl); have c10 := (HZ.out.cell 10).trans (show _ = some (Value.int .u64 (smU.r 5 : Int)) from rfl); have c11 := (HZ.out.cell 11).trans (show _ = some (Value.int .u64 (smU.r 6 : Int)) from rfl); have c12 := (HZ.out.cell 12).trans (show _ = some (Value.int .u64 (smU.r 7 : Int)) from rfl); have c13 := (HZ.out.cell 13).trans (show _ = some ((.slice AHS4 smU.sn.length kHS4)) from rfl); have cl := HZ.out.lt)
            go_wp2_with fail
            exact hK.out _ _ ⟨_, rfl, lw_op (i := 1) rfl hS, rfl, AllPX.same _⟩
          refine RelyStepsX.cons (RelyStepX.mk [0, 1] [4, 5, 6, 7, 8] rfl rfl rfl (fun xv Lv wS hS hL hLd hV bq hb K hK => ?_)) ?_
          · obtain ⟨h0, h1, _⟩ := hV
            have h1 : xv 1 = _ := h1
            simp only [putsOf, List.foldl_cons, List.foldl_nil, List.getD_cons_zero, List.getD_cons_succ, List.getD_nil, cond_true, cond_false, Act.put, List.setIfInBounds_toArray, List.set_cons_zero, List.set_cons_succ, h1] at hb
            generalize hy0 : xv 0 = y0 at *
            clear h1
            subst hb
            rw [if_pos (by rfl)]
            have HSS := Lib.hid hS
            clear hS
            obtain ⟨A0, k0, rfl⟩ := owns_slice (show World.ownsRow wS wc5.heap.size _ _ _ _ _ from h0)
            have hrow : World.ownsRow wS wc5.heap.size _ _ _ _ _ := h0
            have HROW := Lib.hid hrow
            clear hrow h0
            go_wp2_with fail
            refine (NX6.out A0 k0 wS HROW.out (owned_below HU.out HSS.out.1)).mono ?_
            rintro e w' ⟨u, rfl, ho, hbm⟩
            exact hK.out _ _ ⟨_, rfl, lw_below rfl HSS.out hbm, ⟨u, rfl, ownTh_mono ho (lw_le HSS.out)⟩, AllPX.of _ (fun j _ _ h => fkV_below hbm h)⟩
          refine RelyStepsX.cons (RelyStepX.mk [2] [7, 8] rfl rfl rfl (fun xv Lv wS hS hL hLd hV bq hb K hK => ?_)) ?_
          · obtain ⟨h2, _⟩ := hV
            simp only [putsOf, List.foldl_cons, List.foldl_nil, List.getD_cons_zero, List.getD_cons_succ, List.getD_nil, cond_true, cond_false, Act.put, List.setIfInBounds_toArray, List.set_cons_zero, List.set_cons_succ] at hb
            generalize hy2 : xv 2 = y2 at *
            subst hb
            rw [if_pos (by rfl)]
            have HSS := Lib.hid hS
            clear hS
            obtain ⟨u1, rfl, ho⟩ := h2
            go_wp2_with fail
            exact hK.out _ _ ⟨_, rfl, lw_pure rfl HSS.out, ⟨u1, rfl, ho⟩, AllPX.same _⟩
          refine RelyStepsX.cons (RelyStepX.mk [3] [3, 5, 6, 7, 8] rfl rfl rfl (fun xv Lv wS hS hL hLd hV bq hb K hK => ?_)) ?_
          · obtain ⟨h3, _⟩ := hV
            simp only [putsOf, List.foldl_cons, List.foldl_nil, List.getD_cons_zero, List.getD_cons_succ, List.getD_nil, cond_true, cond_false, Act.put, List.setIfInBounds_toArray, List.set_cons_zero, List.set_cons_succ] at hb
            generalize hy3 : xv 3 = y3 at *
            subst hb
            rw [if_pos (by rfl)]
            have HSS := Lib.hid hS
            clear hS
            obtain ⟨u1, rfl, ho⟩ := h3
            go_wp2_with fail
            exact hK.out _ _ ⟨_, rfl, lw_pure rfl HSS.out, ho, AllPX.same _⟩
          refine RelyStepsX.cons (RelyStepX.mk [3] [3, 4, 6, 7, 8] rfl rfl rfl (fun xv Lv wS hS hL hLd hV bq hb K hK => ?_)) ?_
          · obtain ⟨h3, _⟩ := hV
            simp only [putsOf, List.foldl_cons, List.foldl_nil, List.getD_cons_zero, List.getD_cons_succ, List.getD_nil, cond_true, cond_false, Act.put, List.setIfInBounds_toArray, List.set_cons_zero, List.set_cons_succ] at hb
            generalize hy3 : xv 3 = y3 at *
            subst hb
            rw [if_pos (by rfl)]
            have HSS := Lib.hid hS
            clear hS
            obtain ⟨u1, rfl, ho⟩ := h3
            go_wp2_with fail
            exact hK.out _ _ ⟨_, rfl, lw_pure rfl HSS.out, rfl, AllPX.same _⟩
          refine RelyStepsX.cons (RelyStepX.mk [3] [3, 4, 5, 7, 8] rfl rfl rfl (fun xv Lv wS hS hL hLd hV bq hb K hK => ?_)) ?_
          · obtain ⟨h3, _⟩ := hV
            simp only [putsOf, List.foldl_cons, List.foldl_nil, List.getD_cons_zero, List.getD_cons_succ, List.getD_nil, cond_true, cond_false, Act.put, List.setIfInBounds_toArray, List.set_cons_zero, List.set_cons_succ] at hb
            generalize hy3 : xv 3 = y3 at *
            subst hb
            rw [if_pos (by rfl)]
            have HSS := Lib.hid hS
            clear hS
            obtain ⟨u1, rfl, ho⟩ := h3
            go_wp2_with fail
            exact hK.out _ _ ⟨_, rfl, lw_pure rfl HSS.out, rfl, AllPX.same _⟩
          refine RelyStepsX.cons (RelyStepX.mk [] [0, 1, 2, 3, 4, 5, 6, 8] rfl rfl rfl (fun xv Lv wS hS hL hLd hV bq hb K hK => ?_)) ?_
          · clear hV
            simp only [putsOf, List.foldl_cons, List.foldl_nil, List.getD_cons_zero, List.getD_cons_succ, List.getD_nil, cond_true, cond_false, Act.put, List.setIfInBounds_toArray, List.set_cons_zero, List.set_cons_succ] at hb
            subst hb
            rw [if_pos (by rfl)]
            have HSS := Lib.hid hS
            clear hS
            go_wp2_with fail
            have hbm := (Below.refl wS.heap.size wS).alloc (Nat.le_refl _) (.cells thZ 27)
            exact hK.out _ _ ⟨_, rfl, lw_made1 rfl HSS.out, trivial, AllPX.of _ (fun j _ _ h => fkV_below hbm h)⟩
          refine RelyStepsX.cons (RelyStepX.mk [] [0, 1, 2, 3, 4, 5, 6, 7] rfl rfl rfl (fun xv Lv wS hS hL hLd hV bq hb K hK => ?_)) ?_
          · clear hV
            simp only [putsOf, List.foldl_cons, List.foldl_nil, List.getD_cons_zero, List.getD_cons_succ, List.getD_nil, cond_true, cond_false, Act.put, List.setIfInBounds_toArray, List.set_cons_zero, List.set_cons_succ] at hb
            subst hb
            rw [if_pos (by rfl)]
            have HSS := Lib.hid hS
            clear hS
            go_wp2_with fail
            have hbm := (Below.refl wS.heap.size wS).alloc (Nat.le_refl _) (.cells akZ 31)
            exact hK.out _ _ ⟨_, rfl, lw_made2 rfl HSS.out, trivial, AllPX.of _ (fun j _ _ h => fkV_below hbm h)⟩
          refine RelyStepsX.cons (RelyStepX.mk [7, 4] [3, 5, 6, 8] rfl rfl rfl (fun xv Lv wS hS hL hLd hV bq hb K hK => ?_)) ?_
          · obtain ⟨h7, h4, _⟩ := hV
            simp only [putsOf, List.foldl_cons, List.foldl_nil, List.getD_cons_zero, List.getD_cons_succ, List.getD_nil, cond_true, cond_false, Act.put, List.setIfInBounds_toArray, List.set_cons_zero, List.set_cons_succ] at hb
            generalize hy7 : xv 7 = y7 at *
            generalize hy4 : xv 4 = y4 at *
            subst hb
            rw [if_pos (by rfl)]
            have HSS := Lib.hid hS
            clear hS
            obtain ⟨g, hg, hN, hl⟩ := bk_open HSS.out.2.1 (hLd 7 (by decide +kernel)) hL
            rw [hy7] at hg
            subst hg
            obtain ⟨A5, k5, e5, ho5⟩ := h4
            subst e5
            refine wp_store_row _ _ _ rfl g (thC (nxZ smpL smU).1 (.slice A5 ((nxZ smpL smU).1).sn.length k5)) rfl rfl 27 thZ hl infoTh rfl (thC_one _ rfl) ?_
            exact hK.out _ _ ⟨undef, rfl, lw_store1 rfl HSS.out (hLd 7 (by decide +kernel)) (hLd 4 (by decide +kernel)) hy7 hN hl hy4 (by decide), trivial, AllPX.of _ (fun j hj _ h => fkV_row _ hl (all_typ rfl hj) h)⟩
          refine RelyStepsX.cons (RelyStepX.mk [8, 5] [3, 5, 6] rfl rfl rfl (fun xv Lv wS hS hL hLd hV bq hb K hK => ?_)) ?_
          · obtain ⟨h8, h5, _⟩ := hV
            simp only [putsOf, List.foldl_cons, List.foldl_nil, List.getD_cons_zero, List.getD_cons_succ, List.getD_nil, cond_true, cond_false, Act.put, List.setIfInBounds_toArray, List.set_cons_zero, List.set_cons_succ] at hb
            generalize hy8 : xv 8 = y8 at *
            generalize hy5 : xv 5 = y5 at *
            subst hb
            rw [if_pos (by rfl)]
            have HSS := Lib.hid hS
            clear hS
            obtain ⟨g, hg, hN, hl⟩ := bk_open HSS.out.2.2 (hLd 8 (by decide +kernel)) hL
            rw [hy8] at hg
            subst hg
            have e7 : y5 = .agg (akC (noneA 0)) := h5
            subst e7
            refine wp_store_row _ _ _ rfl g (akC (noneA 0)) rfl rfl 31 akZ hl infoAk rfl (akC_one _) ?_
            exact hK.out _ _ ⟨undef, rfl, lw_store2 rfl HSS.out (hLd 8 (by decide +kernel)) (hLd 5 (by decide +kernel)) hy8 hN hl hy5 (by decide), trivial, AllPX.of _ (fun j hj _ h => fkV_row _ hl (all_typ rfl hj) h)⟩
          refine RelyStepsX.cons (RelyStepX.mk [6] [5] rfl rfl rfl (fun xv Lv wS hS hL hLd hV bq hb K hK => ?_)) ?_
          · obtain ⟨h6, _⟩ := hV
            have h6 : xv 6 = _ := h6
            simp only [putsOf, List.foldl_cons, List.foldl_nil, List.getD_cons_zero, List.getD_cons_succ, List.getD_nil, cond_true, cond_false, Act.put, List.setIfInBounds_toArray, List.set_cons_zero, List.set_cons_succ, h6] at hb
            clear h6
            subst hb
            rw [if_pos (by rfl)]
            go_wp2_with fail
            exact hK.out _ _ ⟨_, rfl, lw_op (i := 11) rfl hS, rfl, AllPX.same _⟩
          exact RelyStepsX.nil
        case rE =>
          intro xv Lv wE hS hLall hV
          have h5 := hV 5 (by decide) (by decide)
          have h11 := hV 11 (by decide) (by decide)
          clear hV
          obtain ⟨g1, a1, hx1, hN1, hl1, hv1⟩ := bk_done hS.2.1 (hLall 7 (by decide +kernel)) (hLall 9 (by decide +kernel))
          obtain ⟨g2, a2, hx2, hN2, hl2, hv2⟩ := bk_done hS.2.2 (hLall 8 (by decide +kernel)) (hLall 10 (by decide +kernel))
          simp only [putsOf, List.foldl_cons, List.foldl_nil, List.getD_cons_zero, List.getD_cons_succ, List.getD_nil, cond_true, cond_false, Act.put, List.setIfInBounds_toArray, List.set_cons_zero, List.set_cons_succ]
          have h11 : xv 11 = _ := h11
          rw [h11]; clear h11
          generalize xv 0 = y0 at *
          generalize xv 1 = y1 at *
          generalize xv 2 = y2 at *
          generalize xv 3 = y3 at *
          generalize xv 4 = y4 at *
          generalize xv 5 = y5 at *
          generalize xv 6 = y6 at *
          generalize xv 7 = y7 at *
          generalize xv 8 = y8 at *
          generalize xv 9 = y9 at *
          generalize xv 10 = y10 at *
          have hbm := hS.1
          subst hx2
          subst hx1
          have e5 : y5 = .agg (akC (noneA 0)) := h5
          rw [hv2] at e5
          injection e5 with e5
          subst e5
          have HA6 := Lib.hid hl2
          clear hv1 hl1 hN1 hv2 hl2 hN2
          generalize g2 = b6 at *
          replace HS1 := Lib.hid (HS1.out.below hbm HS1.out.lt)
          replace HA1 := Lib.hid (HA1.out.below hbm HA1.out.lt)
          replace HS2 := Lib.hid (HS2.out.below hbm HS2.out.lt)
          replace HT := Lib.hid (owned_below HT.out hbm)
          replace HS4 := Lib.hid (HS4.out.below hbm HS4.out.lt)
          replace HU := Lib.hid (owned_below HU.out hbm)
          replace HB := Lib.hid (HB.out.trans (hbm.mono HB.out.size))
          clear hS hbm hLall
          generalize wE = wc6 at *
          go_wp2_with fail
          refine (smp16 _).mono ?_
          rintro e wa7 ⟨v, rfl, ho, hbm⟩
          obtain ⟨A1, k1, rfl⟩ := owns_slice ho
          replace HS1 := Lib.hid (HS1.out.below hbm HS1.out.lt)
          replace HA1 := Lib.hid (HA1.out.below hbm HA1.out.lt)
          replace HS2 := Lib.hid (HS2.out.below hbm HS2.out.lt)
          replace HT := Lib.hid (owned_below HT.out hbm)
          replace HS4 := Lib.hid (HS4.out.below hbm HS4.out.lt)
          replace HU := Lib.hid (owned_below HU.out hbm)
          replace HA6 := Lib.hid (HA6.out.below hbm HA6.out.lt)
          replace HB := Lib.hid (HB.out.trans (hbm.mono HB.out.size))
          have HI := Lib.hid (SeqS.of_owns ho)
          clear ho hbm
          go_wp2_with fail
          refine (nextU smpL A1 k1 thA5 none 0 wa7 HI.out smpOk okA5 (seqA5 _) (by decide)).mono ?_
          rintro e wb7 ⟨u, rfl, ⟨A2, k2, rfl, ho⟩, hbm⟩
          rw [sc7]
          replace HS1 := Lib.hid (HS1.out.below hbm HS1.out.lt)
          replace HA1 := Lib.hid (HA1.out.below hbm HA1.out.lt)
          replace HS2 := Lib.hid (HS2.out.below hbm HS2.out.lt)
          replace HT := Lib.hid (owned_below HT.out hbm)
          replace HS4 := Lib.hid (HS4.out.below hbm HS4.out.lt)
          replace HU := Lib.hid (owned_below HU.out hbm)
          replace HA6 := Lib.hid (HA6.out.below hbm HA6.out.lt)
          replace HB := Lib.hid (HB.out.trans (hbm.mono HB.out.size))
          clear hbm
          clear HI ho
          generalize hz7 : (nxZ smpL thA5).1 = z7 at *
          generalize hz7b : (nxZ smpL thA5).2.1 = zk7 at *
          clear hz7 hz7b
          have HBn := Lib.hid (((Below.refl wb7.heap.size wb7).alloc (Nat.le_refl _) (.cells thZ 27)).alloc (by simp) (.cells akZ 31))
          have lz0 := ((Lies.made wb7 27 thZ).alloc (.cells akZ 31))
          have HZ0_0 := Lib.hid lz0
          clear lz0
          have lz1 := (Lies.made (wb7.alloc (.cells thZ 27)) 31 akZ)
          rw [show (wb7.alloc (.cells thZ 27)).heap.size = wb7.heap.size + 1 by simp] at lz1
          have HZ0_1 := Lib.hid lz1
          clear lz1
          generalize hw3 : ((wb7.alloc (.cells thZ 27)).alloc (.cells akZ 31)) = w3 at *
          generalize hn5 : wb7.heap.size = n5 at *
          have hns : n5 ≤ w3.heap.size := by rw [← hn5]; exact HBn.out.size
          have hk0 := kept_rowT (w := w3) (g := n5) (thC z7 (.slice A2 z7.sn.length k2))
          have HZ1_0 := Lib.hid (lies_row HZ0_0.out (thC z7 (.slice A2 z7.sn.length k2)))
          have HZ1_1 := Lib.hid (HZ0_1.out.kept hk0 (fun (e : n5 + 1 = n5) => by omega))
          have HBn0 := Lib.hid (HBn.out.trans (hk0.below (show n5 ≤ w3.heap.size from hns) (fun k hk (e : k = n5) => by omega)))
          have hks0 : w3.heap.size ≤ (w3.setRow (n5) (thC z7 (.slice A2 z7.sn.length k2))).heap.size := hk0.size
          have hk1 := kept_rowT (w := (w3.setRow (n5) (thC z7 (.slice A2 z7.sn.length k2)))) (g := n5 + 1) (akC zk7)
          have HZ2_0 := Lib.hid (HZ1_0.out.kept hk1 (fun (e : n5 = n5 + 1) => by omega))
          have HZ2_1 := Lib.hid (lies_row HZ1_1.out (akC zk7))
          have HBn1 := Lib.hid (HBn0.out.trans (hk1.below (show n5 ≤ (w3.setRow (n5) (thC z7 (.slice A2 z7.sn.length k2))).heap.size from Nat.le_trans hns hks0) (fun k hk (e : k = n5 + 1) => by omega)))
          have hks1 : w3.heap.size ≤ ((w3.setRow (n5) (thC z7 (.slice A2 z7.sn.length k2))).setRow (n5 + 1) (akC zk7)).heap.size := Nat.le_trans hks0 hk1.size
          clear hk0 hk1
          go_upto_region 8 with (first | refine wpList_store_row rfl 27 _ _ rfl (n5) (thC z7 (.slice A2 z7.sn.length k2)) rfl rfl 27 thZ HZ0_0.out infoTh rfl (thC_one _ rfl) ?_ | refine wpList_store_row rfl 31 _ _ rfl (n5 + 1) (akC zk7) rfl rfl 31 akZ HZ1_1.out infoAk rfl (akC_one _) ?_)
          clear hw3 hks0 hks1 hns HBn HBn0 HZ0_0 HZ0_1 HZ1_0 HZ1_1
          generalize ((w3.setRow (n5) (thC z7 (.slice A2 z7.sn.length k2))).setRow (n5 + 1) (akC zk7)) = wc7 at *
          have hbf := HBn1.out
          rw [← hn5] at hbf
          clear HBn1
          replace HS1 := Lib.hid (HS1.out.below hbf HS1.out.lt)
          replace HA1 := Lib.hid (HA1.out.below hbf HA1.out.lt)
          replace HS2 := Lib.hid (HS2.out.below hbf HS2.out.lt)
          replace HT := Lib.hid (owned_below HT.out hbf)
          replace HS4 := Lib.hid (HS4.out.below hbf HS4.out.lt)
          replace HU := Lib.hid (owned_below HU.out hbf)
          replace HA6 := Lib.hid (HA6.out.below hbf HA6.out.lt)
          replace HB := Lib.hid (HB.out.trans (hbf.mono HB.out.size))
          clear hbf
          have HJ1 := HZ2_0
          clear HZ2_0
          have HJ2 := HZ2_1
          clear HZ2_1
          clear HJ1 HJ2
          generalize n5 = b7 at *
          clear hn5
          have ho8 : World.ownsRow (wc7.alloc (.cells #[.int .i64 18, .int .i64 2, .int .i64 3, .int .i64 1, .int .i64 0, .int .u64 0] 50)) 0 50 6 (.slice (some ⟨wc7.heap.size, 0, none⟩) 1 1) 1 (rowsOf inF sndL) := World.ownsRow_lit (base := 0) (e := 50) (size := 6) wc7 #[.int .i64 18, .int .i64 2, .int .i64 3, .int .i64 1, .int .i64 0, .int .u64 0] 1 (Nat.zero_le _) (by unfold maxLen; omega) rfl
          have hbm := (Below.refl wc7.heap.size wc7).alloc (Nat.le_refl _) (.cells #[.int .i64 18, .int .i64 2, .int .i64 3, .int .i64 1, .int .i64 0, .int .u64 0] 50)
          have HSD := Lib.hid ho8
          replace HS1 := Lib.hid (HS1.out.below hbm HS1.out.lt)
          replace HA1 := Lib.hid (HA1.out.below hbm HA1.out.lt)
          replace HS2 := Lib.hid (HS2.out.below hbm HS2.out.lt)
          replace HT := Lib.hid (owned_below HT.out hbm)
          replace HS4 := Lib.hid (HS4.out.below hbm HS4.out.lt)
          replace HU := Lib.hid (owned_below HU.out hbm)
          replace HA6 := Lib.hid (HA6.out.below hbm HA6.out.lt)
          replace HB := Lib.hid (HB.out.trans (hbm.mono HB.out.size))
          clear ho8 hbm
          go_upto_region 9 with (fail)
          generalize hw8 : wc7.alloc (.cells #[.int .i64 18, .int .i64 2, .int .i64 3, .int .i64 1, .int .i64 0, .int .u64 0] 50) = wc8 at *
          generalize hn8 : wc7.heap.size = n8 at *
          clear hw8 hn8
          have HSN := Lib.hid (show ∀ q : World, Below wc8.heap.size wc8 q → InsAt q (some ⟨n8, 0, none⟩) 1 sndL from fun q hq => (SeqS.of_owns HSD.out).later hq)
          go_wp2_with fail
          refine (doU sndL (some ⟨n8, 0, none⟩) 1 thO none 0 e01 0 wc8 (HSN.out _ (Below.refl _ _)) sndOk thOkO (seqO _) (by decide)).mono ?_
          rintro e wb9 ⟨u, rfl, ⟨A2, k2, rfl, ho⟩, hbm⟩
          rw [sc8.1]
          replace HS1 := Lib.hid (HS1.out.below hbm HS1.out.lt)
          replace HA1 := Lib.hid (HA1.out.below hbm HA1.out.lt)
          replace HS2 := Lib.hid (HS2.out.below hbm HS2.out.lt)
          replace HT := Lib.hid (owned_below HT.out hbm)
          replace HS4 := Lib.hid (HS4.out.below hbm HS4.out.lt)
          replace HU := Lib.hid (owned_below HU.out hbm)
          replace HA6 := Lib.hid (HA6.out.below hbm HA6.out.lt)
          replace HSD := Lib.hid (owned_below HSD.out hbm)
          replace HB := Lib.hid (HB.out.trans (hbm.mono HB.out.size))
          clear hbm
          have HV := Lib.hid (owns_mono ho (Nat.zero_le _))
          clear ho HSN
          rw [show (doZ sndL thO e01 0).1 = smC from rfl] at HV ⊢
          have HBn := Lib.hid ((Below.refl wb9.heap.size wb9).alloc (Nat.le_refl _) (.cells thZ 27))
          have lz0 := (Lies.made wb9 27 thZ)
          have HZ0_0 := Lib.hid lz0
          clear lz0
          generalize hw3 : (wb9.alloc (.cells thZ 27)) = w3 at *
          generalize hn5 : wb9.heap.size = n5 at *
          have hns : n5 ≤ w3.heap.size := by rw [← hn5]; exact HBn.out.size
          have hk0 := kept_rowT (w := w3) (g := n5) (thC smC (.slice A2 smC.sn.length k2))
          have HZ1_0 := Lib.hid (lies_row HZ0_0.out (thC smC (.slice A2 smC.sn.length k2)))
          have HBn0 := Lib.hid (HBn.out.trans (hk0.below (show n5 ≤ w3.heap.size from hns) (fun k hk (e : k = n5) => by omega)))
          have hks0 : w3.heap.size ≤ (w3.setRow (n5) (thC smC (.slice A2 smC.sn.length k2))).heap.size := hk0.size
          clear hk0
          go_upto_region 10 with (first | refine wpList_store_row rfl 27 _ _ rfl (n5) (thC smC (.slice A2 smC.sn.length k2)) rfl rfl 27 thZ HZ0_0.out infoTh rfl (thC_one _ rfl) ?_)
          clear hw3 hks0 hns HBn HZ0_0
          generalize (w3.setRow (n5) (thC smC (.slice A2 smC.sn.length k2))) = wc9 at *
          have hbf := HBn0.out
          rw [← hn5] at hbf
          clear HBn0
          replace HS1 := Lib.hid (HS1.out.below hbf HS1.out.lt)
          replace HA1 := Lib.hid (HA1.out.below hbf HA1.out.lt)
          replace HS2 := Lib.hid (HS2.out.below hbf HS2.out.lt)
          replace HT := Lib.hid (owned_below HT.out hbf)
          replace HS4 := Lib.hid (HS4.out.below hbf HS4.out.lt)
          replace HU := Lib.hid (owned_below HU.out hbf)
          replace HA6 := Lib.hid (HA6.out.below hbf HA6.out.lt)
          replace HSD := Lib.hid (owned_below HSD.out hbf)
          replace HV := Lib.hid (owned_below HV.out hbf)
          replace HB := Lib.hid (HB.out.trans (hbf.mono HB.out.size))
          clear hbf
          have HS9 := HZ1_0
          clear HZ1_0
          generalize n5 = b9 at *
          clear hn5
          generalize A2 = AC at *
          generalize k2 = kC at *
          have c0 := (HS9.out.cell 0).trans (show _ = some (Value.int .i64 smC.at_) from rfl)
          have c1 := (HS9.out.cell 1).trans (show _ = some (Value.int .i64 smC.ph) from rfl)
          have c2 := (HS9.out.cell 2).trans (show _ = some (Value.int .i64 smC.rg) from rfl)
          have c3 := (HS9.out.cell 3).trans (show _ = some (Value.int .i64 smC.st) from rfl)
          have c4 := (HS9.out.cell 4).trans (show _ = some (Value.int .u64 (smC.tk : Int)) from rfl)
          have c5 := (HS9.out.cell 5).trans (show _ = some (Value.int .u64 (smC.r 0 : Int)) from rfl)
          have c6 := (HS9.out.cell 6).trans (show _ = some (Value.int .u64 (smC.r 1 : Int)) from rfl)
          have c7 := (HS9.out.cell 7).trans (show _ = some (Value.int .u64 (smC.r 2 : Int)) from rfl)
          have c8 := (HS9.out.cell 8).trans (show _ = some (Value.int .u64 (smC.r 3 : Int)) from rfl)
          have c9 := (HS9.out.cell 9).trans (show _ = some (Value.int .u64 (smC.r 4 : Int)) from rfl)
          have c10 := (HS9.out.cell 10).trans (show _ = some (Value.int .u64 (smC.r 5 : Int)) from rfl)
          have c11 := (HS9.out.cell 11).trans (show _ = some (Value.int .u64 (smC.r 6 : Int)) from rfl)
          have c12 := (HS9.out.cell 12).trans (show _ = some (Value.int .u64 (smC.r 7 : Int)) from rfl)
          have c13 := (HS9.out.cell 13).trans (show _ = some ((.slice AC smC.sn.length kC)) from rfl)
          have cl := HS9.out.lt
          go_wp2_with fail
          refine (nextU sndL (some ⟨n8, 0, none⟩) 1 smC AC kC wc9 (SeqS.of_owns HSD.out) sndOk okC (SeqS.of_owns HV.out) (by decide +kernel)).mono ?_
          rintro e wb10 ⟨u, rfl, ⟨A2, k2, rfl, ho⟩, hbm⟩
          rw [sc9.1]
          rw [sc9.2]
          replace HS1 := Lib.hid (HS1.out.below hbm HS1.out.lt)
          replace HA1 := Lib.hid (HA1.out.below hbm HA1.out.lt)
          replace HS2 := Lib.hid (HS2.out.below hbm HS2.out.lt)
          replace HT := Lib.hid (owned_below HT.out hbm)
          replace HS4 := Lib.hid (HS4.out.below hbm HS4.out.lt)
          replace HU := Lib.hid (owned_below HU.out hbm)
          replace HA6 := Lib.hid (HA6.out.below hbm HA6.out.lt)
          replace HSD := Lib.hid (owned_below HSD.out hbm)
          replace HV := Lib.hid (owned_below HV.out hbm)
          replace HS9 := Lib.hid (HS9.out.below hbm HS9.out.lt)
          replace HB := Lib.hid (HB.out.trans (hbm.mono HB.out.size))
          clear hbm
          clear ho
          clear c0 c1 c2 c3 c4 c5 c6 c7 c8 c9 c10 c11 c12 c13 cl
          generalize hz10 : (nxZ sndL smC).1 = z10 at *
          clear hz10
          have HBn := Lib.hid (((Below.refl wb10.heap.size wb10).alloc (Nat.le_refl _) (.cells thZ 27)).alloc (by simp) (.cells akZ 31))
          have lz0 := ((Lies.made wb10 27 thZ).alloc (.cells akZ 31))
          have HZ0_0 := Lib.hid lz0
          clear lz0
          have lz1 := (Lies.made (wb10.alloc (.cells thZ 27)) 31 akZ)
          rw [show (wb10.alloc (.cells thZ 27)).heap.size = wb10.heap.size + 1 by simp] at lz1
          have HZ0_1 := Lib.hid lz1
          clear lz1
          generalize hw3 : ((wb10.alloc (.cells thZ 27)).alloc (.cells akZ 31)) = w3 at *
          generalize hn5 : wb10.heap.size = n5 at *
          have hns : n5 ≤ w3.heap.size := by rw [← hn5]; exact HBn.out.size
          have hk0 := kept_rowT (w := w3) (g := n5) (thC z10 (.slice A2 z10.sn.length k2))
          have HZ1_0 := Lib.hid (lies_row HZ0_0.out (thC z10 (.slice A2 z10.sn.length k2)))
          have HZ1_1 := Lib.hid (HZ0_1.out.kept hk0 (fun (e : n5 + 1 = n5) => by omega))
          have HBn0 := Lib.hid (HBn.out.trans (hk0.below (show n5 ≤ w3.heap.size from hns) (fun k hk (e : k = n5) => by omega)))
          have hks0 : w3.heap.size ≤ (w3.setRow (n5) (thC z10 (.slice A2 z10.sn.length k2))).heap.size := hk0.size
          have hk1 := kept_rowT (w := (w3.setRow (n5) (thC z10 (.slice A2 z10.sn.length k2)))) (g := n5 + 1) (akC ⟨10, 1, 0, 0, 4, 0⟩)
          have HZ2_0 := Lib.hid (HZ1_0.out.kept hk1 (fun (e : n5 = n5 + 1) => by omega))
          have HZ2_1 := Lib.hid (lies_row HZ1_1.out (akC ⟨10, 1, 0, 0, 4, 0⟩))
          have HBn1 := Lib.hid (HBn0.out.trans (hk1.below (show n5 ≤ (w3.setRow (n5) (thC z10 (.slice A2 z10.sn.length k2))).heap.size from Nat.le_trans hns hks0) (fun k hk (e : k = n5 + 1) => by omega)))
          have hks1 : w3.heap.size ≤ ((w3.setRow (n5) (thC z10 (.slice A2 z10.sn.length k2))).setRow (n5 + 1) (akC ⟨10, 1, 0, 0, 4, 0⟩)).heap.size := Nat.le_trans hks0 hk1.size
          clear hk0 hk1
          go_upto_region 11 with (first | refine wpList_store_row rfl 27 _ _ rfl (n5) (thC z10 (.slice A2 z10.sn.length k2)) rfl rfl 27 thZ HZ0_0.out infoTh rfl (thC_one _ rfl) ?_ | refine wpList_store_row rfl 31 _ _ rfl (n5 + 1) (akC ⟨10, 1, 0, 0, 4, 0⟩) rfl rfl 31 akZ HZ1_1.out infoAk rfl (akC_one _) ?_)
          clear hw3 hks0 hks1 hns HBn HBn0 HZ0_0 HZ0_1 HZ1_0 HZ1_1
          generalize ((w3.setRow (n5) (thC z10 (.slice A2 z10.sn.length k2))).setRow (n5 + 1) (akC ⟨10, 1, 0, 0, 4, 0⟩)) = wd at *
          have hbf := HBn1.out
          rw [← hn5] at hbf
          clear HBn1
          replace HS1 := Lib.hid (HS1.out.below hbf HS1.out.lt)
          replace HA1 := Lib.hid (HA1.out.below hbf HA1.out.lt)
          replace HS2 := Lib.hid (HS2.out.below hbf HS2.out.lt)
          replace HT := Lib.hid (owned_below HT.out hbf)
          replace HS4 := Lib.hid (HS4.out.below hbf HS4.out.lt)
          replace HU := Lib.hid (owned_below HU.out hbf)
          replace HA6 := Lib.hid (HA6.out.below hbf HA6.out.lt)
          replace HSD := Lib.hid (owned_below HSD.out hbf)
          replace HV := Lib.hid (owned_below HV.out hbf)
          replace HS9 := Lib.hid (HS9.out.below hbf HS9.out.lt)
          replace HB := Lib.hid (HB.out.trans (hbf.mono HB.out.size))
          clear hbf
          have HJ1 := HZ2_0
          clear HZ2_0
          have HA10 := HZ2_1
          clear HZ2_1
          clear HJ1
          generalize n5 = b10 at *
          clear hn5
          have ka0 := (HA1.out.cell 0).trans (show _ = some (Value.int .i64 7) from rfl)
          have ka1 := (HA1.out.cell 1).trans (show _ = some (Value.int .i64 0) from rfl)
          have ka2 := (HA1.out.cell 2).trans (show _ = some (Value.int .i64 0) from rfl)
          have ka3 := (HA1.out.cell 3).trans (show _ = some (Value.int .i64 0) from rfl)
          have ka4 := (HA1.out.cell 4).trans (show _ = some (Value.int .u64 0) from rfl)
          have ka5 := (HA1.out.cell 5).trans (show _ = some (Value.int .u64 10) from rfl)
          have kal := HA1.out.lt
          have kb0 := (HA6.out.cell 0).trans (show _ = some (Value.int .i64 0) from rfl)
          have kb1 := (HA6.out.cell 1).trans (show _ = some (Value.int .i64 0) from rfl)
          have kb2 := (HA6.out.cell 2).trans (show _ = some (Value.int .i64 0) from rfl)
          have kb3 := (HA6.out.cell 3).trans (show _ = some (Value.int .i64 0) from rfl)
          have kb4 := (HA6.out.cell 4).trans (show _ = some (Value.int .u64 0) from rfl)
          have kb5 := (HA6.out.cell 5).trans (show _ = some (Value.int .u64 0) from rfl)
          have kbl := HA6.out.lt
          have kd0 := (HA10.out.cell 0).trans (show _ = some (Value.int .i64 10) from rfl)
          have kd1 := (HA10.out.cell 1).trans (show _ = some (Value.int .i64 1) from rfl)
          have kd2 := (HA10.out.cell 2).trans (show _ = some (Value.int .i64 0) from rfl)
          have kd3 := (HA10.out.cell 3).trans (show _ = some (Value.int .i64 0) from rfl)
          have kd4 := (HA10.out.cell 4).trans (show _ = some (Value.int .u64 4) from rfl)
          have kd5 := (HA10.out.cell 5).trans (show _ = some (Value.int .u64 0) from rfl)
          have kdl := HA10.out.lt
          have hq1 : ∀ q : World, (binOp .eql 31 (.agg #[.int .i64 7, .int .i64 0, .int .i64 0, .int .i64 0, .int .u64 0, .int .u64 10]) (.agg #[.int .i64 7, .int .i64 0, .int .i64 0, .int .i64 0, .int .u64 0, .int .u64 10])).run Try.prog q = .ok (.bool true) q := fun q => akEql ⟨7, 0, 0, 0, 0, 10⟩ ⟨7, 0, 0, 0, 0, 10⟩ q
          have hq2 : ∀ q : World, (binOp .eql 31 (.agg #[.int .i64 0, .int .i64 0, .int .i64 0, .int .i64 0, .int .u64 0, .int .u64 0]) (.agg #[.int .i64 0, .int .i64 0, .int .i64 0, .int .i64 0, .int .u64 0, .int .u64 0])).run Try.prog q = .ok (.bool true) q := fun q => akEql ⟨0, 0, 0, 0, 0, 0⟩ ⟨0, 0, 0, 0, 0, 0⟩ q
          have hq3 : ∀ q : World, (binOp .eql 31 (.agg #[.int .i64 10, .int .i64 1, .int .i64 0, .int .i64 0, .int .u64 4, .int .u64 0]) (.agg #[.int .i64 10, .int .i64 1, .int .i64 0, .int .i64 0, .int .u64 4, .int .u64 0])).run Try.prog q = .ok (.bool true) q := fun q => akEql ⟨10, 1, 0, 0, 4, 0⟩ ⟨10, 1, 0, 0, 4, 0⟩ q
          have hgd := akGuard
          have hhd := akHeld
          have s0 := (HS1.out.cell 0).trans (show _ = some (Value.int .i64 z1.at_) from rfl)
          have s6 := (HS1.out.cell 6).trans (show _ = some (Value.int .u64 (z1.r 1 : Int)) from rfl)
          have sl := HS1.out.lt
          rw [K1a] at s0
          rw [K1b] at s6
          have t0 := (HS2.out.cell 0).trans (show _ = some (Value.int .i64 smT.at_) from rfl)
          have t13 := (HS2.out.cell 13).trans (show _ = some (Value.slice AT smT.sn.length kT) from rfl)
          have tl := HS2.out.lt
          rw [sc2.2.1] at t0
          rw [sc2.2.2] at t13
          have HR1 := Lib.hid (fun q hq => thRight sndL (some ⟨n8, 0, none⟩) 1 smC (.slice AC smC.sn.length kC) q hq)
          have HR2 := Lib.hid (fun q hq => thRight sndL (some ⟨n8, 0, none⟩) 1 smU (.slice AHS4 smU.sn.length kHS4) q hq)
          have HR3 := Lib.hid (fun q hq => code16 sndL (some ⟨n8, 0, none⟩) 1 q hq)
          rw [sc10.1] at HR1
          rw [sc10.2.1] at HR2
          rw [sc10.2.2] at HR3
          have HSN := Lib.hid (show ∀ q : World, Below wd.heap.size wd q → InsAt q (some ⟨n8, 0, none⟩) 1 sndL from fun q hq => (SeqS.of_owns HSD.out).later hq)
          have c0 := (HS9.out.cell 0).trans (show _ = some (Value.int .i64 smC.at_) from rfl)
          have c1 := (HS9.out.cell 1).trans (show _ = some (Value.int .i64 smC.ph) from rfl)
          have c2 := (HS9.out.cell 2).trans (show _ = some (Value.int .i64 smC.rg) from rfl)
          have c3 := (HS9.out.cell 3).trans (show _ = some (Value.int .i64 smC.st) from rfl)
          have c4 := (HS9.out.cell 4).trans (show _ = some (Value.int .u64 (smC.tk : Int)) from rfl)
          have c5 := (HS9.out.cell 5).trans (show _ = some (Value.int .u64 (smC.r 0 : Int)) from rfl)
          have c6 := (HS9.out.cell 6).trans (show _ = some (Value.int .u64 (smC.r 1 : Int)) from rfl)
          have c7 := (HS9.out.cell 7).trans (show _ = some (Value.int .u64 (smC.r 2 : Int)) from rfl)
          have c8 := (HS9.out.cell 8).trans (show _ = some (Value.int .u64 (smC.r 3 : Int)) from rfl)
          have c9 := (HS9.out.cell 9).trans (show _ = some (Value.int .u64 (smC.r 4 : Int)) from rfl)
          have c10 := (HS9.out.cell 10).trans (show _ = some (Value.int .u64 (smC.r 5 : Int)) from rfl)
          have c11 := (HS9.out.cell 11).trans (show _ = some (Value.int .u64 (smC.r 6 : Int)) from rfl)
          have c12 := (HS9.out.cell 12).trans (show _ = some (Value.int .u64 (smC.r 7 : Int)) from rfl)
          have c13 := (HS9.out.cell 13).trans (show _ = some ((.slice AC smC.sn.length kC)) from rfl)
          have cl := HS9.out.lt
          have u0 := (HS4.out.cell 0).trans (show _ = some (Value.int .i64 smU.at_) from rfl)
          have u1 := (HS4.out.cell 1).trans (show _ = some (Value.int .i64 smU.ph) from rfl)
          have u2 := (HS4.out.cell 2).trans (show _ = some (Value.int .i64 smU.rg) from rfl)
          have u3 := (HS4.out.cell 3).trans (show _ = some (Value.int .i64 smU.st) from rfl)
          have u4 := (HS4.out.cell 4).trans (show _ = some (Value.int .u64 (smU.tk : Int)) from rfl)
          have u5 := (HS4.out.cell 5).trans (show _ = some (Value.int .u64 (smU.r 0 : Int)) from rfl)
          have u6 := (HS4.out.cell 6).trans (show _ = some (Value.int .u64 (smU.r 1 : Int)) from rfl)
          have u7 := (HS4.out.cell 7).trans (show _ = some (Value.int .u64 (smU.r 2 : Int)) from rfl)
          have u8 := (HS4.out.cell 8).trans (show _ = some (Value.int .u64 (smU.r 3 : Int)) from rfl)
          have u9 := (HS4.out.cell 9).trans (show _ = some (Value.int .u64 (smU.r 4 : Int)) from rfl)
          have u10 := (HS4.out.cell 10).trans (show _ = some (Value.int .u64 (smU.r 5 : Int)) from rfl)
          have u11 := (HS4.out.cell 11).trans (show _ = some (Value.int .u64 (smU.r 6 : Int)) from rfl)
          have u12 := (HS4.out.cell 12).trans (show _ = some (Value.int .u64 (smU.r 7 : Int)) from rfl)
          have u13 := (HS4.out.cell 13).trans (show _ = some ((.slice AHS4 smU.sn.length kHS4)) from rfl)
          have ul := HS4.out.lt
          have hph : (smC.ph == 1) = true := by rw [sc8.2.1]; rfl
          have hst : (smU.st == 1) = true := by rw [sc4.2.1]; rfl
          go_wp2_with fail
          clear hq1 hq2 hq3 hgd hhd s0 s6 sl t0 t13 tl hph hst
          refine (HR1.out _ (HSN.out _ (Below.refl _ _))).mono ?_
          rintro e w1 ⟨rfl, hb1⟩
          have HS4b := Lib.hid (HS4.out.below hb1 HS4.out.lt)
          clear u0 u1 u2 u3 u4 u5 u6 u7 u8 u9 u10 u11 u12 u13 ul
          have u0 := (HS4b.out.cell 0).trans (show _ = some (Value.int .i64 smU.at_) from rfl)
          have u1 := (HS4b.out.cell 1).trans (show _ = some (Value.int .i64 smU.ph) from rfl)
          have u2 := (HS4b.out.cell 2).trans (show _ = some (Value.int .i64 smU.rg) from rfl)
          have u3 := (HS4b.out.cell 3).trans (show _ = some (Value.int .i64 smU.st) from rfl)
          have u4 := (HS4b.out.cell 4).trans (show _ = some (Value.int .u64 (smU.tk : Int)) from rfl)
          have u5 := (HS4b.out.cell 5).trans (show _ = some (Value.int .u64 (smU.r 0 : Int)) from rfl)
          have u6 := (HS4b.out.cell 6).trans (show _ = some (Value.int .u64 (smU.r 1 : Int)) from rfl)
          have u7 := (HS4b.out.cell 7).trans (show _ = some (Value.int .u64 (smU.r 2 : Int)) from rfl)
          have u8 := (HS4b.out.cell 8).trans (show _ = some (Value.int .u64 (smU.r 3 : Int)) from rfl)
          have u9 := (HS4b.out.cell 9).trans (show _ = some (Value.int .u64 (smU.r 4 : Int)) from rfl)
          have u10 := (HS4b.out.cell 10).trans (show _ = some (Value.int .u64 (smU.r 5 : Int)) from rfl)
          have u11 := (HS4b.out.cell 11).trans (show _ = some (Value.int .u64 (smU.r 6 : Int)) from rfl)
          have u12 := (HS4b.out.cell 12).trans (show _ = some (Value.int .u64 (smU.r 7 : Int)) from rfl)
          have u13 := (HS4b.out.cell 13).trans (show _ = some ((.slice AHS4 smU.sn.length kHS4)) from rfl)
          have ul := HS4b.out.lt
          go_wp2_with fail
          refine (HR2.out _ (HSN.out _ hb1)).mono ?_
          rintro e w2 ⟨rfl, hb2⟩
          have hb12 := hb1.trans (hb2.mono hb1.size)
          go_wp2_with fail
          refine (HR3.out _ (HSN.out _ hb12)).mono ?_
          rintro e w3 ⟨rfl, hb3⟩
          have HBF := Lib.hid (HB.out.trans ((hb12.trans (hb3.mono hb12.size)).mono HB.out.size))
          go_wp2
          go_ret
          exact ⟨rfl, HBF.out⟩
end Go.Proofs.Ytiegmpjoiekekaa
