/-
  Up to what is seen (layer 16): thread.Next.
-/
import Derived.Test.YtiegmpjoiekekaaThr3
import Derived.Test.YtiegmpjoiekekaaThg2
import Derived.Test.YtiegmpjoiekekaaThq
import Derived.Test.YtiegmpjoiekekaaThcl
import Derived.Test.YtiegmpjoiekekaaThp3
import Derived.Test.YtiegmpjoiekekaaTwo
namespace Go.Proofs.Ytiegmpjoiekekaa
open Go.RowKit
set_option linter.unusedVariables false
set_option linter.unusedSimpArgs false
/-- How a thread stands behind its plain instructions. -/
def nxT (l : List In) (x : Th) : Th := if x.st = 0 ∧ x.ph = 0 then goT l 256 x else x
theorem nxT_run {l : List In} {x : Th} (h1 : x.st = 0) (h2 : x.ph = 0) : nxT l x = goT l 256 x := by unfold nxT; rw [if_pos ⟨h1, h2⟩]
theorem nxT_not {l : List In} {x : Th} (h : ¬ (x.st = 0 ∧ x.ph = 0)) : nxT l x = x := by unfold nxT; rw [if_neg h]
theorem hdB_parts {l : List In} {x : Th} {op : Int} (h : hdB l x op = true) : x.st = 0 ∧ x.at_ < (l.length : Int) ∧ (atT l x).op = op ∧ (atT l x).c = x.rg ∧ x.tk < 4611686018427387904 := by
  unfold hdB at h
  simp only [Bool.and_eq_true, beq_iff_eq, decide_eq_true_eq] at h
  exact ⟨h.1, h.2.1, h.2.2.1, h.2.2.2.1, h.2.2.2.2⟩
theorem thB_parts {l : List In} {x : Th} (h : thB l x = true) : codeB l = true ∧ (0 ≤ x.at_ ∧ x.at_ ≤ (l.length : Int) ∧ 0 ≤ x.st ∧ x.st ≤ 2) ∧ phB l x = true := by
  unfold thB inTh at h
  simp only [Bool.and_eq_true, decide_eq_true_eq] at h
  exact ⟨h.1, h.2.1, h.2.2⟩
theorem thB_inv {l : List In} {x : Th} (h : thB l x = true) (hx : thOk x) : InvT l x := ⟨(thB_parts h).2.1.1, (thB_parts h).2.1.2.1, hx.2.2.2.2.2.1⟩
theorem phB_1 {l : List In} {x : Th} (h : phB l x = true) (h1 : x.ph = 1) : hdB l x 18 = true := by
  unfold phB at h; rw [if_neg (by omega), if_pos h1] at h; exact h
theorem phB_2 {l : List In} {x : Th} (h : phB l x = true) (h1 : x.ph = 2) : hdB l x 19 = true := by
  unfold phB at h; rw [if_neg (by omega), if_neg (by omega), if_pos h1] at h; exact h
theorem nxT_facts {l : List In} {x : Th} (h : thB l x = true) (hx : thOk x) (hok : ∀ i ∈ l, inOk i) : InvT l (nxT l x) ∧ ((nxT l x).st = 0 → (nxT l x).ph = 1 → (atT l (nxT l x)).op = 18) ∧ (nxT l x).sn = x.sn := by
  obtain ⟨hc, hin, hp⟩ := thB_parts h
  by_cases hh : x.st = 0 ∧ x.ph = 0
  · rw [nxT_run hh.1 hh.2]
    obtain ⟨q1, q2, q3, q4, q5⟩ := goT_rest l 256 x
    refine ⟨goT_inv hc hok 256 x (thB_inv h hx), fun _ e => ?_, q5⟩
    rw [q1] at e; omega
  · rw [nxT_not hh]
    exact ⟨thB_inv h hx, fun _ e => (hdB_parts (phB_1 hp e)).2.2.1, rfl⟩
abbrev akZ : Array Value := #[.int .i64 0, .int .i64 0, .int .i64 0, .int .i64 0, .int .u64 0, .int .u64 0]
theorem infoAk : (Try.prog.info? 31).map (·.size) = some 6 := by kernel_rfl
theorem owns_slice {w : World} {B : Nat} {e : TypeId} {sz n : Nat} {v : Value} {xs : List Value} (h : w.ownsRow B e sz v n xs) : ∃ A c, v = .slice A n c := by
  rcases owns_row h with ⟨rfl, rfl, _⟩ | ⟨r, cap, cur, rfl, _⟩
  · exact ⟨none, 0, rfl⟩
  · exact ⟨_, _, rfl⟩
theorem akC_one (a : Ak) : (akC a).all (·.oneCell') = true := by
  simp [akC]
  exact ⟨rfl, rfl, rfl, rfl, rfl, rfl⟩
set_option maxHeartbeats 8000000 in
set_option maxRecDepth 100000 in
theorem next16 (l : List In) (A : Option Addr) (c : Nat) (x : Th) (S : Option Addr) (cs : Nat) (w : World) (h : InsAt w A c l) (hok : ∀ i ∈ l, inOk i) (hx : thOk x) (hs : SeqS w 1 (.slice S x.sn.length cs) x.sn.length (cells64 x.sn)) (hl : x.sn.length ≤ 1000000) (hr : thB l x = true) :
    Calls Try.prog 10 #[.slice A l.length c, .agg (thC x (.slice S x.sn.length cs))] w fun e w' => ∃ A' c', e = .returned (.tuple #[.agg (thC (nxT l x) (.slice A' x.sn.length c')), .agg (akC (reqA l (nxT l x))), .int .i64 0]) ∧ w'.ownsRow w.heap.size 23 1 (.slice A' x.sn.length c') x.sn.length (cells64 x.sn) ∧ Below w.heap.size w w' := by
  obtain ⟨hc1, hc2⟩ := seq_form h
  have hb3 : Below w.heap.size w (((w.alloc (.cells (thC x (.slice S x.sn.length cs)) 27)).alloc (.cells thZ 27)).alloc (.cells akZ 31)) := (((Below.refl _ _).alloc (Nat.le_refl _) _).alloc (by simp) _).alloc (by simp; omega) _
  have l1 := ((Lies.made w 27 (thC x (.slice S x.sn.length cs))).alloc (.cells thZ 27)).alloc (.cells akZ 31)
  have l2 := (Lies.made (w.alloc (.cells (thC x (.slice S x.sn.length cs)) 27)) 27 thZ).alloc (.cells akZ 31)
  have l3 := Lies.made ((w.alloc (.cells (thC x (.slice S x.sn.length cs)) 27)).alloc (.cells thZ 27)) 31 akZ
  rw [show (w.alloc (.cells (thC x (.slice S x.sn.length cs)) 27)).heap.size = w.heap.size + 1 by simp] at l2
  rw [show ((w.alloc (.cells (thC x (.slice S x.sn.length cs)) 27)).alloc (.cells thZ 27)).heap.size = w.heap.size + 1 + 1 by simp] at l3
  have HB := Lib.hid hb3
  have HG := Lib.hid l1
  have H4 := Lib.hid l2
  have H5 := Lib.hid l3
  obtain ⟨hc, hin, hp⟩ := thB_parts hr
  obtain ⟨hinv, h18, hsn⟩ := nxT_facts hr hx hok
  have HH := Lib.hid (fun (q : World) (hq : Below w.heap.size w q) => h.later hq)
  have HSQ := Lib.hid (fun (q : World) (hq : Below w.heap.size w q) => hs.later hq)
  have HRT := Lib.hid (fun q hq => thRight l A c x (.slice S x.sn.length cs) q hq)
  rw [hr] at HRT
  have HCL := Lib.hid (fun q hq => clone16 x.sn S cs q hq hl)
  have HIV := Lib.hid hinv
  have H18 := Lib.hid h18
  have HX := Lib.hid (thB_inv hr hx)
  have HC := Lib.hid hc
  have HRQ := Lib.hid (fun v q hq => request16 l A c (nxT l x) v q hq hc ⟨hinv.1, hinv.2.1⟩ h18)
  have HOK := Lib.hid hok
  have HADV := Lib.hid (fun v q hb hl => advance16 l A c x v w.heap.size w q h hok hc hb (Nat.le_refl _) hl (thB_inv hr hx))
  have HLN := Lib.hid hl
  clear hb3 l1 l2 l3 hc hin hp hinv h18 hsn h hs hr hx hok hl
  go_enter Try.func10, Try.ntmps10
  go_upto_region 1 with (fail)
  generalize (((w.alloc (.cells (thC x (.slice S x.sn.length cs)) 27)).alloc (.cells thZ 27)).alloc (.cells akZ 31)) = w1 at *
  have c0 := (HG.out.cell 0).trans (show _ = some (Value.int .i64 x.at_) from rfl)
  have c1 := (HG.out.cell 1).trans (show _ = some (Value.int .i64 x.ph) from rfl)
  have c2 := (HG.out.cell 2).trans (show _ = some (Value.int .i64 x.rg) from rfl)
  have c3 := (HG.out.cell 3).trans (show _ = some (Value.int .i64 x.st) from rfl)
  have c4 := (HG.out.cell 4).trans (show _ = some (Value.int .u64 (x.tk : Int)) from rfl)
  have c5 := (HG.out.cell 5).trans (show _ = some (Value.int .u64 (x.r 0 : Int)) from rfl)
  have c6 := (HG.out.cell 6).trans (show _ = some (Value.int .u64 (x.r 1 : Int)) from rfl)
  have c7 := (HG.out.cell 7).trans (show _ = some (Value.int .u64 (x.r 2 : Int)) from rfl)
  have c8 := (HG.out.cell 8).trans (show _ = some (Value.int .u64 (x.r 3 : Int)) from rfl)
  have c9 := (HG.out.cell 9).trans (show _ = some (Value.int .u64 (x.r 4 : Int)) from rfl)
  have c10 := (HG.out.cell 10).trans (show _ = some (Value.int .u64 (x.r 5 : Int)) from rfl)
  have c11 := (HG.out.cell 11).trans (show _ = some (Value.int .u64 (x.r 6 : Int)) from rfl)
  have c12 := (HG.out.cell 12).trans (show _ = some (Value.int .u64 (x.r 7 : Int)) from rfl)
  have c13 := (HG.out.cell 13).trans (show _ = some ((.slice S x.sn.length cs)) from rfl)
  have cl := HG.out.lt
  go_wp2_with fail
  refine (HRT.out _ (HH.out _ HB.out)).mono ?_
  rintro e w2 ⟨rfl, hbm⟩
  replace HG := Lib.hid (HG.out.below hbm HG.out.lt)
  replace H4 := Lib.hid (H4.out.below hbm H4.out.lt)
  replace H5 := Lib.hid (H5.out.below hbm H5.out.lt)
  replace HB := Lib.hid (HB.out.trans (hbm.mono HB.out.size))
  clear c0 c1 c2 c3 c4 c5 c6 c7 c8 c9 c10 c11 c12 c13 cl
  clear hbm HRT
  have c13 := (HG.out.cell 13).trans (show _ = some (.slice S x.sn.length cs) from rfl)
  have cl := HG.out.lt
  go_wp2_with fail
  refine (HCL.out _ (HSQ.out _ HB.out)).mono ?_
  rintro e w3 ⟨v, rfl, ho, hbm⟩
  obtain ⟨A', c', rfl⟩ := owns_slice ho
  have hBw := HB.out.size
  have HO := Lib.hid (owns_mono ho hBw)
  replace HG := Lib.hid (HG.out.below hbm HG.out.lt)
  replace H4 := Lib.hid (H4.out.below hbm H4.out.lt)
  replace H5 := Lib.hid (H5.out.below hbm H5.out.lt)
  replace HB := Lib.hid (HB.out.trans (hbm.mono HB.out.size))
  clear hbm ho c13 cl hBw HCL HSQ
  have c13 := (HG.out.cell 13).trans (show _ = some (.slice S x.sn.length cs) from rfl)
  have cl := HG.out.lt
  have cf := HG.out.free 13
  go_upto_region 4 with (fail)
  replace H4 := Lib.hid (H4.out.far (p := ⟨w.heap.size, 13, none⟩) (show w.heap.size + 1 ≠ w.heap.size by omega) (.slice A' x.sn.length c'))
  replace H5 := Lib.hid (H5.out.far (p := ⟨w.heap.size, 13, none⟩) (show w.heap.size + 1 + 1 ≠ w.heap.size by omega) (.slice A' x.sn.length c'))
  replace HO := Lib.hid (owns_put HO.out HG.out (by decide) 13 (.slice A' x.sn.length c'))
  replace HB := Lib.hid (HB.out.setCell (p := ⟨w.heap.size, 13, none⟩) (Nat.le_refl _) (.slice A' x.sn.length c'))
  have HG3 := Lib.hid (show Lies (w3.setCell ⟨w.heap.size, 13, none⟩ (.slice A' x.sn.length c')) w.heap.size 27 (thC x (.slice A' x.sn.length c')) from HG.out.put 13 (.slice A' x.sn.length c'))
  clear HG c13 cl cf
  generalize w3.setCell ⟨w.heap.size, 13, none⟩ (.slice A' x.sn.length c') = w4 at *
  have c1 := (HG3.out.cell 1).trans (show _ = some (.int .i64 x.ph) from rfl)
  have c3 := (HG3.out.cell 3).trans (show _ = some (.int .i64 x.st) from rfl)
  have cl := HG3.out.lt
  by_cases hst : x.st = 0
  · have e1 : (x.st == 0) = true := by rw [beq_iff_eq]; exact hst
    by_cases hph : x.ph = 0
    · have e2 : (x.ph == 0) = true := by rw [beq_iff_eq]; exact hph
      have HY := Lib.hid (nxT_run (l := l) hst hph)
      clear hst hph
      go_wp2_with fail
      refine (HADV.out _ _ HB.out HG3.out).mono ?_
      rintro e w5 ⟨rfl, hl5, hk5⟩
      rw [← HY.out] at hl5
      replace H4 := Lib.hid (H4.out.kept hk5 (fun (e : w.heap.size + 1 = w.heap.size) => by omega))
      replace H5 := Lib.hid (H5.out.kept hk5 (fun (e : w.heap.size + 1 + 1 = w.heap.size) => by omega))
      replace HO := Lib.hid (owns_kept HO.out hk5 (fun r cur hr hl (e : r = w.heap.size) => by subst e; exact absurd (hl.same HG3.out).1 (by decide)))
      replace HB := Lib.hid (HB.out.trans (hk5.below HB.out.size (fun k hk (e : k = w.heap.size) => by omega)))
      clear HG3 c1 c3 cl hk5 HADV
      have HG3 := Lib.hid hl5
      clear hl5 HY HX
      generalize hyy : nxT l x = y at *
      have HYE := Lib.hid hyy
      clear hyy
      go_wp2_with fail
      try clear c1 c3 cl
      generalize hw9 : w5 = w9 at *
      clear hw9
      have HSN := Lib.hid (fun (q : World) (hq : Kept (twoRows (w.heap.size + 1) (w.heap.size + 1 + 1)) w9 q) => HG3.out.kept hq (fun (e : w.heap.size = _ ∨ w.heap.size = _) => by omega))
      have HBL := Lib.hid (fun (q : World) (hq : Kept (twoRows (w.heap.size + 1) (w.heap.size + 1 + 1)) w9 q) => HB.out.trans (hq.below HB.out.size (fun k hk (e : k = _ ∨ k = _) => by omega)))
      refine wp_region_rely (fun q => Kept (twoRows (w.heap.size + 1) (w.heap.size + 1 + 1)) w9 q) (rgV [some (.agg (thC y (.slice A' x.sn.length c'))), some (.slice A l.length c), some (.agg (thC y (.slice A' x.sn.length c'))), some (.agg (akC (reqA l y))), none, none, some (.int .i64 0), none, none] (twF 4 5 7 8 (w.heap.size + 1) (w.heap.size + 1 + 1) 27 31 (thC y (.slice A' x.sn.length c')) (akC (reqA l y)) thZ akZ)) [some 27, some 28, some 29, some 30, none, none, some 6] [[], [], [], [1, 2], [0, 7], [3, 8], []] [[], [], [], [1, 2], [0, 1, 2, 7], [0, 1, 2, 3, 7, 8], [0, 1, 2, 3, 7, 8]] [[1, 2, 3, 7, 8], [0, 2, 4, 7, 8], [0, 1, 4, 7, 8], [0, 7, 8], [3, 8], [4], [4, 5]] [0, 1, 2, 3, 4, 5, 6] 9 (by kernel_rfl) (by kernel_rfl) (by kernel_rfl) (by kernel_rfl) ?rS ?rI ?rT ?rE
      case rS => exact Kept.drew _ _
      case rI =>
        intro j h1 h2
        have h1 : j < 9 := h1
        have h2 : 7 ≤ j := h2
        have hj : j = 7 ∨ j = 8 := by omega
        rcases hj with rfl | rfl
        · exact H4.out.drewN 1
        · exact H5.out.drewN 1
      case rT =>
        refine RelySteps.cons (RelyStep.mk [] [1, 2, 3, 7, 8] rfl rfl rfl (fun xv wS hS hV bq hb K hK => ?_)) ?_
        · clear hV
          simp only [putsOf, List.foldl_cons, List.foldl_nil, List.getD_cons_zero, List.getD_cons_succ, List.getD_nil, cond_true, cond_false, Act.put, List.setIfInBounds_toArray, List.set_cons_zero, List.set_cons_succ] at hb
          subst hb
          rw [if_pos (by rfl)]
          (have HZ := Lib.hid (HSN.out _ hS); have HSS := Lib.hid hS; have c0 := (HZ.out.cell 0).trans (show _ = some (Value.int .i64 y.at_) from rfl); have c1 := (HZ.out.cell 1).trans (show _ = some (Value.int .i64 y.ph) from rfl); have c2 := (HZ.out.cell 2).trans (show _ = some (Value.int .i64 y.rg) from rfl); have c3 := (HZ.out.cell 3).trans (show _ = some (Value.int .i64 y.st) from rfl); have c4 := (HZ.out.cell 4).trans (show _ = some (Value.int .u64 (y.tk : Int)) from rfl); have c5 := (HZ.out.cell 5).trans (show _ = some (Value.int .u64 (y.r 0 : Int)) from rfl); have c6 := (HZ.out.cell 6).trans (show _ = some (Value.int .u64 (y.r 1 : Int)) from rfl); have c7 := (HZ.out.cell 7).trans (show _ = some (Value.int .u64 (y.r 2 : Int)) from rfl); have c8 := (HZ.out.cell 8).trans (show _ = some (Value.int .u64 (y.r 3 : Int)) from rfl); have c9 := (HZ.out.cell 9).trans (show _ = some (Value.int .u64 (y.r 4 : Int)) from rfl); have c10 := (HZ.out.cell 10).trans (show _ = some (Value.int .u64 (y.r 5 : Int)) from rfl); have c11 := (HZ.out.cell 11).trans (show _ = some (Value.int .u64 (y.r 6 : Int)) from rfl); have c12 := (HZ.out.cell 12).trans (show _ = some (Value.int .u64 (y.r 7 : Int)) from rfl); have c13 := (HZ.out.cell 13).trans (show _ = some (.slice A' x.sn.length c') from rfl); have cl := HZ.out.lt)
          go_wp2_with fail
          exact hK.out _ _ ⟨_, rfl, hS, rfl, AllP.same _⟩
        refine RelySteps.cons (RelyStep.mk [] [0, 2, 4, 7, 8] rfl rfl rfl (fun xv wS hS hV bq hb K hK => ?_)) ?_
        · clear hV
          simp only [putsOf, List.foldl_cons, List.foldl_nil, List.getD_cons_zero, List.getD_cons_succ, List.getD_nil, cond_true, cond_false, Act.put, List.setIfInBounds_toArray, List.set_cons_zero, List.set_cons_succ] at hb
          subst hb
          rw [if_pos (by rfl)]
          go_wp2_with fail
          exact hK.out _ _ ⟨_, rfl, hS, rfl, AllP.same _⟩
        refine RelySteps.cons (RelyStep.mk [] [0, 1, 4, 7, 8] rfl rfl rfl (fun xv wS hS hV bq hb K hK => ?_)) ?_
        · clear hV
          simp only [putsOf, List.foldl_cons, List.foldl_nil, List.getD_cons_zero, List.getD_cons_succ, List.getD_nil, cond_true, cond_false, Act.put, List.setIfInBounds_toArray, List.set_cons_zero, List.set_cons_succ] at hb
          subst hb
          rw [if_pos (by rfl)]
          (have HZ := Lib.hid (HSN.out _ hS); have c0 := (HZ.out.cell 0).trans (show _ = some (Value.int .i64 y.at_) from rfl); have c1 := (HZ.out.cell 1).trans (show _ = some (Value.int .i64 y.ph) from rfl); have c2 := (HZ.out.cell 2).trans (show _ = some (Value.int .i64 y.rg) from rfl); have c3 := (HZ.out.cell 3).trans (show _ = some (Value.int .i64 y.st) from rfl); have c4 := (HZ.out.cell 4).trans (show _ = some (Value.int .u64 (y.tk : Int)) from rfl); have c5 := (HZ.out.cell 5).trans (show _ = some (Value.int .u64 (y.r 0 : Int)) from rfl); have c6 := (HZ.out.cell 6).trans (show _ = some (Value.int .u64 (y.r 1 : Int)) from rfl); have c7 := (HZ.out.cell 7).trans (show _ = some (Value.int .u64 (y.r 2 : Int)) from rfl); have c8 := (HZ.out.cell 8).trans (show _ = some (Value.int .u64 (y.r 3 : Int)) from rfl); have c9 := (HZ.out.cell 9).trans (show _ = some (Value.int .u64 (y.r 4 : Int)) from rfl); have c10 := (HZ.out.cell 10).trans (show _ = some (Value.int .u64 (y.r 5 : Int)) from rfl); have c11 := (HZ.out.cell 11).trans (show _ = some (Value.int .u64 (y.r 6 : Int)) from rfl); have c12 := (HZ.out.cell 12).trans (show _ = some (Value.int .u64 (y.r 7 : Int)) from rfl); have c13 := (HZ.out.cell 13).trans (show _ = some (.slice A' x.sn.length c') from rfl); have cl := HZ.out.lt)
          go_wp2_with fail
          exact hK.out _ _ ⟨_, rfl, hS, rfl, AllP.same _⟩
        refine RelySteps.cons (RelyStep.mk [1, 2] [0, 7, 8] rfl rfl rfl (fun xv wS hS hV bq hb K hK => ?_)) ?_
        · obtain ⟨h1, h2, _⟩ := hV
          have h1 : xv 1 = _ := h1
          have h2 : xv 2 = _ := h2
          simp only [putsOf, List.foldl_cons, List.foldl_nil, List.getD_cons_zero, List.getD_cons_succ, List.getD_nil, cond_true, cond_false, Act.put, List.setIfInBounds_toArray, List.set_cons_zero, List.set_cons_succ, h1, h2] at hb
          clear h1
          clear h2
          subst hb
          rw [if_pos (by rfl)]
          have HSS := Lib.hid hS
          clear hS
          go_wp2_with fail
          refine (HRQ.out _ _ (HH.out _ (HBL.out _ HSS.out))).mono ?_
          rintro e w' ⟨rfl, hbm⟩
          have hk9 := Kept.of_below hbm
          exact hK.out _ _ ⟨_, rfl, HSS.out.trans (hk9.mono (T := twoRows (w.heap.size + 1) (w.heap.size + 1 + 1)) (fun _ _ e => e.elim)) (fun _ _ e => e), rfl, AllP.of _ (fun j hj u h => rgV_mono (twF_kept (fun e => e) (fun e => e) hk9) h)⟩
        refine RelySteps.cons (RelyStep.mk [0, 7] [3, 8] rfl rfl rfl (fun xv wS hS hV bq hb K hK => ?_)) ?_
        · obtain ⟨h0, h7, _⟩ := hV
          have h0 : xv 0 = _ := h0
          simp only [putsOf, List.foldl_cons, List.foldl_nil, List.getD_cons_zero, List.getD_cons_succ, List.getD_nil, cond_true, cond_false, Act.put, List.setIfInBounds_toArray, List.set_cons_zero, List.set_cons_succ, h0] at hb
          clear h0
          generalize xv 7 = y7 at *
          subst hb
          rw [if_pos (by rfl)]
          have q7 : Lies wS (w.heap.size + 1) 27 thZ := h7
          have hk9 := kept_rowT (w := wS) (g := w.heap.size + 1) (thC y (.slice A' x.sn.length c'))
          refine wp_store_row _ _ _ rfl (w.heap.size + 1) (thC y (.slice A' x.sn.length c')) rfl rfl 27 thZ q7 infoTh rfl (thC_one y rfl) ?_
          exact hK.out _ _ ⟨undef, rfl, hS.trans (hk9.mono (T := twoRows (w.heap.size + 1) (w.heap.size + 1 + 1)) (fun _ _ e => .inl e)) (fun _ _ e => e), lies_row q7 _, AllP.of _ (fun j hj u h => rgV_mono (twF_kept4 (all_in (fun j => j != 4 && j != 7) rfl hj) (fun (e : w.heap.size + 1 + 1 = w.heap.size + 1) => by omega) hk9) h)⟩
        refine RelySteps.cons (RelyStep.mk [3, 8] [4] rfl rfl rfl (fun xv wS hS hV bq hb K hK => ?_)) ?_
        · obtain ⟨h3, h8, _⟩ := hV
          have h3 : xv 3 = _ := h3
          simp only [putsOf, List.foldl_cons, List.foldl_nil, List.getD_cons_zero, List.getD_cons_succ, List.getD_nil, cond_true, cond_false, Act.put, List.setIfInBounds_toArray, List.set_cons_zero, List.set_cons_succ, h3] at hb
          clear h3
          generalize xv 8 = y8 at *
          subst hb
          rw [if_pos (by rfl)]
          have q8 : Lies wS (w.heap.size + 1 + 1) 31 akZ := h8
          have hk9 := kept_rowT (w := wS) (g := w.heap.size + 1 + 1) (akC (reqA l y))
          refine wp_store_row _ _ _ rfl (w.heap.size + 1 + 1) (akC (reqA l y)) rfl rfl 31 akZ q8 infoAk rfl (akC_one _) ?_
          exact hK.out _ _ ⟨undef, rfl, hS.trans (hk9.mono (T := twoRows (w.heap.size + 1) (w.heap.size + 1 + 1)) (fun _ _ e => .inr e)) (fun _ _ e => e), lies_row q8 _, AllP.of _ (fun j hj u h => rgV_mono (twF_kept5 (all_in (fun j => j != 5 && j != 8) rfl hj) (fun (e : w.heap.size + 1 = w.heap.size + 1 + 1) => by omega) hk9) h)⟩
        refine RelySteps.cons (RelyStep.mk [] [4, 5] rfl rfl rfl (fun xv wS hS hV bq hb K hK => ?_)) ?_
        · clear hV
          simp only [putsOf, List.foldl_cons, List.foldl_nil, List.getD_cons_zero, List.getD_cons_succ, List.getD_nil, cond_true, cond_false, Act.put, List.setIfInBounds_toArray, List.set_cons_zero, List.set_cons_succ] at hb
          subst hb
          rw [if_pos (by rfl)]
          go_wp2_with fail
          exact hK.out _ _ ⟨_, rfl, hS, rfl, AllP.same _⟩
        exact RelySteps.nil
      case rE =>
        intro xv wE hS hV
        have h4 := hV 4 (by decide) (by decide)
        have h5 := hV 5 (by decide) (by decide)
        have h6 := hV 6 (by decide) (by decide)
        clear hV
        simp only [putsOf, List.foldl_cons, List.foldl_nil, List.getD_cons_zero, List.getD_cons_succ, List.getD_nil, cond_true, cond_false, Act.put, List.setIfInBounds_toArray, List.set_cons_zero, List.set_cons_succ]
        have h6 : xv 6 = _ := h6
        rw [h6]; clear h6
        generalize xv 0 = y0 at *
        generalize xv 1 = y1 at *
        generalize xv 2 = y2 at *
        generalize xv 3 = y3 at *
        generalize xv 4 = y4 at *
        generalize xv 5 = y5 at *
        have Q4 : Hid (Lies wE (w.heap.size + 1) 27 (thC y (.slice A' x.sn.length c'))) := h4
        have Q5 : Hid (Lies wE (w.heap.size + 1 + 1) 31 (akC (reqA l y))) := h5
        have HBZ := Lib.hid (HBL.out _ hS)
        have HOZ := Lib.hid (owns_kept HO.out hS (fun r cur hr hl (e : r = _ ∨ r = _) => by rcases e with e | e <;> subst e; exact absurd (hl.same H4.out).1 (by decide); exact absurd (hl.same H5.out).1 (by decide)))
        clear hS h4 h5 HSN HBL H4 H5 HG3 HO HB HRQ
        generalize hzz : reqA l y = z at *
        have HZE := Lib.hid hzz
        clear hzz
        have z0 := (Q4.out.cell 0).trans (show _ = some (Value.int .i64 y.at_) from rfl)
        have z1 := (Q4.out.cell 1).trans (show _ = some (Value.int .i64 y.ph) from rfl)
        have z2 := (Q4.out.cell 2).trans (show _ = some (Value.int .i64 y.rg) from rfl)
        have z3 := (Q4.out.cell 3).trans (show _ = some (Value.int .i64 y.st) from rfl)
        have z4 := (Q4.out.cell 4).trans (show _ = some (Value.int .u64 (y.tk : Int)) from rfl)
        have z5 := (Q4.out.cell 5).trans (show _ = some (Value.int .u64 (y.r 0 : Int)) from rfl)
        have z6 := (Q4.out.cell 6).trans (show _ = some (Value.int .u64 (y.r 1 : Int)) from rfl)
        have z7 := (Q4.out.cell 7).trans (show _ = some (Value.int .u64 (y.r 2 : Int)) from rfl)
        have z8 := (Q4.out.cell 8).trans (show _ = some (Value.int .u64 (y.r 3 : Int)) from rfl)
        have z9 := (Q4.out.cell 9).trans (show _ = some (Value.int .u64 (y.r 4 : Int)) from rfl)
        have z10 := (Q4.out.cell 10).trans (show _ = some (Value.int .u64 (y.r 5 : Int)) from rfl)
        have z11 := (Q4.out.cell 11).trans (show _ = some (Value.int .u64 (y.r 6 : Int)) from rfl)
        have z12 := (Q4.out.cell 12).trans (show _ = some (Value.int .u64 (y.r 7 : Int)) from rfl)
        have z13 := (Q4.out.cell 13).trans (show _ = some ((.slice A' x.sn.length c')) from rfl)
        have zl := Q4.out.lt
        have k0 := (Q5.out.cell 0).trans (show _ = some (.int .i64 z.kd) from rfl)
        have k1 := (Q5.out.cell 1).trans (show _ = some (.int .i64 z.rg) from rfl)
        have k2 := (Q5.out.cell 2).trans (show _ = some (.int .i64 z.md) from rfl)
        have k3 := (Q5.out.cell 3).trans (show _ = some (.int .i64 z.rd) from rfl)
        have k4 := (Q5.out.cell 4).trans (show _ = some (.int .u64 (z.tk : Int)) from rfl)
        have k5 := (Q5.out.cell 5).trans (show _ = some (.int .u64 (z.vl : Int)) from rfl)
        go_wp2
        exact bodyPost_ret (v := .tuple #[.agg (thC y (.slice A' x.sn.length c')), .agg (akC z), .int .i64 0]) (by simp [results, Try.results10, go_sem, z0, z1, z2, z3, z4, z5, z6, z7, z8, z9, z10, z11, z12, z13, k0, k1, k2, k3, k4, k5]) rfl ⟨A', c', by rw [HYE.out, HZE.out], HOZ.out, HBZ.out⟩
    · have e2 : (x.ph == 0) = false := by rw [beq_eq_false_iff_ne]; exact hph
      have HY := Lib.hid (nxT_not (l := l) (fun h => hph h.2))
      replace HG3 : Hid (Lies w4 w.heap.size 27 (thC (nxT l x) (.slice A' x.sn.length c'))) := by show Lies _ _ _ _; rw [HY.out]; exact HG3.out
      clear hst hph HADV
      generalize hyy : nxT l x = y at *
      have HYE := Lib.hid hyy
      clear hyy
      go_wp2_with fail
      try clear c1 c3 cl
      generalize hw9 : w4 = w9 at *
      clear hw9
      have HSN := Lib.hid (fun (q : World) (hq : Kept (twoRows (w.heap.size + 1) (w.heap.size + 1 + 1)) w9 q) => HG3.out.kept hq (fun (e : w.heap.size = _ ∨ w.heap.size = _) => by omega))
      have HBL := Lib.hid (fun (q : World) (hq : Kept (twoRows (w.heap.size + 1) (w.heap.size + 1 + 1)) w9 q) => HB.out.trans (hq.below HB.out.size (fun k hk (e : k = _ ∨ k = _) => by omega)))
      refine wp_region_rely (fun q => Kept (twoRows (w.heap.size + 1) (w.heap.size + 1 + 1)) w9 q) (rgV [some (.agg (thC y (.slice A' x.sn.length c'))), some (.slice A l.length c), some (.agg (thC y (.slice A' x.sn.length c'))), some (.agg (akC (reqA l y))), none, none, some (.int .i64 0), none, none] (twF 4 5 7 8 (w.heap.size + 1) (w.heap.size + 1 + 1) 27 31 (thC y (.slice A' x.sn.length c')) (akC (reqA l y)) thZ akZ)) [some 27, some 28, some 29, some 30, none, none, some 6] [[], [], [], [1, 2], [0, 7], [3, 8], []] [[], [], [], [1, 2], [0, 1, 2, 7], [0, 1, 2, 3, 7, 8], [0, 1, 2, 3, 7, 8]] [[1, 2, 3, 7, 8], [0, 2, 4, 7, 8], [0, 1, 4, 7, 8], [0, 7, 8], [3, 8], [4], [4, 5]] [0, 1, 2, 3, 4, 5, 6] 9 (by kernel_rfl) (by kernel_rfl) (by kernel_rfl) (by kernel_rfl) ?rS ?rI ?rT ?rE
      case rS => exact Kept.drew _ _
      case rI =>
        intro j h1 h2
        have h1 : j < 9 := h1
        have h2 : 7 ≤ j := h2
        have hj : j = 7 ∨ j = 8 := by omega
        rcases hj with rfl | rfl
        · exact H4.out.drewN 1
        · exact H5.out.drewN 1
      case rT =>
        refine RelySteps.cons (RelyStep.mk [] [1, 2, 3, 7, 8] rfl rfl rfl (fun xv wS hS hV bq hb K hK => ?_)) ?_
        · clear hV
          simp only [putsOf, List.foldl_cons, List.foldl_nil, List.getD_cons_zero, List.getD_cons_succ, List.getD_nil, cond_true, cond_false, Act.put, List.setIfInBounds_toArray, List.set_cons_zero, List.set_cons_succ] at hb
          subst hb
          rw [if_pos (by rfl)]
          (have HZ := Lib.hid (HSN.out _ hS); have HSS := Lib.hid hS; have c0 := (HZ.out.cell 0).trans (show _ = some (Value.int .i64 y.at_) from rfl); have c1 := (HZ.out.cell 1).trans (show _ = some (Value.int .i64 y.ph) from rfl); have c2 := (HZ.out.cell 2).trans (show _ = some (Value.int .i64 y.rg) from rfl); have c3 := (HZ.out.cell 3).trans (show _ = some (Value.int .i64 y.st) from rfl); have c4 := (HZ.out.cell 4).trans (show _ = some (Value.int .u64 (y.tk : Int)) from rfl); have c5 := (HZ.out.cell 5).trans (show _ = some (Value.int .u64 (y.r 0 : Int)) from rfl); have c6 := (HZ.out.cell 6).trans (show _ = some (Value.int .u64 (y.r 1 : Int)) from rfl); have c7 := (HZ.out.cell 7).trans (show _ = some (Value.int .u64 (y.r 2 : Int)) from rfl); have c8 := (HZ.out.cell 8).trans (show _ = some (Value.int .u64 (y.r 3 : Int)) from rfl); have c9 := (HZ.out.cell 9).trans (show _ = some (Value.int .u64 (y.r 4 : Int)) from rfl); have c10 := (HZ.out.cell 10).trans (show _ = some (Value.int .u64 (y.r 5 : Int)) from rfl); have c11 := (HZ.out.cell 11).trans (show _ = some (Value.int .u64 (y.r 6 : Int)) from rfl); have c12 := (HZ.out.cell 12).trans (show _ = some (Value.int .u64 (y.r 7 : Int)) from rfl); have c13 := (HZ.out.cell 13).trans (show _ = some (.slice A' x.sn.length c') from rfl); have cl := HZ.out.lt)
          go_wp2_with fail
          exact hK.out _ _ ⟨_, rfl, hS, rfl, AllP.same _⟩
        refine RelySteps.cons (RelyStep.mk [] [0, 2, 4, 7, 8] rfl rfl rfl (fun xv wS hS hV bq hb K hK => ?_)) ?_
        · clear hV
          simp only [putsOf, List.foldl_cons, List.foldl_nil, List.getD_cons_zero, List.getD_cons_succ, List.getD_nil, cond_true, cond_false, Act.put, List.setIfInBounds_toArray, List.set_cons_zero, List.set_cons_succ] at hb
          subst hb
          rw [if_pos (by rfl)]
          go_wp2_with fail
          exact hK.out _ _ ⟨_, rfl, hS, rfl, AllP.same _⟩
        refine RelySteps.cons (RelyStep.mk [] [0, 1, 4, 7, 8] rfl rfl rfl (fun xv wS hS hV bq hb K hK => ?_)) ?_
        · clear hV
          simp only [putsOf, List.foldl_cons, List.foldl_nil, List.getD_cons_zero, List.getD_cons_succ, List.getD_nil, cond_true, cond_false, Act.put, List.setIfInBounds_toArray, List.set_cons_zero, List.set_cons_succ] at hb
          subst hb
          rw [if_pos (by rfl)]
          (have HZ := Lib.hid (HSN.out _ hS); have c0 := (HZ.out.cell 0).trans (show _ = some (Value.int .i64 y.at_) from rfl); have c1 := (HZ.out.cell 1).trans (show _ = some (Value.int .i64 y.ph) from rfl); have c2 := (HZ.out.cell 2).trans (show _ = some (Value.int .i64 y.rg) from rfl); have c3 := (HZ.out.cell 3).trans (show _ = some (Value.int .i64 y.st) from rfl); have c4 := (HZ.out.cell 4).trans (show _ = some (Value.int .u64 (y.tk : Int)) from rfl); have c5 := (HZ.out.cell 5).trans (show _ = some (Value.int .u64 (y.r 0 : Int)) from rfl); have c6 := (HZ.out.cell 6).trans (show _ = some (Value.int .u64 (y.r 1 : Int)) from rfl); have c7 := (HZ.out.cell 7).trans (show _ = some (Value.int .u64 (y.r 2 : Int)) from rfl); have c8 := (HZ.out.cell 8).trans (show _ = some (Value.int .u64 (y.r 3 : Int)) from rfl); have c9 := (HZ.out.cell 9).trans (show _ = some (Value.int .u64 (y.r 4 : Int)) from rfl); have c10 := (HZ.out.cell 10).trans (show _ = some (Value.int .u64 (y.r 5 : Int)) from rfl); have c11 := (HZ.out.cell 11).trans (show _ = some (Value.int .u64 (y.r 6 : Int)) from rfl); have c12 := (HZ.out.cell 12).trans (show _ = some (Value.int .u64 (y.r 7 : Int)) from rfl); have c13 := (HZ.out.cell 13).trans (show _ = some (.slice A' x.sn.length c') from rfl); have cl := HZ.out.lt)
          go_wp2_with fail
          exact hK.out _ _ ⟨_, rfl, hS, rfl, AllP.same _⟩
        refine RelySteps.cons (RelyStep.mk [1, 2] [0, 7, 8] rfl rfl rfl (fun xv wS hS hV bq hb K hK => ?_)) ?_
        · obtain ⟨h1, h2, _⟩ := hV
          have h1 : xv 1 = _ := h1
          have h2 : xv 2 = _ := h2
          simp only [putsOf, List.foldl_cons, List.foldl_nil, List.getD_cons_zero, List.getD_cons_succ, List.getD_nil, cond_true, cond_false, Act.put, List.setIfInBounds_toArray, List.set_cons_zero, List.set_cons_succ, h1, h2] at hb
          clear h1
          clear h2
          subst hb
          rw [if_pos (by rfl)]
          have HSS := Lib.hid hS
          clear hS
          go_wp2_with fail
          refine (HRQ.out _ _ (HH.out _ (HBL.out _ HSS.out))).mono ?_
          rintro e w' ⟨rfl, hbm⟩
          have hk9 := Kept.of_below hbm
          exact hK.out _ _ ⟨_, rfl, HSS.out.trans (hk9.mono (T := twoRows (w.heap.size + 1) (w.heap.size + 1 + 1)) (fun _ _ e => e.elim)) (fun _ _ e => e), rfl, AllP.of _ (fun j hj u h => rgV_mono (twF_kept (fun e => e) (fun e => e) hk9) h)⟩
        refine RelySteps.cons (RelyStep.mk [0, 7] [3, 8] rfl rfl rfl (fun xv wS hS hV bq hb K hK => ?_)) ?_
        · obtain ⟨h0, h7, _⟩ := hV
          have h0 : xv 0 = _ := h0
          simp only [putsOf, List.foldl_cons, List.foldl_nil, List.getD_cons_zero, List.getD_cons_succ, List.getD_nil, cond_true, cond_false, Act.put, List.setIfInBounds_toArray, List.set_cons_zero, List.set_cons_succ, h0] at hb
          clear h0
          generalize xv 7 = y7 at *
          subst hb
          rw [if_pos (by rfl)]
          have q7 : Lies wS (w.heap.size + 1) 27 thZ := h7
          have hk9 := kept_rowT (w := wS) (g := w.heap.size + 1) (thC y (.slice A' x.sn.length c'))
          refine wp_store_row _ _ _ rfl (w.heap.size + 1) (thC y (.slice A' x.sn.length c')) rfl rfl 27 thZ q7 infoTh rfl (thC_one y rfl) ?_
          exact hK.out _ _ ⟨undef, rfl, hS.trans (hk9.mono (T := twoRows (w.heap.size + 1) (w.heap.size + 1 + 1)) (fun _ _ e => .inl e)) (fun _ _ e => e), lies_row q7 _, AllP.of _ (fun j hj u h => rgV_mono (twF_kept4 (all_in (fun j => j != 4 && j != 7) rfl hj) (fun (e : w.heap.size + 1 + 1 = w.heap.size + 1) => by omega) hk9) h)⟩
        refine RelySteps.cons (RelyStep.mk [3, 8] [4] rfl rfl rfl (fun xv wS hS hV bq hb K hK => ?_)) ?_
        · obtain ⟨h3, h8, _⟩ := hV
          have h3 : xv 3 = _ := h3
          simp only [putsOf, List.foldl_cons, List.foldl_nil, List.getD_cons_zero, List.getD_cons_succ, List.getD_nil, cond_true, cond_false, Act.put, List.setIfInBounds_toArray, List.set_cons_zero, List.set_cons_succ, h3] at hb
          clear h3
          generalize xv 8 = y8 at *
          subst hb
          rw [if_pos (by rfl)]
          have q8 : Lies wS (w.heap.size + 1 + 1) 31 akZ := h8
          have hk9 := kept_rowT (w := wS) (g := w.heap.size + 1 + 1) (akC (reqA l y))
          refine wp_store_row _ _ _ rfl (w.heap.size + 1 + 1) (akC (reqA l y)) rfl rfl 31 akZ q8 infoAk rfl (akC_one _) ?_
          exact hK.out _ _ ⟨undef, rfl, hS.trans (hk9.mono (T := twoRows (w.heap.size + 1) (w.heap.size + 1 + 1)) (fun _ _ e => .inr e)) (fun _ _ e => e), lies_row q8 _, AllP.of _ (fun j hj u h => rgV_mono (twF_kept5 (all_in (fun j => j != 5 && j != 8) rfl hj) (fun (e : w.heap.size + 1 = w.heap.size + 1 + 1) => by omega) hk9) h)⟩
        refine RelySteps.cons (RelyStep.mk [] [4, 5] rfl rfl rfl (fun xv wS hS hV bq hb K hK => ?_)) ?_
        · clear hV
          simp only [putsOf, List.foldl_cons, List.foldl_nil, List.getD_cons_zero, List.getD_cons_succ, List.getD_nil, cond_true, cond_false, Act.put, List.setIfInBounds_toArray, List.set_cons_zero, List.set_cons_succ] at hb
          subst hb
          rw [if_pos (by rfl)]
          go_wp2_with fail
          exact hK.out _ _ ⟨_, rfl, hS, rfl, AllP.same _⟩
        exact RelySteps.nil
      case rE =>
        intro xv wE hS hV
        have h4 := hV 4 (by decide) (by decide)
        have h5 := hV 5 (by decide) (by decide)
        have h6 := hV 6 (by decide) (by decide)
        clear hV
        simp only [putsOf, List.foldl_cons, List.foldl_nil, List.getD_cons_zero, List.getD_cons_succ, List.getD_nil, cond_true, cond_false, Act.put, List.setIfInBounds_toArray, List.set_cons_zero, List.set_cons_succ]
        have h6 : xv 6 = _ := h6
        rw [h6]; clear h6
        generalize xv 0 = y0 at *
        generalize xv 1 = y1 at *
        generalize xv 2 = y2 at *
        generalize xv 3 = y3 at *
        generalize xv 4 = y4 at *
        generalize xv 5 = y5 at *
        have Q4 : Hid (Lies wE (w.heap.size + 1) 27 (thC y (.slice A' x.sn.length c'))) := h4
        have Q5 : Hid (Lies wE (w.heap.size + 1 + 1) 31 (akC (reqA l y))) := h5
        have HBZ := Lib.hid (HBL.out _ hS)
        have HOZ := Lib.hid (owns_kept HO.out hS (fun r cur hr hl (e : r = _ ∨ r = _) => by rcases e with e | e <;> subst e; exact absurd (hl.same H4.out).1 (by decide); exact absurd (hl.same H5.out).1 (by decide)))
        clear hS h4 h5 HSN HBL H4 H5 HG3 HO HB HRQ
        generalize hzz : reqA l y = z at *
        have HZE := Lib.hid hzz
        clear hzz
        have z0 := (Q4.out.cell 0).trans (show _ = some (Value.int .i64 y.at_) from rfl)
        have z1 := (Q4.out.cell 1).trans (show _ = some (Value.int .i64 y.ph) from rfl)
        have z2 := (Q4.out.cell 2).trans (show _ = some (Value.int .i64 y.rg) from rfl)
        have z3 := (Q4.out.cell 3).trans (show _ = some (Value.int .i64 y.st) from rfl)
        have z4 := (Q4.out.cell 4).trans (show _ = some (Value.int .u64 (y.tk : Int)) from rfl)
        have z5 := (Q4.out.cell 5).trans (show _ = some (Value.int .u64 (y.r 0 : Int)) from rfl)
        have z6 := (Q4.out.cell 6).trans (show _ = some (Value.int .u64 (y.r 1 : Int)) from rfl)
        have z7 := (Q4.out.cell 7).trans (show _ = some (Value.int .u64 (y.r 2 : Int)) from rfl)
        have z8 := (Q4.out.cell 8).trans (show _ = some (Value.int .u64 (y.r 3 : Int)) from rfl)
        have z9 := (Q4.out.cell 9).trans (show _ = some (Value.int .u64 (y.r 4 : Int)) from rfl)
        have z10 := (Q4.out.cell 10).trans (show _ = some (Value.int .u64 (y.r 5 : Int)) from rfl)
        have z11 := (Q4.out.cell 11).trans (show _ = some (Value.int .u64 (y.r 6 : Int)) from rfl)
        have z12 := (Q4.out.cell 12).trans (show _ = some (Value.int .u64 (y.r 7 : Int)) from rfl)
        have z13 := (Q4.out.cell 13).trans (show _ = some ((.slice A' x.sn.length c')) from rfl)
        have zl := Q4.out.lt
        have k0 := (Q5.out.cell 0).trans (show _ = some (.int .i64 z.kd) from rfl)
        have k1 := (Q5.out.cell 1).trans (show _ = some (.int .i64 z.rg) from rfl)
        have k2 := (Q5.out.cell 2).trans (show _ = some (.int .i64 z.md) from rfl)
        have k3 := (Q5.out.cell 3).trans (show _ = some (.int .i64 z.rd) from rfl)
        have k4 := (Q5.out.cell 4).trans (show _ = some (.int .u64 (z.tk : Int)) from rfl)
        have k5 := (Q5.out.cell 5).trans (show _ = some (.int .u64 (z.vl : Int)) from rfl)
        go_wp2
        exact bodyPost_ret (v := .tuple #[.agg (thC y (.slice A' x.sn.length c')), .agg (akC z), .int .i64 0]) (by simp [results, Try.results10, go_sem, z0, z1, z2, z3, z4, z5, z6, z7, z8, z9, z10, z11, z12, z13, k0, k1, k2, k3, k4, k5]) rfl ⟨A', c', by rw [HYE.out, HZE.out], HOZ.out, HBZ.out⟩
  · have e1 : (x.st == 0) = false := by rw [beq_eq_false_iff_ne]; exact hst
    have HY := Lib.hid (nxT_not (l := l) (fun h => hst h.1))
    replace HG3 : Hid (Lies w4 w.heap.size 27 (thC (nxT l x) (.slice A' x.sn.length c'))) := by show Lies _ _ _ _; rw [HY.out]; exact HG3.out
    clear hst HADV
    generalize hyy : nxT l x = y at *
    have HYE := Lib.hid hyy
    clear hyy
    go_wp2_with fail
    try clear c1 c3 cl
    generalize hw9 : w4 = w9 at *
    clear hw9
    have HSN := Lib.hid (fun (q : World) (hq : Kept (twoRows (w.heap.size + 1) (w.heap.size + 1 + 1)) w9 q) => HG3.out.kept hq (fun (e : w.heap.size = _ ∨ w.heap.size = _) => by omega))
    have HBL := Lib.hid (fun (q : World) (hq : Kept (twoRows (w.heap.size + 1) (w.heap.size + 1 + 1)) w9 q) => HB.out.trans (hq.below HB.out.size (fun k hk (e : k = _ ∨ k = _) => by omega)))
    refine wp_region_rely (fun q => Kept (twoRows (w.heap.size + 1) (w.heap.size + 1 + 1)) w9 q) (rgV [some (.agg (thC y (.slice A' x.sn.length c'))), some (.slice A l.length c), some (.agg (thC y (.slice A' x.sn.length c'))), some (.agg (akC (reqA l y))), none, none, some (.int .i64 0), none, none] (twF 4 5 7 8 (w.heap.size + 1) (w.heap.size + 1 + 1) 27 31 (thC y (.slice A' x.sn.length c')) (akC (reqA l y)) thZ akZ)) [some 27, some 28, some 29, some 30, none, none, some 6] [[], [], [], [1, 2], [0, 7], [3, 8], []] [[], [], [], [1, 2], [0, 1, 2, 7], [0, 1, 2, 3, 7, 8], [0, 1, 2, 3, 7, 8]] [[1, 2, 3, 7, 8], [0, 2, 4, 7, 8], [0, 1, 4, 7, 8], [0, 7, 8], [3, 8], [4], [4, 5]] [0, 1, 2, 3, 4, 5, 6] 9 (by kernel_rfl) (by kernel_rfl) (by kernel_rfl) (by kernel_rfl) ?rS ?rI ?rT ?rE
    case rS => exact Kept.drew _ _
    case rI =>
      intro j h1 h2
      have h1 : j < 9 := h1
      have h2 : 7 ≤ j := h2
      have hj : j = 7 ∨ j = 8 := by omega
      rcases hj with rfl | rfl
      · exact H4.out.drewN 1
      · exact H5.out.drewN 1
    case rT =>
      refine RelySteps.cons (RelyStep.mk [] [1, 2, 3, 7, 8] rfl rfl rfl (fun xv wS hS hV bq hb K hK => ?_)) ?_
      · clear hV
        simp only [putsOf, List.foldl_cons, List.foldl_nil, List.getD_cons_zero, List.getD_cons_succ, List.getD_nil, cond_true, cond_false, Act.put, List.setIfInBounds_toArray, List.set_cons_zero, List.set_cons_succ] at hb
        subst hb
        rw [if_pos (by rfl)]
        (have HZ := Lib.hid (HSN.out _ hS); have HSS := Lib.hid hS; have c0 := (HZ.out.cell 0).trans (show _ = some (Value.int .i64 y.at_) from rfl); have c1 := (HZ.out.cell 1).trans (show _ = some (Value.int .i64 y.ph) from rfl); have c2 := (HZ.out.cell 2).trans (show _ = some (Value.int .i64 y.rg) from rfl); have c3 := (HZ.out.cell 3).trans (show _ = some (Value.int .i64 y.st) from rfl); have c4 := (HZ.out.cell 4).trans (show _ = some (Value.int .u64 (y.tk : Int)) from rfl); have c5 := (HZ.out.cell 5).trans (show _ = some (Value.int .u64 (y.r 0 : Int)) from rfl); have c6 := (HZ.out.cell 6).trans (show _ = some (Value.int .u64 (y.r 1 : Int)) from rfl); have c7 := (HZ.out.cell 7).trans (show _ = some (Value.int .u64 (y.r 2 : Int)) from rfl); have c8 := (HZ.out.cell 8).trans (show _ = some (Value.int .u64 (y.r 3 : Int)) from rfl); have c9 := (HZ.out.cell 9).trans (show _ = some (Value.int .u64 (y.r 4 : Int)) from rfl); have c10 := (HZ.out.cell 10).trans (show _ = some (Value.int .u64 (y.r 5 : Int)) from rfl); have c11 := (HZ.out.cell 11).trans (show _ = some (Value.int .u64 (y.r 6 : Int)) from rfl); have c12 := (HZ.out.cell 12).trans (show _ = some (Value.int .u64 (y.r 7 : Int)) from rfl); have c13 := (HZ.out.cell 13).trans (show _ = some (.slice A' x.sn.length c') from rfl); have cl := HZ.out.lt)
        go_wp2_with fail
        exact hK.out _ _ ⟨_, rfl, hS, rfl, AllP.same _⟩
      refine RelySteps.cons (RelyStep.mk [] [0, 2, 4, 7, 8] rfl rfl rfl (fun xv wS hS hV bq hb K hK => ?_)) ?_
      · clear hV
        simp only [putsOf, List.foldl_cons, List.foldl_nil, List.getD_cons_zero, List.getD_cons_succ, List.getD_nil, cond_true, cond_false, Act.put, List.setIfInBounds_toArray, List.set_cons_zero, List.set_cons_succ] at hb
        subst hb
        rw [if_pos (by rfl)]
        go_wp2_with fail
        exact hK.out _ _ ⟨_, rfl, hS, rfl, AllP.same _⟩
      refine RelySteps.cons (RelyStep.mk [] [0, 1, 4, 7, 8] rfl rfl rfl (fun xv wS hS hV bq hb K hK => ?_)) ?_
      · clear hV
        simp only [putsOf, List.foldl_cons, List.foldl_nil, List.getD_cons_zero, List.getD_cons_succ, List.getD_nil, cond_true, cond_false, Act.put, List.setIfInBounds_toArray, List.set_cons_zero, List.set_cons_succ] at hb
        subst hb
        rw [if_pos (by rfl)]
        (have HZ := Lib.hid (HSN.out _ hS); have c0 := (HZ.out.cell 0).trans (show _ = some (Value.int .i64 y.at_) from rfl); have c1 := (HZ.out.cell 1).trans (show _ = some (Value.int .i64 y.ph) from rfl); have c2 := (HZ.out.cell 2).trans (show _ = some (Value.int .i64 y.rg) from rfl); have c3 := (HZ.out.cell 3).trans (show _ = some (Value.int .i64 y.st) from rfl); have c4 := (HZ.out.cell 4).trans (show _ = some (Value.int .u64 (y.tk : Int)) from rfl); have c5 := (HZ.out.cell 5).trans (show _ = some (Value.int .u64 (y.r 0 : Int)) from rfl); have c6 := (HZ.out.cell 6).trans (show _ = some (Value.int .u64 (y.r 1 : Int)) from rfl); have c7 := (HZ.out.cell 7).trans (show _ = some (Value.int .u64 (y.r 2 : Int)) from rfl); have c8 := (HZ.out.cell 8).trans (show _ = some (Value.int .u64 (y.r 3 : Int)) from rfl); have c9 := (HZ.out.cell 9).trans (show _ = some (Value.int .u64 (y.r 4 : Int)) from rfl); have c10 := (HZ.out.cell 10).trans (show _ = some (Value.int .u64 (y.r 5 : Int)) from rfl); have c11 := (HZ.out.cell 11).trans (show _ = some (Value.int .u64 (y.r 6 : Int)) from rfl); have c12 := (HZ.out.cell 12).trans (show _ = some (Value.int .u64 (y.r 7 : Int)) from rfl); have c13 := (HZ.out.cell 13).trans (show _ = some (.slice A' x.sn.length c') from rfl); have cl := HZ.out.lt)
        go_wp2_with fail
        exact hK.out _ _ ⟨_, rfl, hS, rfl, AllP.same _⟩
      refine RelySteps.cons (RelyStep.mk [1, 2] [0, 7, 8] rfl rfl rfl (fun xv wS hS hV bq hb K hK => ?_)) ?_
      · obtain ⟨h1, h2, _⟩ := hV
        have h1 : xv 1 = _ := h1
        have h2 : xv 2 = _ := h2
        simp only [putsOf, List.foldl_cons, List.foldl_nil, List.getD_cons_zero, List.getD_cons_succ, List.getD_nil, cond_true, cond_false, Act.put, List.setIfInBounds_toArray, List.set_cons_zero, List.set_cons_succ, h1, h2] at hb
        clear h1
        clear h2
        subst hb
        rw [if_pos (by rfl)]
        have HSS := Lib.hid hS
        clear hS
        go_wp2_with fail
        refine (HRQ.out _ _ (HH.out _ (HBL.out _ HSS.out))).mono ?_
        rintro e w' ⟨rfl, hbm⟩
        have hk9 := Kept.of_below hbm
        exact hK.out _ _ ⟨_, rfl, HSS.out.trans (hk9.mono (T := twoRows (w.heap.size + 1) (w.heap.size + 1 + 1)) (fun _ _ e => e.elim)) (fun _ _ e => e), rfl, AllP.of _ (fun j hj u h => rgV_mono (twF_kept (fun e => e) (fun e => e) hk9) h)⟩
      refine RelySteps.cons (RelyStep.mk [0, 7] [3, 8] rfl rfl rfl (fun xv wS hS hV bq hb K hK => ?_)) ?_
      · obtain ⟨h0, h7, _⟩ := hV
        have h0 : xv 0 = _ := h0
        simp only [putsOf, List.foldl_cons, List.foldl_nil, List.getD_cons_zero, List.getD_cons_succ, List.getD_nil, cond_true, cond_false, Act.put, List.setIfInBounds_toArray, List.set_cons_zero, List.set_cons_succ, h0] at hb
        clear h0
        generalize xv 7 = y7 at *
        subst hb
        rw [if_pos (by rfl)]
        have q7 : Lies wS (w.heap.size + 1) 27 thZ := h7
        have hk9 := kept_rowT (w := wS) (g := w.heap.size + 1) (thC y (.slice A' x.sn.length c'))
        refine wp_store_row _ _ _ rfl (w.heap.size + 1) (thC y (.slice A' x.sn.length c')) rfl rfl 27 thZ q7 infoTh rfl (thC_one y rfl) ?_
        exact hK.out _ _ ⟨undef, rfl, hS.trans (hk9.mono (T := twoRows (w.heap.size + 1) (w.heap.size + 1 + 1)) (fun _ _ e => .inl e)) (fun _ _ e => e), lies_row q7 _, AllP.of _ (fun j hj u h => rgV_mono (twF_kept4 (all_in (fun j => j != 4 && j != 7) rfl hj) (fun (e : w.heap.size + 1 + 1 = w.heap.size + 1) => by omega) hk9) h)⟩
      refine RelySteps.cons (RelyStep.mk [3, 8] [4] rfl rfl rfl (fun xv wS hS hV bq hb K hK => ?_)) ?_
      · obtain ⟨h3, h8, _⟩ := hV
        have h3 : xv 3 = _ := h3
        simp only [putsOf, List.foldl_cons, List.foldl_nil, List.getD_cons_zero, List.getD_cons_succ, List.getD_nil, cond_true, cond_false, Act.put, List.setIfInBounds_toArray, List.set_cons_zero, List.set_cons_succ, h3] at hb
        clear h3
        generalize xv 8 = y8 at *
        subst hb
        rw [if_pos (by rfl)]
        have q8 : Lies wS (w.heap.size + 1 + 1) 31 akZ := h8
        have hk9 := kept_rowT (w := wS) (g := w.heap.size + 1 + 1) (akC (reqA l y))
        refine wp_store_row _ _ _ rfl (w.heap.size + 1 + 1) (akC (reqA l y)) rfl rfl 31 akZ q8 infoAk rfl (akC_one _) ?_
        exact hK.out _ _ ⟨undef, rfl, hS.trans (hk9.mono (T := twoRows (w.heap.size + 1) (w.heap.size + 1 + 1)) (fun _ _ e => .inr e)) (fun _ _ e => e), lies_row q8 _, AllP.of _ (fun j hj u h => rgV_mono (twF_kept5 (all_in (fun j => j != 5 && j != 8) rfl hj) (fun (e : w.heap.size + 1 = w.heap.size + 1 + 1) => by omega) hk9) h)⟩
      refine RelySteps.cons (RelyStep.mk [] [4, 5] rfl rfl rfl (fun xv wS hS hV bq hb K hK => ?_)) ?_
      · clear hV
        simp only [putsOf, List.foldl_cons, List.foldl_nil, List.getD_cons_zero, List.getD_cons_succ, List.getD_nil, cond_true, cond_false, Act.put, List.setIfInBounds_toArray, List.set_cons_zero, List.set_cons_succ] at hb
        subst hb
        rw [if_pos (by rfl)]
        go_wp2_with fail
        exact hK.out _ _ ⟨_, rfl, hS, rfl, AllP.same _⟩
      exact RelySteps.nil
    case rE =>
      intro xv wE hS hV
      have h4 := hV 4 (by decide) (by decide)
      have h5 := hV 5 (by decide) (by decide)
      have h6 := hV 6 (by decide) (by decide)
      clear hV
      simp only [putsOf, List.foldl_cons, List.foldl_nil, List.getD_cons_zero, List.getD_cons_succ, List.getD_nil, cond_true, cond_false, Act.put, List.setIfInBounds_toArray, List.set_cons_zero, List.set_cons_succ]
      have h6 : xv 6 = _ := h6
      rw [h6]; clear h6
      generalize xv 0 = y0 at *
      generalize xv 1 = y1 at *
      generalize xv 2 = y2 at *
      generalize xv 3 = y3 at *
      generalize xv 4 = y4 at *
      generalize xv 5 = y5 at *
      have Q4 : Hid (Lies wE (w.heap.size + 1) 27 (thC y (.slice A' x.sn.length c'))) := h4
      have Q5 : Hid (Lies wE (w.heap.size + 1 + 1) 31 (akC (reqA l y))) := h5
      have HBZ := Lib.hid (HBL.out _ hS)
      have HOZ := Lib.hid (owns_kept HO.out hS (fun r cur hr hl (e : r = _ ∨ r = _) => by rcases e with e | e <;> subst e; exact absurd (hl.same H4.out).1 (by decide); exact absurd (hl.same H5.out).1 (by decide)))
      clear hS h4 h5 HSN HBL H4 H5 HG3 HO HB HRQ
      generalize hzz : reqA l y = z at *
      have HZE := Lib.hid hzz
      clear hzz
      have z0 := (Q4.out.cell 0).trans (show _ = some (Value.int .i64 y.at_) from rfl)
      have z1 := (Q4.out.cell 1).trans (show _ = some (Value.int .i64 y.ph) from rfl)
      have z2 := (Q4.out.cell 2).trans (show _ = some (Value.int .i64 y.rg) from rfl)
      have z3 := (Q4.out.cell 3).trans (show _ = some (Value.int .i64 y.st) from rfl)
      have z4 := (Q4.out.cell 4).trans (show _ = some (Value.int .u64 (y.tk : Int)) from rfl)
      have z5 := (Q4.out.cell 5).trans (show _ = some (Value.int .u64 (y.r 0 : Int)) from rfl)
      have z6 := (Q4.out.cell 6).trans (show _ = some (Value.int .u64 (y.r 1 : Int)) from rfl)
      have z7 := (Q4.out.cell 7).trans (show _ = some (Value.int .u64 (y.r 2 : Int)) from rfl)
      have z8 := (Q4.out.cell 8).trans (show _ = some (Value.int .u64 (y.r 3 : Int)) from rfl)
      have z9 := (Q4.out.cell 9).trans (show _ = some (Value.int .u64 (y.r 4 : Int)) from rfl)
      have z10 := (Q4.out.cell 10).trans (show _ = some (Value.int .u64 (y.r 5 : Int)) from rfl)
      have z11 := (Q4.out.cell 11).trans (show _ = some (Value.int .u64 (y.r 6 : Int)) from rfl)
      have z12 := (Q4.out.cell 12).trans (show _ = some (Value.int .u64 (y.r 7 : Int)) from rfl)
      have z13 := (Q4.out.cell 13).trans (show _ = some ((.slice A' x.sn.length c')) from rfl)
      have zl := Q4.out.lt
      have k0 := (Q5.out.cell 0).trans (show _ = some (.int .i64 z.kd) from rfl)
      have k1 := (Q5.out.cell 1).trans (show _ = some (.int .i64 z.rg) from rfl)
      have k2 := (Q5.out.cell 2).trans (show _ = some (.int .i64 z.md) from rfl)
      have k3 := (Q5.out.cell 3).trans (show _ = some (.int .i64 z.rd) from rfl)
      have k4 := (Q5.out.cell 4).trans (show _ = some (.int .u64 (z.tk : Int)) from rfl)
      have k5 := (Q5.out.cell 5).trans (show _ = some (.int .u64 (z.vl : Int)) from rfl)
      go_wp2
      exact bodyPost_ret (v := .tuple #[.agg (thC y (.slice A' x.sn.length c')), .agg (akC z), .int .i64 0]) (by simp [results, Try.results10, go_sem, z0, z1, z2, z3, z4, z5, z6, z7, z8, z9, z10, z11, z12, z13, k0, k1, k2, k3, k4, k5]) rfl ⟨A', c', by rw [HYE.out, HZE.out], HOZ.out, HBZ.out⟩
end Go.Proofs.Ytiegmpjoiekekaa
