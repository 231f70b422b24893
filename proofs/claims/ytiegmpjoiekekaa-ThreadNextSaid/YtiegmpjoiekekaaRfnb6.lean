/-
  Up to what is seen (layer 16): the document's Next, of a thread that runs.
-/
import Derived.Test.YtiegmpjoiekekaaRfnh
namespace Go.Proofs.Ytiegmpjoiekekaa
open Go.RowKit
set_option linter.unusedVariables false
set_option linter.unusedSimpArgs false
set_option maxHeartbeats 8000000 in
set_option maxRecDepth 100000 in
theorem rfNextD24 (l : List In) (A : Option Addr) (c : Nat) (x : Th) (v : Value) (w : World) (h : InsAt w A c l) (hok : ∀ i ∈ l, inOk i) (hx : thOk x) (hv : v.oneCell' = true) (hr : thB l x = true) (h1 : x.st = 0) (h2 : x.ph = 0) (hcl : (goT l 256 x).at_ ≠ (l.length : Int) ∧ (atT l (goT l 256 x)).op = 24) :
    Calls Try.prog 15 #[.slice A l.length c, .agg (thC x v)] w fun e w' => e = .returned (.tuple #[.agg (thC (nxT l x) v), .agg (akC (reqA l (nxT l x)))]) ∧ Below w.heap.size w w' := by
  obtain ⟨hc1, hc2⟩ := seq_form h
  have hb3 : Below w.heap.size w (((w.alloc (.cells (thC x v) 27)).alloc (.cells thZ 27)).alloc (.cells akZ 37)) := (((Below.refl _ _).alloc (Nat.le_refl _) _).alloc (by simp) _).alloc (by simp; omega) _
  have l1 := ((Lies.made w 27 (thC x v)).alloc (.cells thZ 27)).alloc (.cells akZ 37)
  have l2 := (Lies.made (w.alloc (.cells (thC x v) 27)) 27 thZ).alloc (.cells akZ 37)
  have l3 := Lies.made ((w.alloc (.cells (thC x v) 27)).alloc (.cells thZ 27)) 37 akZ
  rw [show (w.alloc (.cells (thC x v) 27)).heap.size = w.heap.size + 1 by simp] at l2
  rw [show ((w.alloc (.cells (thC x v) 27)).alloc (.cells thZ 27)).heap.size = w.heap.size + 1 + 1 by simp] at l3
  have HB := Lib.hid hb3
  have HG := Lib.hid l1
  have H4 := Lib.hid l2
  have H5 := Lib.hid l3
  have HONE := Lib.hid (fun z => thC_one z hv)
  obtain ⟨hc, hin, hp⟩ := thB_parts hr
  clear hb3 l1 l2 l3
  have e0 : (x.st != 0) = false := by rw [bne_eq_false_iff_eq]; exact h1
  have e1 : (x.ph == 1) = false := by rw [beq_eq_false_iff_ne]; omega
  have e2 : (x.ph == 2) = false := by rw [beq_eq_false_iff_ne]; omega
  have HRN := Lib.hid (nxT_run (l := l) h1 h2)
  have HX := Lib.hid (thB_inv hr hx)
  have HRS : Hid (∀ y : Th, goT l 256 x = y → y.st = 0 ∧ y.ph = 0) := fun y e => by
    obtain ⟨q1, q2, q3, q4, q5⟩ := goT_rest l 256 x
    rw [← e]; exact ⟨q3.trans h1, q1.trans h2⟩
  have HALL := Lib.hid (codeB_parts hc).2
  have hlen := (codeB_parts hc).1
  have HH := Lib.hid (fun (q : World) (hq : Below w.heap.size w q) => h.later hq)
  have HOK := Lib.hid hok
  have HV := Lib.hid hv
  have HCL := Lib.hid hcl
  clear hcl
  have HPLN := Lib.hid (fun y i q hq a b c2 d e f g hx hk => rfPlain16 l A c y v i q hq a b c2 d e f g hx hk hv)
  clear h1 h2 hr hc hin hp h hok hx hv
  go_enter Try.func15, Try.ntmps15
  go_upto_region 1 with (fail)
  generalize (((w.alloc (.cells (thC x v) 27)).alloc (.cells thZ 27)).alloc (.cells akZ 37)) = w1 at *
  have c0 := (HG.out.cell 0).trans (show _ = some (Value.int .i64 x.at_) from rfl)
  have c1 := (HG.out.cell 1).trans (show _ = some (Value.int .i64 x.ph) from rfl)
  have c2 := (HG.out.cell 2).trans (show _ = some (Value.int .i64 x.rg) from rfl)
  have c3 := (HG.out.cell 3).trans (show _ = some (Value.int .i64 x.st) from rfl)
  have c4 := (HG.out.cell 4).trans (show _ = some (Value.int .u64 (x.tk : Int)) from rfl)
  have c5 := (HG.out.cell 5).trans (show _ = some (Value.int .u64 (x.r 0 : Int)) from rfl)
  have c6 := (HG.out.cell 6).trans (show _ = some (Value.int .u64 (x.r 1 : Int)) from rfl)
  have c7 := (HG.out.cell 7).trans (show _ = some (Value.int .u64 (x.r 2 : Int)) from rfl)
  have c8 := (HG.out.cell 8).trans (show _ = some (Value.int .u64 (x.r 3 : Int)) from rfl)
  have c9 := (HG.out.cell 9).trans (show _ = some (Value.int .u64 (x.r 4 : Int)) from rfl)
  have c10 := (HG.out.cell 10).trans (show _ = some (Value.int .u64 (x.r 5 : Int)) from rfl)
  have c11 := (HG.out.cell 11).trans (show _ = some (Value.int .u64 (x.r 6 : Int)) from rfl)
  have c12 := (HG.out.cell 12).trans (show _ = some (Value.int .u64 (x.r 7 : Int)) from rfl)
  have c13 := (HG.out.cell 13).trans (show _ = some (v) from rfl)
  have cl := HG.out.lt
  go_wp2_with fail
  clear c0 c1 c2 c3 c4 c5 c6 c7 c8 c9 c10 c11 c12 c13 cl
  clear e0 e1 e2
  go_loopw [6] (fun u wr => ∃ (k : Nat) (y : Th), k ≤ 256 ∧ u = .int .i64 k ∧ Hid (goT l 256 x = goT l (256 - k) y) ∧ Hid (InvT l y) ∧ Hid (Lies wr w.heap.size 27 (thC y v)) ∧ Hid (Lies wr (w.heap.size + 1) 27 thZ) ∧ Hid (Lies wr (w.heap.size + 1 + 1) 37 akZ) ∧ Hid (Below w.heap.size w wr)) (fun u _ => 256 - (intOf u).toNat)
  case atStart => exact ⟨0, x, by omega, rfl, Lib.hid rfl, HX, HG, H4, H5, HB⟩
  case round =>
    clear HG H4 H5 HB HX
    obtain ⟨k, y, hk, rfl, HGT, HI, HG, H4, H5, HB⟩ := hrel
    obtain ⟨ya, yp, yr, ys, yt, yg, yn⟩ := y
    obtain ⟨pn, hpn⟩ : ∃ n : Nat, ya = n := ⟨ya.toNat, by have := HI.out.1; have : 0 ≤ ya := this; omega⟩
    subst hpn
    have hpl : (pn : Int) ≤ (l.length : Int) := HI.out.2.1
    have c0 := (HG.out.cell 0).trans (show _ = some (Value.int .i64 (Th.mk (pn : Int) yp yr ys yt yg yn).at_) from rfl)
    have c1 := (HG.out.cell 1).trans (show _ = some (Value.int .i64 (Th.mk (pn : Int) yp yr ys yt yg yn).ph) from rfl)
    have c2 := (HG.out.cell 2).trans (show _ = some (Value.int .i64 (Th.mk (pn : Int) yp yr ys yt yg yn).rg) from rfl)
    have c3 := (HG.out.cell 3).trans (show _ = some (Value.int .i64 (Th.mk (pn : Int) yp yr ys yt yg yn).st) from rfl)
    have c4 := (HG.out.cell 4).trans (show _ = some (Value.int .u64 ((Th.mk (pn : Int) yp yr ys yt yg yn).tk : Int)) from rfl)
    have c5 := (HG.out.cell 5).trans (show _ = some (Value.int .u64 ((Th.mk (pn : Int) yp yr ys yt yg yn).r 0 : Int)) from rfl)
    have c6 := (HG.out.cell 6).trans (show _ = some (Value.int .u64 ((Th.mk (pn : Int) yp yr ys yt yg yn).r 1 : Int)) from rfl)
    have c7 := (HG.out.cell 7).trans (show _ = some (Value.int .u64 ((Th.mk (pn : Int) yp yr ys yt yg yn).r 2 : Int)) from rfl)
    have c8 := (HG.out.cell 8).trans (show _ = some (Value.int .u64 ((Th.mk (pn : Int) yp yr ys yt yg yn).r 3 : Int)) from rfl)
    have c9 := (HG.out.cell 9).trans (show _ = some (Value.int .u64 ((Th.mk (pn : Int) yp yr ys yt yg yn).r 4 : Int)) from rfl)
    have c10 := (HG.out.cell 10).trans (show _ = some (Value.int .u64 ((Th.mk (pn : Int) yp yr ys yt yg yn).r 5 : Int)) from rfl)
    have c11 := (HG.out.cell 11).trans (show _ = some (Value.int .u64 ((Th.mk (pn : Int) yp yr ys yt yg yn).r 6 : Int)) from rfl)
    have c12 := (HG.out.cell 12).trans (show _ = some (Value.int .u64 ((Th.mk (pn : Int) yp yr ys yt yg yn).r 7 : Int)) from rfl)
    have c13 := (HG.out.cell 13).trans (show _ = some (v) from rfl)
    have cl := HG.out.lt
    by_cases hat : pn = l.length
    · have d2 : decide ((pn : Int) < (l.length : Int)) = false := decide_eq_false (by omega)
      have d2n : decide (pn < l.length) = false := decide_eq_false (by omega)
      have d4 : ((pn : Int) == (l.length : Int)) = true := by rw [beq_iff_eq]; omega
      have d4n : (pn == l.length) = true := by rw [beq_iff_eq]; exact hat
      have hati : (Th.mk (pn : Int) yp yr ys yt yg yn).at_ = (l.length : Int) := by show (pn : Int) = _; omega
      have HPE : Hid (goT l 256 x = (Th.mk (pn : Int) yp yr ys yt yg yn)) := HGT.out.trans (goT_stop (plT_end hati) _)
      obtain ⟨hys, hyp⟩ := HRS.out _ HPE.out
      have HRE := Lib.hid (reqA_end (l := l) hys hati)
      have HYE := Lib.hid (HRN.out.trans HPE.out)
      exfalso
      have hcl := HCL.out
      rw [HPE.out] at hcl
      exact hcl.1 hati
    -- S1E
    have hpl2 : pn < l.length := by omega
    have hal : (pn : Int) < (l.length : Int) := by omega
    have d2 : decide ((pn : Int) < (l.length : Int)) = true := decide_eq_true hal
    have d2n : decide (pn < l.length) = true := decide_eq_true hpl2
    have d4 : ((pn : Int) == (l.length : Int)) = false := by rw [beq_eq_false_iff_ne]; omega
    have d4n : (pn == l.length) = false := by rw [beq_eq_false_iff_ne]; exact hat
    have hat : (Th.mk (pn : Int) yp yr ys yt yg yn).at_ ≠ (l.length : Int) := by show (pn : Int) ≠ _; omega
    obtain ⟨i, hi⟩ : ∃ i, l[pn]? = some i := ⟨_, List.getElem?_eq_getElem hpl2⟩
    have HAT := Lib.hid (atT_get (x := (Th.mk (pn : Int) yp yr ys yt yg yn)) rfl hi)
    have HM := Lib.hid (List.mem_of_getElem? hi)
    have HR := Lib.hid (HALL.out i HM.out).1
    have hi1 := right_op1 HR.out
    have hih := HH.out _ HB.out
    obtain ⟨b, off, rfl, hbl, hg⟩ := InsAt.at_ hih hi
    have HG1 := Lib.hid hg
    clear hg hi hbl
    have g0 := HG1.out 0 _ (by decide) rfl
    have g1 := HG1.out 1 _ (by decide) rfl
    have g2 := HG1.out 2 _ (by decide) rfl
    have g3 := HG1.out 3 _ (by decide) rfl
    have g4 := HG1.out 4 _ (by decide) rfl
    have g5 := HG1.out 5 _ (by decide) rfl
    rw [Nat.add_zero] at g0
    clear HG1
    by_cases hop17 : i.op ≤ 17
    · have d3 : decide (i.op ≤ 17) = true := decide_eq_true hop17
      by_cases hlt : k < 256
      · have d1 : decide ((k : Int) < 256) = true := decide_eq_true (by omega)
        have d1n : decide (k < 256) = true := decide_eq_true hlt
        have HST := Lib.hid (fun q hq => HPLN.out (Th.mk (pn : Int) yp yr ys yt yg yn) i q hq (show (0:Int) ≤ (pn : Int) by omega) hal hlen HAT.out HR.out hi1.1 hop17 HI.out.2.2 (HOK.out i HM.out).2.2.2.2.2)
        have HI2 := Lib.hid (step_inv (i := i) HI.out hal (HOK.out i HM.out).2.2.2.2.2 (HALL.out i HM.out).2)
        have HGT2 : Hid (goT l 256 x = goT l (256 - (k + 1)) (stepT i (Th.mk (pn : Int) yp yr ys yt yg yn))) := by
          have := goT_step (plT_in HAT.out hal hi1.1 hop17) (256 - (k + 1))
          rw [show 256 - (k + 1) + 1 = 256 - k by omega, HAT.out] at this
          exact HGT.out.trans this
        have HIH := Lib.hid hih
        clear HGT HI HAT HM HR hi1 hih hop17 HRN HRS HALL HOK HV HPLN hat
        go_wp2_with fail
        clear c0 c1 c2 c3 c4 c5 c6 c7 c8 c9 c10 c11 c12 c13 cl
        clear g0 g1 g2 g3 g4 g5 d2 d2n d3 d4 d4n
        refine (HST.out _ HIH.out).mono ?_
        rintro e w4 ⟨rfl, hbm⟩
        replace HG := Lib.hid (HG.out.below hbm HG.out.lt)
        replace H4 := Lib.hid (H4.out.below hbm H4.out.lt)
        replace H5 := Lib.hid (H5.out.below hbm H5.out.lt)
        replace HB := Lib.hid (HB.out.trans (hbm.mono HB.out.size))
        clear hbm HST HIH
        generalize stepT i (Th.mk (pn : Int) yp yr ys yt yg yn) = z at *
        have HG4 := Lib.hid (lies_row HG.out (thC z v))
        have hk4 := kept_rowT (w := w4) (g := w.heap.size) (thC z v)
        have H44 := Lib.hid (H4.out.kept hk4 (fun (e : w.heap.size + 1 = w.heap.size) => by omega))
        have H54 := Lib.hid (H5.out.kept hk4 (fun (e : w.heap.size + 1 + 1 = w.heap.size) => by omega))
        have HB4 := Lib.hid (HB.out.trans (hk4.below HB.out.size (fun k hk (e : k = w.heap.size) => by omega)))
        clear hk4
        go_wp2_with (
          refine wpList_store_row rfl 27 _ _ rfl (w.heap.size) (thC z v) rfl rfl 27 (thC (Th.mk (pn : Int) yp yr ys yt yg yn) v) HG.out infoTh rfl (HONE.out z) ?_
          clear HG H4 H5 HB
          generalize w4.setRow (w.heap.size) (thC z v) = w5 at *
          go_wp2
          go_roundw
          case rel => exact ⟨k + 1, z, by omega, by go_num, HGT2, HI2, HG4, H44, H54, HB4⟩
          case measure => simp [intOf]; omega)
      · have d1 : decide ((k : Int) < 256) = false := decide_eq_false (by omega)
        have d1n : decide (k < 256) = false := decide_eq_false hlt
        obtain rfl : k = 256 := by omega
        have HPE : Hid (goT l 256 x = (Th.mk (pn : Int) yp yr ys yt yg yn)) := HGT.out
        obtain ⟨hys, hyp⟩ := HRS.out _ HPE.out
        have HRE := Lib.hid (reqA_spin (l := l) hys hyp hat HAT.out hi1.1 hop17)
        have HYE := Lib.hid (HRN.out.trans HPE.out)
        exfalso
        have hcl := HCL.out
        rw [HPE.out] at hcl
        rw [HAT.out] at hcl
        have := hcl.2
        omega
    -- S2E
    have d3 : decide (i.op ≤ 17) = false := decide_eq_false hop17
    have HPE : Hid (goT l 256 x = (Th.mk (pn : Int) yp yr ys yt yg yn)) := HGT.out.trans (goT_stop (plT_out HAT.out (by omega)) _)
    obtain ⟨hys, hyp⟩ := HRS.out _ HPE.out
    have HRV := Lib.hid (reqA_vis (l := l) hys hyp hat HAT.out (by omega))
    have HYE := Lib.hid (HRN.out.trans HPE.out)
    have hops : i.op = 18 ∨ i.op = 19 ∨ i.op = 20 ∨ i.op = 21 ∨ i.op = 22 ∨ i.op = 23 ∨ i.op = 24 ∨ i.op = 25 := by omega
    have hop : i.op = 24 := by have hcl := HCL.out; rw [HPE.out, HAT.out] at hcl; exact hcl.2
    clear HGT HPE hys hyp hat HRN HRS HALL HH HOK HV HPLN HI hpl hi1 hop17 HAT HM hih HCL
    obtain ⟨kb, hkb⟩ : ∃ b, decide (k < 256) = b := ⟨_, rfl⟩
    have hkb2 : decide ((k : Int) < 256) = kb := by rw [← hkb]; congr 1; apply propext; omega
    cases kb
    all_goals
      obtain ⟨iop, ia, ib, ic, id, ik⟩ := i
      go_upto_region 14 with (fail)
      clear c0 c1 c2 c3 c4 c5 c6 c7 c8 c9 c10 c11 c12 c13 cl
      clear g0 g1 g2 g3 g4 g5
      have hba := Below.refl wr.heap.size wr
      have hba2 := hba.alloc (Nat.le_refl _) (.cells (inC ⟨iop, ia, ib, ic, id, ik⟩) 50)
      have HI7 := Lib.hid (Lies.made wr 50 (inC ⟨iop, ia, ib, ic, id, ik⟩))
      have HN7 : Hid (w.heap.size + 1 + 1 < wr.heap.size) := H5.out.lt
      replace HG := Lib.hid (HG.out.below hba2 HG.out.lt)
      replace H4 := Lib.hid (H4.out.below hba2 H4.out.lt)
      replace H5 := Lib.hid (H5.out.below hba2 H5.out.lt)
      replace HB := Lib.hid (HB.out.trans (hba2.mono HB.out.size))
      clear hba hba2
      generalize hw9 : wr.alloc (.cells (inC ⟨iop, ia, ib, ic, id, ik⟩) 50) = w9 at *
      generalize hn7 : wr.heap.size = n7 at *
      clear hw9 hn7
      clear hkb hkb2 d2 d2n d3 d4 d4n
      have hop : iop = 24 := hop
      have hreg := vis_reg HR.out (.inr hop)
      have hreg : 0 ≤ ia ∧ ia ≤ 7 := hreg
      obtain ⟨ian, hian⟩ : ∃ n : Nat, ia = n := ⟨ia.toNat, by omega⟩
      have ha8 : ian < 8 := by omega
      subst hian
      subst hop
      have HRE : Hid (reqA l (Th.mk (pn : Int) yp yr ys yt yg yn) = ⟨7, 0, 0, 0, 0, yg ian⟩) := by
        show _ = _
        rw [HRV.out]
        rfl
      clear HRV
      have d0 := (HI7.out.cell 0).trans (show _ = some (Value.int .i64 24) from rfl)
      have dl := HI7.out.lt
      go_wp2_with fail
      clear d0 dl
      have HSN := Lib.hid (fun (q : World) (hq : Kept (twoRows (w.heap.size + 1) (w.heap.size + 1 + 1)) w9 q) => HG.out.kept hq (fun (e : w.heap.size = _ ∨ w.heap.size = _) => by omega))
      have HIN := Lib.hid (fun (q : World) (hq : Kept (twoRows (w.heap.size + 1) (w.heap.size + 1 + 1)) w9 q) => HI7.out.kept hq (fun (e : n7 = _ ∨ n7 = _) => by have := HN7.out; omega))
      have HBL := Lib.hid (fun (q : World) (hq : Kept (twoRows (w.heap.size + 1) (w.heap.size + 1 + 1)) w9 q) => HB.out.trans (hq.below HB.out.size (fun k hk (e : k = _ ∨ k = _) => by omega)))
      refine wp_region_rely (fun q => Kept (twoRows (w.heap.size + 1) (w.heap.size + 1 + 1)) w9 q) (rgV [some (.agg (thC (Th.mk (pn : Int) yp yr ys yt yg yn) v)), some (.pointer (some ⟨n7, 1, none⟩)), some (.int .i64 ((ian : Int))), some (.pointer (some ⟨w.heap.size, 5, none⟩)), some (.pointer (some ⟨w.heap.size, 5 + ian, none⟩)), some (.int .u64 (yg ian : Int)), some (.agg (akC ⟨7, 0, 0, 0, 0, yg ian⟩)), none, none, none, none] (twF 7 8 9 10 (w.heap.size + 1) (w.heap.size + 1 + 1) 27 37 (thC (Th.mk (pn : Int) yp yr ys yt yg yn) v) (akC (⟨7, 0, 0, 0, 0, yg ian⟩)) thZ akZ)) [some 125, some 126, some 127, some 128, some 129, some 130, some 131, none, none] [[], [], [1], [], [3, 2], [4], [5], [0, 9], [6, 10]] [[], [], [1], [], [1, 2, 3], [2, 3, 4], [4, 5], [0, 9], [0, 1, 2, 3, 4, 5, 6, 9, 10]] [[1, 2, 3, 4, 5, 6, 9, 10], [0, 3, 4, 5, 6, 7, 9, 10], [0, 3, 5, 6, 7, 9, 10], [0, 1, 2, 5, 6, 7, 9, 10], [0, 6, 7, 9, 10], [0, 7, 9, 10], [0, 1, 7, 9, 10], [1, 2, 3, 4, 5, 6, 10], [7]] [0, 1, 2, 3, 4, 5, 6, 7, 8] 11 (by kernel_rfl) (by kernel_rfl) (by kernel_rfl) (by kernel_rfl) ?rS ?rI ?rT ?rE
      case rS => exact Kept.drew _ _
      case rI =>
        intro j h1 h2
        have h1 : j < 11 := h1
        have h2 : 9 ≤ j := h2
        have hj : j = 9 ∨ j = 10 := by omega
        rcases hj with rfl | rfl
        · exact H4.out.drewN 1
        · exact H5.out.drewN 1
      case rT =>
        refine RelySteps.cons (RelyStep.mk [] [1, 2, 3, 4, 5, 6, 9, 10] rfl rfl rfl (fun xv wS hS hV bq hb K hK => ?_)) ?_
        · clear hV
          simp only [putsOf, List.foldl_cons, List.foldl_nil, List.getD_cons_zero, List.getD_cons_succ, List.getD_nil, cond_true, cond_false, Act.put, List.setIfInBounds_toArray, List.set_cons_zero, List.set_cons_succ] at hb
          subst hb
          rw [if_pos (by rfl)]
          (have HZ := Lib.hid (HSN.out _ hS); have c0 := (HZ.out.cell 0).trans (show _ = some (Value.int .i64 (Th.mk (pn : Int) yp yr ys yt yg yn).at_) from rfl); have c1 := (HZ.out.cell 1).trans (show _ = some (Value.int .i64 (Th.mk (pn : Int) yp yr ys yt yg yn).ph) from rfl); have c2 := (HZ.out.cell 2).trans (show _ = some (Value.int .i64 (Th.mk (pn : Int) yp yr ys yt yg yn).rg) from rfl); have c3 := (HZ.out.cell 3).trans (show _ = some (Value.int .i64 (Th.mk (pn : Int) yp yr ys yt yg yn).st) from rfl); have c4 := (HZ.out.cell 4).trans (show _ = some (Value.int .u64 ((Th.mk (pn : Int) yp yr ys yt yg yn).tk : Int)) from rfl); have c5 := (HZ.out.cell 5).trans (show _ = some (Value.int .u64 ((Th.mk (pn : Int) yp yr ys yt yg yn).r 0 : Int)) from rfl); have c6 := (HZ.out.cell 6).trans (show _ = some (Value.int .u64 ((Th.mk (pn : Int) yp yr ys yt yg yn).r 1 : Int)) from rfl); have c7 := (HZ.out.cell 7).trans (show _ = some (Value.int .u64 ((Th.mk (pn : Int) yp yr ys yt yg yn).r 2 : Int)) from rfl); have c8 := (HZ.out.cell 8).trans (show _ = some (Value.int .u64 ((Th.mk (pn : Int) yp yr ys yt yg yn).r 3 : Int)) from rfl); have c9 := (HZ.out.cell 9).trans (show _ = some (Value.int .u64 ((Th.mk (pn : Int) yp yr ys yt yg yn).r 4 : Int)) from rfl); have c10 := (HZ.out.cell 10).trans (show _ = some (Value.int .u64 ((Th.mk (pn : Int) yp yr ys yt yg yn).r 5 : Int)) from rfl); have c11 := (HZ.out.cell 11).trans (show _ = some (Value.int .u64 ((Th.mk (pn : Int) yp yr ys yt yg yn).r 6 : Int)) from rfl); have c12 := (HZ.out.cell 12).trans (show _ = some (Value.int .u64 ((Th.mk (pn : Int) yp yr ys yt yg yn).r 7 : Int)) from rfl); have c13 := (HZ.out.cell 13).trans (show _ = some (v) from rfl); have cl := HZ.out.lt)
          go_wp2_with fail
          exact hK.out _ _ ⟨_, rfl, hS, rfl, AllP.same _⟩
        refine RelySteps.cons (RelyStep.mk [] [0, 3, 4, 5, 6, 7, 9, 10] rfl rfl rfl (fun xv wS hS hV bq hb K hK => ?_)) ?_
        · clear hV
          simp only [putsOf, List.foldl_cons, List.foldl_nil, List.getD_cons_zero, List.getD_cons_succ, List.getD_nil, cond_true, cond_false, Act.put, List.setIfInBounds_toArray, List.set_cons_zero, List.set_cons_succ] at hb
          subst hb
          rw [if_pos (by rfl)]
          go_wp2_with fail
          exact hK.out _ _ ⟨_, rfl, hS, rfl, AllP.same _⟩
        refine RelySteps.cons (RelyStep.mk [1] [0, 3, 5, 6, 7, 9, 10] rfl rfl rfl (fun xv wS hS hV bq hb K hK => ?_)) ?_
        · obtain ⟨h1, _⟩ := hV
          have h1 : xv 1 = _ := h1
          simp only [putsOf, List.foldl_cons, List.foldl_nil, List.getD_cons_zero, List.getD_cons_succ, List.getD_nil, cond_true, cond_false, Act.put, List.setIfInBounds_toArray, List.set_cons_zero, List.set_cons_succ, h1] at hb
          clear h1
          subst hb
          rw [if_pos (by rfl)]
          (have HZ := Lib.hid (HIN.out _ hS); have c9 := (HZ.out.cell 1).trans (show _ = some _ from rfl); have c8 := HZ.out.lt)
          go_wp2_with fail
          exact hK.out _ _ ⟨_, rfl, hS, rfl, AllP.same _⟩
        refine RelySteps.cons (RelyStep.mk [] [0, 1, 2, 5, 6, 7, 9, 10] rfl rfl rfl (fun xv wS hS hV bq hb K hK => ?_)) ?_
        · clear hV
          simp only [putsOf, List.foldl_cons, List.foldl_nil, List.getD_cons_zero, List.getD_cons_succ, List.getD_nil, cond_true, cond_false, Act.put, List.setIfInBounds_toArray, List.set_cons_zero, List.set_cons_succ] at hb
          subst hb
          rw [if_pos (by rfl)]
          go_wp2_with fail
          exact hK.out _ _ ⟨_, rfl, hS, rfl, AllP.same _⟩
        refine RelySteps.cons (RelyStep.mk [3, 2] [0, 6, 7, 9, 10] rfl rfl rfl (fun xv wS hS hV bq hb K hK => ?_)) ?_
        · obtain ⟨h3, h2, _⟩ := hV
          have h3 : xv 3 = _ := h3
          have h2 : xv 2 = _ := h2
          simp only [putsOf, List.foldl_cons, List.foldl_nil, List.getD_cons_zero, List.getD_cons_succ, List.getD_nil, cond_true, cond_false, Act.put, List.setIfInBounds_toArray, List.set_cons_zero, List.set_cons_succ, h3, h2] at hb
          clear h3
          clear h2
          subst hb
          rw [if_pos (by rfl)]
          go_wp2_with fail
          exact hK.out _ _ ⟨_, rfl, hS, rfl, AllP.same _⟩
        refine RelySteps.cons (RelyStep.mk [4] [0, 7, 9, 10] rfl rfl rfl (fun xv wS hS hV bq hb K hK => ?_)) ?_
        · obtain ⟨h4, _⟩ := hV
          have h4 : xv 4 = _ := h4
          simp only [putsOf, List.foldl_cons, List.foldl_nil, List.getD_cons_zero, List.getD_cons_succ, List.getD_nil, cond_true, cond_false, Act.put, List.setIfInBounds_toArray, List.set_cons_zero, List.set_cons_succ, h4] at hb
          clear h4
          subst hb
          rw [if_pos (by rfl)]
          (have HZ := Lib.hid (HSN.out _ hS); have c9 := (HZ.out.cell (5 + ian)).trans (thC_reg _ v ha8); have c8 := HZ.out.lt)
          go_wp2_with fail
          exact hK.out _ _ ⟨_, rfl, hS, rfl, AllP.same _⟩
        refine RelySteps.cons (RelyStep.mk [5] [0, 1, 7, 9, 10] rfl rfl rfl (fun xv wS hS hV bq hb K hK => ?_)) ?_
        · obtain ⟨h5, _⟩ := hV
          have h5 : xv 5 = _ := h5
          simp only [putsOf, List.foldl_cons, List.foldl_nil, List.getD_cons_zero, List.getD_cons_succ, List.getD_nil, cond_true, cond_false, Act.put, List.setIfInBounds_toArray, List.set_cons_zero, List.set_cons_succ, h5] at hb
          clear h5
          subst hb
          rw [if_pos (by rfl)]
          go_wp2_with fail
          exact hK.out _ _ ⟨_, rfl, hS, rfl, AllP.same _⟩
        refine RelySteps.cons (RelyStep.mk [0, 9] [1, 2, 3, 4, 5, 6, 10] rfl rfl rfl (fun xv wS hS hV bq hb K hK => ?_)) ?_
        · obtain ⟨h0, h9, _⟩ := hV
          have h0 : xv 0 = _ := h0
          simp only [putsOf, List.foldl_cons, List.foldl_nil, List.getD_cons_zero, List.getD_cons_succ, List.getD_nil, cond_true, cond_false, Act.put, List.setIfInBounds_toArray, List.set_cons_zero, List.set_cons_succ, h0] at hb
          clear h0
          generalize xv 9 = y9 at *
          subst hb
          rw [if_pos (by rfl)]
          have q7 : Lies wS (w.heap.size + 1) 27 thZ := h9
          have hk9 := kept_rowT (w := wS) (g := w.heap.size + 1) (thC (Th.mk (pn : Int) yp yr ys yt yg yn) v)
          refine wp_store_row _ _ _ rfl (w.heap.size + 1) (thC (Th.mk (pn : Int) yp yr ys yt yg yn) v) rfl rfl 27 thZ q7 infoTh rfl (HONE.out (Th.mk (pn : Int) yp yr ys yt yg yn)) ?_
          exact hK.out _ _ ⟨undef, rfl, hS.trans (hk9.mono (T := twoRows (w.heap.size + 1) (w.heap.size + 1 + 1)) (fun _ _ e => .inl e)) (fun _ _ e => e), lies_row q7 _, AllP.of _ (fun j hj u h => rgV_mono (twF_kept4 (all_in (fun j => j != 7 && j != 9) rfl hj) (fun (e : w.heap.size + 1 + 1 = w.heap.size + 1) => by omega) hk9) h)⟩
        refine RelySteps.cons (RelyStep.mk [6, 10] [7] rfl rfl rfl (fun xv wS hS hV bq hb K hK => ?_)) ?_
        · obtain ⟨h6, h10, _⟩ := hV
          have h6 : xv 6 = _ := h6
          simp only [putsOf, List.foldl_cons, List.foldl_nil, List.getD_cons_zero, List.getD_cons_succ, List.getD_nil, cond_true, cond_false, Act.put, List.setIfInBounds_toArray, List.set_cons_zero, List.set_cons_succ, h6] at hb
          clear h6
          generalize xv 10 = y10 at *
          subst hb
          rw [if_pos (by rfl)]
          have q8 : Lies wS (w.heap.size + 1 + 1) 37 akZ := h10
          have hk9 := kept_rowT (w := wS) (g := w.heap.size + 1 + 1) (akC (⟨7, 0, 0, 0, 0, yg ian⟩))
          refine wp_store_row _ _ _ rfl (w.heap.size + 1 + 1) (akC (⟨7, 0, 0, 0, 0, yg ian⟩)) rfl rfl 37 akZ q8 infoAk2 rfl (akC_one _) ?_
          exact hK.out _ _ ⟨undef, rfl, hS.trans (hk9.mono (T := twoRows (w.heap.size + 1) (w.heap.size + 1 + 1)) (fun _ _ e => .inr e)) (fun _ _ e => e), lies_row q8 _, AllP.of _ (fun j hj u h => rgV_mono (twF_kept5 (all_in (fun j => j != 8 && j != 10) rfl hj) (fun (e : w.heap.size + 1 = w.heap.size + 1 + 1) => by omega) hk9) h)⟩
        exact RelySteps.nil
      case rE =>
        intro xv wE hS hV
        have h7 := hV 7 (by decide) (by decide)
        have h8 := hV 8 (by decide) (by decide)
        clear hV
        simp only [putsOf, List.foldl_cons, List.foldl_nil, List.getD_cons_zero, List.getD_cons_succ, List.getD_nil, cond_true, cond_false, Act.put, List.setIfInBounds_toArray, List.set_cons_zero, List.set_cons_succ]
        generalize xv 0 = y0 at *
        generalize xv 1 = y1 at *
        generalize xv 2 = y2 at *
        generalize xv 3 = y3 at *
        generalize xv 4 = y4 at *
        generalize xv 5 = y5 at *
        generalize xv 6 = y6 at *
        generalize xv 7 = y7 at *
        generalize xv 8 = y8 at *
        have Q4 : Hid (Lies wE (w.heap.size + 1) 27 (thC (Th.mk (pn : Int) yp yr ys yt yg yn) v)) := h7
        have Q5 : Hid (Lies wE (w.heap.size + 1 + 1) 37 (akC (⟨7, 0, 0, 0, 0, yg ian⟩))) := h8
        have HBZ := Lib.hid (HBL.out _ hS)
        clear hS HSN HBL
        replace Q5 : Hid (Lies wE (w.heap.size + 1 + 1) 37 (akC (reqA l (Th.mk (pn : Int) yp yr ys yt yg yn)))) := by show Lies _ _ _ _; rw [HRE.out]; exact Q5.out
        clear HRE H4 H5 HG HB HONE
        generalize hzz : reqA l (Th.mk (pn : Int) yp yr ys yt yg yn) = z at *
        have HZE := Lib.hid hzz
        clear hzz
        have z0 := (Q4.out.cell 0).trans (show _ = some (Value.int .i64 (Th.mk (pn : Int) yp yr ys yt yg yn).at_) from rfl)
        have z1 := (Q4.out.cell 1).trans (show _ = some (Value.int .i64 (Th.mk (pn : Int) yp yr ys yt yg yn).ph) from rfl)
        have z2 := (Q4.out.cell 2).trans (show _ = some (Value.int .i64 (Th.mk (pn : Int) yp yr ys yt yg yn).rg) from rfl)
        have z3 := (Q4.out.cell 3).trans (show _ = some (Value.int .i64 (Th.mk (pn : Int) yp yr ys yt yg yn).st) from rfl)
        have z4 := (Q4.out.cell 4).trans (show _ = some (Value.int .u64 ((Th.mk (pn : Int) yp yr ys yt yg yn).tk : Int)) from rfl)
        have z5 := (Q4.out.cell 5).trans (show _ = some (Value.int .u64 ((Th.mk (pn : Int) yp yr ys yt yg yn).r 0 : Int)) from rfl)
        have z6 := (Q4.out.cell 6).trans (show _ = some (Value.int .u64 ((Th.mk (pn : Int) yp yr ys yt yg yn).r 1 : Int)) from rfl)
        have z7 := (Q4.out.cell 7).trans (show _ = some (Value.int .u64 ((Th.mk (pn : Int) yp yr ys yt yg yn).r 2 : Int)) from rfl)
        have z8 := (Q4.out.cell 8).trans (show _ = some (Value.int .u64 ((Th.mk (pn : Int) yp yr ys yt yg yn).r 3 : Int)) from rfl)
        have z9 := (Q4.out.cell 9).trans (show _ = some (Value.int .u64 ((Th.mk (pn : Int) yp yr ys yt yg yn).r 4 : Int)) from rfl)
        have z10 := (Q4.out.cell 10).trans (show _ = some (Value.int .u64 ((Th.mk (pn : Int) yp yr ys yt yg yn).r 5 : Int)) from rfl)
        have z11 := (Q4.out.cell 11).trans (show _ = some (Value.int .u64 ((Th.mk (pn : Int) yp yr ys yt yg yn).r 6 : Int)) from rfl)
        have z12 := (Q4.out.cell 12).trans (show _ = some (Value.int .u64 ((Th.mk (pn : Int) yp yr ys yt yg yn).r 7 : Int)) from rfl)
        have z13 := (Q4.out.cell 13).trans (show _ = some (v) from rfl)
        have zl := Q4.out.lt
        have k0 := (Q5.out.cell 0).trans (show _ = some (.int .i64 z.kd) from rfl)
        have k1 := (Q5.out.cell 1).trans (show _ = some (.int .i64 z.rg) from rfl)
        have k2 := (Q5.out.cell 2).trans (show _ = some (.int .i64 z.md) from rfl)
        have k3 := (Q5.out.cell 3).trans (show _ = some (.int .i64 z.rd) from rfl)
        have k4 := (Q5.out.cell 4).trans (show _ = some (.int .u64 (z.tk : Int)) from rfl)
        have k5 := (Q5.out.cell 5).trans (show _ = some (.int .u64 (z.vl : Int)) from rfl)
        go_wp2
        exact bodyPost_ret (v := .tuple #[.agg (thC (Th.mk (pn : Int) yp yr ys yt yg yn) v), .agg (akC z)]) (by simp [results, Try.results15, go_sem, z0, z1, z2, z3, z4, z5, z6, z7, z8, z9, z10, z11, z12, z13, k0, k1, k2, k3, k4, k5]) rfl ⟨by rw [HYE.out, HZE.out], HBZ.out⟩
set_option maxHeartbeats 8000000 in
set_option maxRecDepth 100000 in
theorem rfNextD25 (l : List In) (A : Option Addr) (c : Nat) (x : Th) (v : Value) (w : World) (h : InsAt w A c l) (hok : ∀ i ∈ l, inOk i) (hx : thOk x) (hv : v.oneCell' = true) (hr : thB l x = true) (h1 : x.st = 0) (h2 : x.ph = 0) (hcl : (goT l 256 x).at_ ≠ (l.length : Int) ∧ (atT l (goT l 256 x)).op = 25) :
    Calls Try.prog 15 #[.slice A l.length c, .agg (thC x v)] w fun e w' => e = .returned (.tuple #[.agg (thC (nxT l x) v), .agg (akC (reqA l (nxT l x)))]) ∧ Below w.heap.size w w' := by
  obtain ⟨hc1, hc2⟩ := seq_form h
  have hb3 : Below w.heap.size w (((w.alloc (.cells (thC x v) 27)).alloc (.cells thZ 27)).alloc (.cells akZ 37)) := (((Below.refl _ _).alloc (Nat.le_refl _) _).alloc (by simp) _).alloc (by simp; omega) _
  have l1 := ((Lies.made w 27 (thC x v)).alloc (.cells thZ 27)).alloc (.cells akZ 37)
  have l2 := (Lies.made (w.alloc (.cells (thC x v) 27)) 27 thZ).alloc (.cells akZ 37)
  have l3 := Lies.made ((w.alloc (.cells (thC x v) 27)).alloc (.cells thZ 27)) 37 akZ
  rw [show (w.alloc (.cells (thC x v) 27)).heap.size = w.heap.size + 1 by simp] at l2
  rw [show ((w.alloc (.cells (thC x v) 27)).alloc (.cells thZ 27)).heap.size = w.heap.size + 1 + 1 by simp] at l3
  have HB := Lib.hid hb3
  have HG := Lib.hid l1
  have H4 := Lib.hid l2
  have H5 := Lib.hid l3
  have HONE := Lib.hid (fun z => thC_one z hv)
  obtain ⟨hc, hin, hp⟩ := thB_parts hr
  clear hb3 l1 l2 l3
  have e0 : (x.st != 0) = false := by rw [bne_eq_false_iff_eq]; exact h1
  have e1 : (x.ph == 1) = false := by rw [beq_eq_false_iff_ne]; omega
  have e2 : (x.ph == 2) = false := by rw [beq_eq_false_iff_ne]; omega
  have HRN := Lib.hid (nxT_run (l := l) h1 h2)
  have HX := Lib.hid (thB_inv hr hx)
  have HRS : Hid (∀ y : Th, goT l 256 x = y → y.st = 0 ∧ y.ph = 0) := fun y e => by
    obtain ⟨q1, q2, q3, q4, q5⟩ := goT_rest l 256 x
    rw [← e]; exact ⟨q3.trans h1, q1.trans h2⟩
  have HALL := Lib.hid (codeB_parts hc).2
  have hlen := (codeB_parts hc).1
  have HH := Lib.hid (fun (q : World) (hq : Below w.heap.size w q) => h.later hq)
  have HOK := Lib.hid hok
  have HV := Lib.hid hv
  have HCL := Lib.hid hcl
  clear hcl
  have HPLN := Lib.hid (fun y i q hq a b c2 d e f g hx hk => rfPlain16 l A c y v i q hq a b c2 d e f g hx hk hv)
  clear h1 h2 hr hc hin hp h hok hx hv
  go_enter Try.func15, Try.ntmps15
  go_upto_region 1 with (fail)
  generalize (((w.alloc (.cells (thC x v) 27)).alloc (.cells thZ 27)).alloc (.cells akZ 37)) = w1 at *
  have c0 := (HG.out.cell 0).trans (show _ = some (Value.int .i64 x.at_) from rfl)
  have c1 := (HG.out.cell 1).trans (show _ = some (Value.int .i64 x.ph) from rfl)
  have c2 := (HG.out.cell 2).trans (show _ = some (Value.int .i64 x.rg) from rfl)
  have c3 := (HG.out.cell 3).trans (show _ = some (Value.int .i64 x.st) from rfl)
  have c4 := (HG.out.cell 4).trans (show _ = some (Value.int .u64 (x.tk : Int)) from rfl)
  have c5 := (HG.out.cell 5).trans (show _ = some (Value.int .u64 (x.r 0 : Int)) from rfl)
  have c6 := (HG.out.cell 6).trans (show _ = some (Value.int .u64 (x.r 1 : Int)) from rfl)
  have c7 := (HG.out.cell 7).trans (show _ = some (Value.int .u64 (x.r 2 : Int)) from rfl)
  have c8 := (HG.out.cell 8).trans (show _ = some (Value.int .u64 (x.r 3 : Int)) from rfl)
  have c9 := (HG.out.cell 9).trans (show _ = some (Value.int .u64 (x.r 4 : Int)) from rfl)
  have c10 := (HG.out.cell 10).trans (show _ = some (Value.int .u64 (x.r 5 : Int)) from rfl)
  have c11 := (HG.out.cell 11).trans (show _ = some (Value.int .u64 (x.r 6 : Int)) from rfl)
  have c12 := (HG.out.cell 12).trans (show _ = some (Value.int .u64 (x.r 7 : Int)) from rfl)
  have c13 := (HG.out.cell 13).trans (show _ = some (v) from rfl)
  have cl := HG.out.lt
  go_wp2_with fail
  clear c0 c1 c2 c3 c4 c5 c6 c7 c8 c9 c10 c11 c12 c13 cl
  clear e0 e1 e2
  go_loopw [6] (fun u wr => ∃ (k : Nat) (y : Th), k ≤ 256 ∧ u = .int .i64 k ∧ Hid (goT l 256 x = goT l (256 - k) y) ∧ Hid (InvT l y) ∧ Hid (Lies wr w.heap.size 27 (thC y v)) ∧ Hid (Lies wr (w.heap.size + 1) 27 thZ) ∧ Hid (Lies wr (w.heap.size + 1 + 1) 37 akZ) ∧ Hid (Below w.heap.size w wr)) (fun u _ => 256 - (intOf u).toNat)
  case atStart => exact ⟨0, x, by omega, rfl, Lib.hid rfl, HX, HG, H4, H5, HB⟩
  case round =>
    clear HG H4 H5 HB HX
    obtain ⟨k, y, hk, rfl, HGT, HI, HG, H4, H5, HB⟩ := hrel
    obtain ⟨ya, yp, yr, ys, yt, yg, yn⟩ := y
    obtain ⟨pn, hpn⟩ : ∃ n : Nat, ya = n := ⟨ya.toNat, by have := HI.out.1; have : 0 ≤ ya := this; omega⟩
    subst hpn
    have hpl : (pn : Int) ≤ (l.length : Int) := HI.out.2.1
    have c0 := (HG.out.cell 0).trans (show _ = some (Value.int .i64 (Th.mk (pn : Int) yp yr ys yt yg yn).at_) from rfl)
    have c1 := (HG.out.cell 1).trans (show _ = some (Value.int .i64 (Th.mk (pn : Int) yp yr ys yt yg yn).ph) from rfl)
    have c2 := (HG.out.cell 2).trans (show _ = some (Value.int .i64 (Th.mk (pn : Int) yp yr ys yt yg yn).rg) from rfl)
    have c3 := (HG.out.cell 3).trans (show _ = some (Value.int .i64 (Th.mk (pn : Int) yp yr ys yt yg yn).st) from rfl)
    have c4 := (HG.out.cell 4).trans (show _ = some (Value.int .u64 ((Th.mk (pn : Int) yp yr ys yt yg yn).tk : Int)) from rfl)
    have c5 := (HG.out.cell 5).trans (show _ = some (Value.int .u64 ((Th.mk (pn : Int) yp yr ys yt yg yn).r 0 : Int)) from rfl)
    have c6 := (HG.out.cell 6).trans (show _ = some (Value.int .u64 ((Th.mk (pn : Int) yp yr ys yt yg yn).r 1 : Int)) from rfl)
    have c7 := (HG.out.cell 7).trans (show _ = some (Value.int .u64 ((Th.mk (pn : Int) yp yr ys yt yg yn).r 2 : Int)) from rfl)
    have c8 := (HG.out.cell 8).trans (show _ = some (Value.int .u64 ((Th.mk (pn : Int) yp yr ys yt yg yn).r 3 : Int)) from rfl)
    have c9 := (HG.out.cell 9).trans (show _ = some (Value.int .u64 ((Th.mk (pn : Int) yp yr ys yt yg yn).r 4 : Int)) from rfl)
    have c10 := (HG.out.cell 10).trans (show _ = some (Value.int .u64 ((Th.mk (pn : Int) yp yr ys yt yg yn).r 5 : Int)) from rfl)
    have c11 := (HG.out.cell 11).trans (show _ = some (Value.int .u64 ((Th.mk (pn : Int) yp yr ys yt yg yn).r 6 : Int)) from rfl)
    have c12 := (HG.out.cell 12).trans (show _ = some (Value.int .u64 ((Th.mk (pn : Int) yp yr ys yt yg yn).r 7 : Int)) from rfl)
    have c13 := (HG.out.cell 13).trans (show _ = some (v) from rfl)
    have cl := HG.out.lt
    by_cases hat : pn = l.length
    · have d2 : decide ((pn : Int) < (l.length : Int)) = false := decide_eq_false (by omega)
      have d2n : decide (pn < l.length) = false := decide_eq_false (by omega)
      have d4 : ((pn : Int) == (l.length : Int)) = true := by rw [beq_iff_eq]; omega
      have d4n : (pn == l.length) = true := by rw [beq_iff_eq]; exact hat
      have hati : (Th.mk (pn : Int) yp yr ys yt yg yn).at_ = (l.length : Int) := by show (pn : Int) = _; omega
      have HPE : Hid (goT l 256 x = (Th.mk (pn : Int) yp yr ys yt yg yn)) := HGT.out.trans (goT_stop (plT_end hati) _)
      obtain ⟨hys, hyp⟩ := HRS.out _ HPE.out
      have HRE := Lib.hid (reqA_end (l := l) hys hati)
      have HYE := Lib.hid (HRN.out.trans HPE.out)
      exfalso
      have hcl := HCL.out
      rw [HPE.out] at hcl
      exact hcl.1 hati
    -- S1E
    have hpl2 : pn < l.length := by omega
    have hal : (pn : Int) < (l.length : Int) := by omega
    have d2 : decide ((pn : Int) < (l.length : Int)) = true := decide_eq_true hal
    have d2n : decide (pn < l.length) = true := decide_eq_true hpl2
    have d4 : ((pn : Int) == (l.length : Int)) = false := by rw [beq_eq_false_iff_ne]; omega
    have d4n : (pn == l.length) = false := by rw [beq_eq_false_iff_ne]; exact hat
    have hat : (Th.mk (pn : Int) yp yr ys yt yg yn).at_ ≠ (l.length : Int) := by show (pn : Int) ≠ _; omega
    obtain ⟨i, hi⟩ : ∃ i, l[pn]? = some i := ⟨_, List.getElem?_eq_getElem hpl2⟩
    have HAT := Lib.hid (atT_get (x := (Th.mk (pn : Int) yp yr ys yt yg yn)) rfl hi)
    have HM := Lib.hid (List.mem_of_getElem? hi)
    have HR := Lib.hid (HALL.out i HM.out).1
    have hi1 := right_op1 HR.out
    have hih := HH.out _ HB.out
    obtain ⟨b, off, rfl, hbl, hg⟩ := InsAt.at_ hih hi
    have HG1 := Lib.hid hg
    clear hg hi hbl
    have g0 := HG1.out 0 _ (by decide) rfl
    have g1 := HG1.out 1 _ (by decide) rfl
    have g2 := HG1.out 2 _ (by decide) rfl
    have g3 := HG1.out 3 _ (by decide) rfl
    have g4 := HG1.out 4 _ (by decide) rfl
    have g5 := HG1.out 5 _ (by decide) rfl
    rw [Nat.add_zero] at g0
    clear HG1
    by_cases hop17 : i.op ≤ 17
    · have d3 : decide (i.op ≤ 17) = true := decide_eq_true hop17
      by_cases hlt : k < 256
      · have d1 : decide ((k : Int) < 256) = true := decide_eq_true (by omega)
        have d1n : decide (k < 256) = true := decide_eq_true hlt
        have HST := Lib.hid (fun q hq => HPLN.out (Th.mk (pn : Int) yp yr ys yt yg yn) i q hq (show (0:Int) ≤ (pn : Int) by omega) hal hlen HAT.out HR.out hi1.1 hop17 HI.out.2.2 (HOK.out i HM.out).2.2.2.2.2)
        have HI2 := Lib.hid (step_inv (i := i) HI.out hal (HOK.out i HM.out).2.2.2.2.2 (HALL.out i HM.out).2)
        have HGT2 : Hid (goT l 256 x = goT l (256 - (k + 1)) (stepT i (Th.mk (pn : Int) yp yr ys yt yg yn))) := by
          have := goT_step (plT_in HAT.out hal hi1.1 hop17) (256 - (k + 1))
          rw [show 256 - (k + 1) + 1 = 256 - k by omega, HAT.out] at this
          exact HGT.out.trans this
        have HIH := Lib.hid hih
        clear HGT HI HAT HM HR hi1 hih hop17 HRN HRS HALL HOK HV HPLN hat
        go_wp2_with fail
        clear c0 c1 c2 c3 c4 c5 c6 c7 c8 c9 c10 c11 c12 c13 cl
        clear g0 g1 g2 g3 g4 g5 d2 d2n d3 d4 d4n
        refine (HST.out _ HIH.out).mono ?_
        rintro e w4 ⟨rfl, hbm⟩
        replace HG := Lib.hid (HG.out.below hbm HG.out.lt)
        replace H4 := Lib.hid (H4.out.below hbm H4.out.lt)
        replace H5 := Lib.hid (H5.out.below hbm H5.out.lt)
        replace HB := Lib.hid (HB.out.trans (hbm.mono HB.out.size))
        clear hbm HST HIH
        generalize stepT i (Th.mk (pn : Int) yp yr ys yt yg yn) = z at *
        have HG4 := Lib.hid (lies_row HG.out (thC z v))
        have hk4 := kept_rowT (w := w4) (g := w.heap.size) (thC z v)
        have H44 := Lib.hid (H4.out.kept hk4 (fun (e : w.heap.size + 1 = w.heap.size) => by omega))
        have H54 := Lib.hid (H5.out.kept hk4 (fun (e : w.heap.size + 1 + 1 = w.heap.size) => by omega))
        have HB4 := Lib.hid (HB.out.trans (hk4.below HB.out.size (fun k hk (e : k = w.heap.size) => by omega)))
        clear hk4
        go_wp2_with (
          refine wpList_store_row rfl 27 _ _ rfl (w.heap.size) (thC z v) rfl rfl 27 (thC (Th.mk (pn : Int) yp yr ys yt yg yn) v) HG.out infoTh rfl (HONE.out z) ?_
          clear HG H4 H5 HB
          generalize w4.setRow (w.heap.size) (thC z v) = w5 at *
          go_wp2
          go_roundw
          case rel => exact ⟨k + 1, z, by omega, by go_num, HGT2, HI2, HG4, H44, H54, HB4⟩
          case measure => simp [intOf]; omega)
      · have d1 : decide ((k : Int) < 256) = false := decide_eq_false (by omega)
        have d1n : decide (k < 256) = false := decide_eq_false hlt
        obtain rfl : k = 256 := by omega
        have HPE : Hid (goT l 256 x = (Th.mk (pn : Int) yp yr ys yt yg yn)) := HGT.out
        obtain ⟨hys, hyp⟩ := HRS.out _ HPE.out
        have HRE := Lib.hid (reqA_spin (l := l) hys hyp hat HAT.out hi1.1 hop17)
        have HYE := Lib.hid (HRN.out.trans HPE.out)
        exfalso
        have hcl := HCL.out
        rw [HPE.out] at hcl
        rw [HAT.out] at hcl
        have := hcl.2
        omega
    -- S2E
    have d3 : decide (i.op ≤ 17) = false := decide_eq_false hop17
    have HPE : Hid (goT l 256 x = (Th.mk (pn : Int) yp yr ys yt yg yn)) := HGT.out.trans (goT_stop (plT_out HAT.out (by omega)) _)
    obtain ⟨hys, hyp⟩ := HRS.out _ HPE.out
    have HRV := Lib.hid (reqA_vis (l := l) hys hyp hat HAT.out (by omega))
    have HYE := Lib.hid (HRN.out.trans HPE.out)
    have hops : i.op = 18 ∨ i.op = 19 ∨ i.op = 20 ∨ i.op = 21 ∨ i.op = 22 ∨ i.op = 23 ∨ i.op = 24 ∨ i.op = 25 := by omega
    have hop : i.op = 25 := by have hcl := HCL.out; rw [HPE.out, HAT.out] at hcl; exact hcl.2
    clear HGT HPE hys hyp hat HRN HRS HALL HH HOK HV HPLN HI hpl hi1 hop17 HAT HM hih HCL
    obtain ⟨kb, hkb⟩ : ∃ b, decide (k < 256) = b := ⟨_, rfl⟩
    have hkb2 : decide ((k : Int) < 256) = kb := by rw [← hkb]; congr 1; apply propext; omega
    cases kb
    all_goals
      obtain ⟨iop, ia, ib, ic, id, ik⟩ := i
      go_upto_region 14 with (fail)
      clear c0 c1 c2 c3 c4 c5 c6 c7 c8 c9 c10 c11 c12 c13 cl
      clear g0 g1 g2 g3 g4 g5
      have hba := Below.refl wr.heap.size wr
      have hba2 := hba.alloc (Nat.le_refl _) (.cells (inC ⟨iop, ia, ib, ic, id, ik⟩) 50)
      have HI7 := Lib.hid (Lies.made wr 50 (inC ⟨iop, ia, ib, ic, id, ik⟩))
      have HN7 : Hid (w.heap.size + 1 + 1 < wr.heap.size) := H5.out.lt
      replace HG := Lib.hid (HG.out.below hba2 HG.out.lt)
      replace H4 := Lib.hid (H4.out.below hba2 H4.out.lt)
      replace H5 := Lib.hid (H5.out.below hba2 H5.out.lt)
      replace HB := Lib.hid (HB.out.trans (hba2.mono HB.out.size))
      clear hba hba2
      generalize hw9 : wr.alloc (.cells (inC ⟨iop, ia, ib, ic, id, ik⟩) 50) = w9 at *
      generalize hn7 : wr.heap.size = n7 at *
      clear hw9 hn7
      clear hkb hkb2 d2 d2n d3 d4 d4n
      have hop : iop = 25 := hop
      subst hop
      have HRE : Hid (reqA l (Th.mk (pn : Int) yp yr ys yt yg yn) = noneA 8) := by
        show _ = _
        rw [HRV.out]
        rfl
      clear HRV
      have c0 := (HG.out.cell 0).trans (show _ = some (Value.int .i64 (Th.mk (pn : Int) yp yr ys yt yg yn).at_) from rfl)
      have c1 := (HG.out.cell 1).trans (show _ = some (Value.int .i64 (Th.mk (pn : Int) yp yr ys yt yg yn).ph) from rfl)
      have c2 := (HG.out.cell 2).trans (show _ = some (Value.int .i64 (Th.mk (pn : Int) yp yr ys yt yg yn).rg) from rfl)
      have c3 := (HG.out.cell 3).trans (show _ = some (Value.int .i64 (Th.mk (pn : Int) yp yr ys yt yg yn).st) from rfl)
      have c4 := (HG.out.cell 4).trans (show _ = some (Value.int .u64 ((Th.mk (pn : Int) yp yr ys yt yg yn).tk : Int)) from rfl)
      have c5 := (HG.out.cell 5).trans (show _ = some (Value.int .u64 ((Th.mk (pn : Int) yp yr ys yt yg yn).r 0 : Int)) from rfl)
      have c6 := (HG.out.cell 6).trans (show _ = some (Value.int .u64 ((Th.mk (pn : Int) yp yr ys yt yg yn).r 1 : Int)) from rfl)
      have c7 := (HG.out.cell 7).trans (show _ = some (Value.int .u64 ((Th.mk (pn : Int) yp yr ys yt yg yn).r 2 : Int)) from rfl)
      have c8 := (HG.out.cell 8).trans (show _ = some (Value.int .u64 ((Th.mk (pn : Int) yp yr ys yt yg yn).r 3 : Int)) from rfl)
      have c9 := (HG.out.cell 9).trans (show _ = some (Value.int .u64 ((Th.mk (pn : Int) yp yr ys yt yg yn).r 4 : Int)) from rfl)
      have c10 := (HG.out.cell 10).trans (show _ = some (Value.int .u64 ((Th.mk (pn : Int) yp yr ys yt yg yn).r 5 : Int)) from rfl)
      have c11 := (HG.out.cell 11).trans (show _ = some (Value.int .u64 ((Th.mk (pn : Int) yp yr ys yt yg yn).r 6 : Int)) from rfl)
      have c12 := (HG.out.cell 12).trans (show _ = some (Value.int .u64 ((Th.mk (pn : Int) yp yr ys yt yg yn).r 7 : Int)) from rfl)
      have c13 := (HG.out.cell 13).trans (show _ = some (v) from rfl)
      have cl := HG.out.lt
      have d0 := (HI7.out.cell 0).trans (show _ = some (Value.int .i64 25) from rfl)
      have dl := HI7.out.lt
      go_wp2_with (
        refine wpList_store_row rfl 27 _ _ rfl (w.heap.size + 1) (thC (Th.mk (pn : Int) yp yr ys yt yg yn) v) rfl rfl 27 thZ H4.out infoTh rfl (HONE.out (Th.mk (pn : Int) yp yr ys yt yg yn)) ?_
        clear c0 c1 c2 c3 c4 c5 c6 c7 c8 c9 c10 c11 c12 c13 cl
        have HB2 := Lib.hid (HB.out.trans ((kept_rowT (w := w9) (g := w.heap.size + 1) (thC (Th.mk (pn : Int) yp yr ys yt yg yn) v)).below HB.out.size (fun k hk (e : k = w.heap.size + 1) => by omega)))
        have Q4A := Lib.hid (lies_row H4.out (thC (Th.mk (pn : Int) yp yr ys yt yg yn) v))
        have H5A := Lib.hid (H5.out.kept (kept_rowT (w := w9) (g := w.heap.size + 1) (thC (Th.mk (pn : Int) yp yr ys yt yg yn) v)) (fun (e : w.heap.size + 1 + 1 = w.heap.size + 1) => by omega))
        generalize w9.setRow (w.heap.size + 1) (thC (Th.mk (pn : Int) yp yr ys yt yg yn) v) = wD at *
        go_wp2_with (
          refine wpList_store_row rfl 37 _ _ rfl (w.heap.size + 1 + 1) (akC (noneA 8)) rfl rfl 37 akZ H5A.out infoAk2 rfl (akC_one _) ?_
          have HBZ := Lib.hid (HB2.out.trans ((kept_rowT (w := wD) (g := w.heap.size + 1 + 1) (akC (noneA 8))).below HB2.out.size (fun k hk (e : k = w.heap.size + 1 + 1) => by omega)))
          have Q5 := Lib.hid (lies_row H5A.out (akC (noneA 8)))
          have Q4 := Lib.hid (Q4A.out.kept (kept_rowT (w := wD) (g := w.heap.size + 1 + 1) (akC (noneA 8))) (fun (e : w.heap.size + 1 = w.heap.size + 1 + 1) => by omega))
          generalize wD.setRow (w.heap.size + 1 + 1) (akC (noneA 8)) = wE at *
          clear HB2 Q4A H5A
          replace Q5 : Hid (Lies wE (w.heap.size + 1 + 1) 37 (akC (reqA l (Th.mk (pn : Int) yp yr ys yt yg yn)))) := by show Lies _ _ _ _; rw [HRE.out]; exact Q5.out
          clear HRE H4 H5 HG HB HONE
          generalize hzz : reqA l (Th.mk (pn : Int) yp yr ys yt yg yn) = z at *
          have HZE := Lib.hid hzz
          clear hzz
          have z0 := (Q4.out.cell 0).trans (show _ = some (Value.int .i64 (Th.mk (pn : Int) yp yr ys yt yg yn).at_) from rfl)
          have z1 := (Q4.out.cell 1).trans (show _ = some (Value.int .i64 (Th.mk (pn : Int) yp yr ys yt yg yn).ph) from rfl)
          have z2 := (Q4.out.cell 2).trans (show _ = some (Value.int .i64 (Th.mk (pn : Int) yp yr ys yt yg yn).rg) from rfl)
          have z3 := (Q4.out.cell 3).trans (show _ = some (Value.int .i64 (Th.mk (pn : Int) yp yr ys yt yg yn).st) from rfl)
          have z4 := (Q4.out.cell 4).trans (show _ = some (Value.int .u64 ((Th.mk (pn : Int) yp yr ys yt yg yn).tk : Int)) from rfl)
          have z5 := (Q4.out.cell 5).trans (show _ = some (Value.int .u64 ((Th.mk (pn : Int) yp yr ys yt yg yn).r 0 : Int)) from rfl)
          have z6 := (Q4.out.cell 6).trans (show _ = some (Value.int .u64 ((Th.mk (pn : Int) yp yr ys yt yg yn).r 1 : Int)) from rfl)
          have z7 := (Q4.out.cell 7).trans (show _ = some (Value.int .u64 ((Th.mk (pn : Int) yp yr ys yt yg yn).r 2 : Int)) from rfl)
          have z8 := (Q4.out.cell 8).trans (show _ = some (Value.int .u64 ((Th.mk (pn : Int) yp yr ys yt yg yn).r 3 : Int)) from rfl)
          have z9 := (Q4.out.cell 9).trans (show _ = some (Value.int .u64 ((Th.mk (pn : Int) yp yr ys yt yg yn).r 4 : Int)) from rfl)
          have z10 := (Q4.out.cell 10).trans (show _ = some (Value.int .u64 ((Th.mk (pn : Int) yp yr ys yt yg yn).r 5 : Int)) from rfl)
          have z11 := (Q4.out.cell 11).trans (show _ = some (Value.int .u64 ((Th.mk (pn : Int) yp yr ys yt yg yn).r 6 : Int)) from rfl)
          have z12 := (Q4.out.cell 12).trans (show _ = some (Value.int .u64 ((Th.mk (pn : Int) yp yr ys yt yg yn).r 7 : Int)) from rfl)
          have z13 := (Q4.out.cell 13).trans (show _ = some (v) from rfl)
          have zl := Q4.out.lt
          have k0 := (Q5.out.cell 0).trans (show _ = some (.int .i64 z.kd) from rfl)
          have k1 := (Q5.out.cell 1).trans (show _ = some (.int .i64 z.rg) from rfl)
          have k2 := (Q5.out.cell 2).trans (show _ = some (.int .i64 z.md) from rfl)
          have k3 := (Q5.out.cell 3).trans (show _ = some (.int .i64 z.rd) from rfl)
          have k4 := (Q5.out.cell 4).trans (show _ = some (.int .u64 (z.tk : Int)) from rfl)
          have k5 := (Q5.out.cell 5).trans (show _ = some (.int .u64 (z.vl : Int)) from rfl)
          go_wp2
          exact bodyPost_ret (v := .tuple #[.agg (thC (Th.mk (pn : Int) yp yr ys yt yg yn) v), .agg (akC z)]) (by simp [results, Try.results15, go_sem, z0, z1, z2, z3, z4, z5, z6, z7, z8, z9, z10, z11, z12, z13, k0, k1, k2, k3, k4, k5]) rfl ⟨by rw [HYE.out, HZE.out], HBZ.out⟩))
end Go.Proofs.Ytiegmpjoiekekaa
