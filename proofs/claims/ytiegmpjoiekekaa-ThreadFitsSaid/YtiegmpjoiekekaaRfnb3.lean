import Derived.Test.YtiegmpjoiekekaaRfnh
/-
  Up to what is seen (layer 16): the document's Next, of a thread that runs.
-/
namespace Go.Proofs.Ytiegmpjoiekekaa
open Go.RowKit
set_option linter.unusedVariables false
set_option linter.unusedSimpArgs false
set_option maxHeartbeats 8000000 in
set_option maxRecDepth 100000 in
theorem rfNextDE (l : List In) (A : Option Addr) (c : Nat) (x : Th) (v : Value) (w : World) (h : InsAt w A c l) (hok : ∀ i ∈ l, inOk i) (hx : thOk x) (hv : v.oneCell' = true) (hr : thB l x = true) (h1 : x.st = 0) (h2 : x.ph = 0) (hcl : (goT l 256 x).at_ = (l.length : Int)) :
    Calls Try.prog 15 #[.slice A l.length c, .agg (thC x v)] w fun e w' => e = .returned (.tuple #[.agg (thC (nxT l x) v), .agg (akC (reqA l (nxT l x)))]) ∧ Below w.heap.size w w' := by
  obtain ⟨hc1, hc2⟩ := seq_form h
  have hb3 : Below w.heap.size w (((w.alloc (.cells (thC x v) 27)).alloc (.cells thZ 27)).alloc (.cells akZ 37)) := (((Below.refl _ _).alloc (Nat.le_refl _) _).alloc (by simp) _).alloc (by simp; omega) _
  have l1 := ((Lies.made w 27 (thC x v)).alloc (.cells thZ 27)).alloc (.cells akZ 37)
  have l2 := (Lies.made (w.alloc (.cells (thC x v) 27)) 27 thZ).alloc (.cells akZ 37)
  have l3 := Lies.made ((w.alloc (.cells (thC x v) 27)).alloc (.cells thZ 27)) 37 akZ
  rw [show (w.alloc (.cells (thC x v) 27)).heap.size = w.heap.size + 1 by simp] at l2
  rw [show ((w.alloc (.cells (thC x v) 27)).alloc (.cells thZ 27)).heap.size = w.heap.size + 1 + 1 by simp] at l3
  have HB := Lib.hid hb3
  have HG := Lib.hid l1
  have H4 := Lib.hid l2
  have H5 := Lib.hid l3
  have HONE := Lib.hid (fun z => thC_one z hv)
  obtain ⟨hc, hin, hp⟩ := thB_parts hr
  clear hb3 l1 l2 l3
  have e0 : (x.st != 0) = false := by rw [bne_eq_false_iff_eq]; exact h1
  have e1 : (x.ph == 1) = false := by rw [beq_eq_false_iff_ne]; omega
  have e2 : (x.ph == 2) = false := by rw [beq_eq_false_iff_ne]; omega
  have HRN := Lib.hid (nxT_run (l := l) h1 h2)
  have HX := Lib.hid (thB_inv hr hx)
  have HRS : Hid (∀ y : Th, goT l 256 x = y → y.st = 0 ∧ y.ph = 0) := fun y e => by
    obtain ⟨q1, q2, q3, q4, q5⟩ := goT_rest l 256 x
    rw [← e]; exact ⟨q3.trans h1, q1.trans h2⟩
  have HALL := Lib.hid (codeB_parts hc).2
  have hlen := (codeB_parts hc).1
  have HH := Lib.hid (fun (q : World) (hq : Below w.heap.size w q) => h.later hq)
  have HOK := Lib.hid hok
  have HV := Lib.hid hv
  have HCL := Lib.hid hcl
  clear hcl
  have HPLN := Lib.hid (fun y i q hq a b c2 d e f g hx hk => rfPlain16 l A c y v i q hq a b c2 d e f g hx hk hv)
  clear h1 h2 hr hc hin hp h hok hx hv
  go_enter Try.func15, Try.ntmps15
  go_upto_region 1 with (fail)
  generalize (((w.alloc (.cells (thC x v) 27)).alloc (.cells thZ 27)).alloc (.cells akZ 37)) = w1 at *
  have c0 := (HG.out.cell 0).trans (show _ = some (Value.int .i64 x.at_) from rfl)
  have c1 := (HG.out.cell 1).trans (show _ = some (Value.int .i64 x.ph) from rfl)
  have c2 := (HG.out.cell 2).trans (show _ = some (Value.int .i64 x.rg) from rfl)
  have c3 := (HG.out.cell 3).trans (show _ = some (Value.int .i64 x.st) from rfl)
  have c4 := (HG.out.cell 4).trans (show _ = some (Value.int .u64 (x.tk : Int)) from rfl)
  have c5 := (HG.out.cell 5).trans (show _ = some (Value.int .u64 (x.r 0 : Int)) from rfl)
  have c6 := (HG.out.cell 6).trans (show _ = some (Value.int .u64 (x.r 1 : Int)) from rfl)
  have c7 := (HG.out.cell 7).trans (show _ = some (Value.int .u64 (x.r 2 : Int)) from rfl)
  have c8 := (HG.out.cell 8).trans (show _ = some (Value.int .u64 (x.r 3 : Int)) from rfl)
  have c9 := (HG.out.cell 9).trans (show _ = some (Value.int .u64 (x.r 4 : Int)) from rfl)
  have c10 := (HG.out.cell 10).trans (show _ = some (Value.int .u64 (x.r 5 : Int)) from rfl)
  have c11 := (HG.out.cell 11).trans (show _ = some (Value.int .u64 (x.r 6 : Int)) from rfl)
  have c12 := (HG.out.cell 12).trans (show _ = some (Value.int .u64 (x.r 7 : Int)) from rfl)
  have c13 := (HG.out.cell 13).trans (show _ = some (v) from rfl)
  have cl := HG.out.lt
  go_wp2_with fail
  clear c0 c1 c2 c3 c4 c5 c6 c7 c8 c9 c10 c11 c12 c13 cl
  clear e0 e1 e2
  go_loopw [6] (fun u wr => ∃ (k : Nat) (y : Th), k ≤ 256 ∧ u = .int .i64 k ∧ Hid (goT l 256 x = goT l (256 - k) y) ∧ Hid (InvT l y) ∧ Hid (Lies wr w.heap.size 27 (thC y v)) ∧ Hid (Lies wr (w.heap.size + 1) 27 thZ) ∧ Hid (Lies wr (w.heap.size + 1 + 1) 37 akZ) ∧ Hid (Below w.heap.size w wr)) (fun u _ => 256 - (intOf u).toNat)
  case atStart => exact ⟨0, x, by omega, rfl, Lib.hid rfl, HX, HG, H4, H5, HB⟩
  case round =>
    clear HG H4 H5 HB HX
    obtain ⟨k, y, hk, rfl, HGT, HI, HG, H4, H5, HB⟩ := hrel
    obtain ⟨ya, yp, yr, ys, yt, yg, yn⟩ := y
    obtain ⟨pn, hpn⟩ : ∃ n : Nat, ya = n := ⟨ya.toNat, by have := HI.out.1; have : 0 ≤ ya := this; omega⟩
    subst hpn
    have hpl : (pn : Int) ≤ (l.length : Int) := HI.out.2.1
    have c0 := (HG.out.cell 0).trans (show _ = some (Value.int .i64 (Th.mk (pn : Int) yp yr ys yt yg yn).at_) from rfl)
    have c1 := (HG.out.cell 1).trans (show _ = some (Value.int .i64 (Th.mk (pn : Int) yp yr ys yt yg yn).ph) from rfl)
    have c2 := (HG.out.cell 2).trans (show _ = some (Value.int .i64 (Th.mk (pn : Int) yp yr ys yt yg yn).rg) from rfl)
    have c3 := (HG.out.cell 3).trans (show _ = some (Value.int .i64 (Th.mk (pn : Int) yp yr ys yt yg yn).st) from rfl)
    have c4 := (HG.out.cell 4).trans (show _ = some (Value.int .u64 ((Th.mk (pn : Int) yp yr ys yt yg yn).tk : Int)) from rfl)
    have c5 := (HG.out.cell 5).trans (show _ = some (Value.int .u64 ((Th.mk (pn : Int) yp yr ys yt yg yn).r 0 : Int)) from rfl)
    have c6 := (HG.out.cell 6).trans (show _ = some (Value.int .u64 ((Th.mk (pn : Int) yp yr ys yt yg yn).r 1 : Int)) from rfl)
    have c7 := (HG.out.cell 7).trans (show _ = some (Value.int .u64 ((Th.mk (pn : Int) yp yr ys yt yg yn).r 2 : Int)) from rfl)
    have c8 := (HG.out.cell 8).trans (show _ = some (Value.int .u64 ((Th.mk (pn : Int) yp yr ys yt yg yn).r 3 : Int)) from rfl)
    have c9 := (HG.out.cell 9).trans (show _ = some (Value.int .u64 ((Th.mk (pn : Int) yp yr ys yt yg yn).r 4 : Int)) from rfl)
    have c10 := (HG.out.cell 10).trans (show _ = some (Value.int .u64 ((Th.mk (pn : Int) yp yr ys yt yg yn).r 5 : Int)) from rfl)
    have c11 := (HG.out.cell 11).trans (show _ = some (Value.int .u64 ((Th.mk (pn : Int) yp yr ys yt yg yn).r 6 : Int)) from rfl)
    have c12 := (HG.out.cell 12).trans (show _ = some (Value.int .u64 ((Th.mk (pn : Int) yp yr ys yt yg yn).r 7 : Int)) from rfl)
    have c13 := (HG.out.cell 13).trans (show _ = some (v) from rfl)
    have cl := HG.out.lt
    by_cases hat : pn = l.length
    · have d2 : decide ((pn : Int) < (l.length : Int)) = false := decide_eq_false (by omega)
      have d2n : decide (pn < l.length) = false := decide_eq_false (by omega)
      have d4 : ((pn : Int) == (l.length : Int)) = true := by rw [beq_iff_eq]; omega
      have d4n : (pn == l.length) = true := by rw [beq_iff_eq]; exact hat
      have hati : (Th.mk (pn : Int) yp yr ys yt yg yn).at_ = (l.length : Int) := by show (pn : Int) = _; omega
      have HPE : Hid (goT l 256 x = (Th.mk (pn : Int) yp yr ys yt yg yn)) := HGT.out.trans (goT_stop (plT_end hati) _)
      obtain ⟨hys, hyp⟩ := HRS.out _ HPE.out
      have HRE := Lib.hid (reqA_end (l := l) hys hati)
      have HYE := Lib.hid (HRN.out.trans HPE.out)
      -- S1
      clear HGT HPE hys hyp hati hat HRN HRS HALL HH HOK HV HPLN HI hpl HCL
      by_cases hlt : k < 256
      · have d1 : decide ((k : Int) < 256) = true := decide_eq_true (by omega)
        have d1n : decide (k < 256) = true := decide_eq_true hlt
        clear hlt
        go_wp2_with (
          refine wpList_store_row rfl 27 _ _ rfl (w.heap.size + 1) (thC (Th.mk (pn : Int) yp yr ys yt yg yn) v) rfl rfl 27 thZ H4.out infoTh rfl (HONE.out (Th.mk (pn : Int) yp yr ys yt yg yn)) ?_
          clear c0 c1 c2 c3 c4 c5 c6 c7 c8 c9 c10 c11 c12 c13 cl
          have HB2 := Lib.hid (HB.out.trans ((kept_rowT (w := wr) (g := w.heap.size + 1) (thC (Th.mk (pn : Int) yp yr ys yt yg yn) v)).below HB.out.size (fun k hk (e : k = w.heap.size + 1) => by omega)))
          have Q4A := Lib.hid (lies_row H4.out (thC (Th.mk (pn : Int) yp yr ys yt yg yn) v))
          have H5A := Lib.hid (H5.out.kept (kept_rowT (w := wr) (g := w.heap.size + 1) (thC (Th.mk (pn : Int) yp yr ys yt yg yn) v)) (fun (e : w.heap.size + 1 + 1 = w.heap.size + 1) => by omega))
          generalize wr.setRow (w.heap.size + 1) (thC (Th.mk (pn : Int) yp yr ys yt yg yn) v) = wD at *
          go_wp2_with (
            refine wpList_store_row rfl 37 _ _ rfl (w.heap.size + 1 + 1) (akC (noneA 8)) rfl rfl 37 akZ H5A.out infoAk2 rfl (akC_one _) ?_
            have HBZ := Lib.hid (HB2.out.trans ((kept_rowT (w := wD) (g := w.heap.size + 1 + 1) (akC (noneA 8))).below HB2.out.size (fun k hk (e : k = w.heap.size + 1 + 1) => by omega)))
            have Q5 := Lib.hid (lies_row H5A.out (akC (noneA 8)))
            have Q4 := Lib.hid (Q4A.out.kept (kept_rowT (w := wD) (g := w.heap.size + 1 + 1) (akC (noneA 8))) (fun (e : w.heap.size + 1 = w.heap.size + 1 + 1) => by omega))
            generalize wD.setRow (w.heap.size + 1 + 1) (akC (noneA 8)) = wE at *
            clear HB2 Q4A H5A
            replace Q5 : Hid (Lies wE (w.heap.size + 1 + 1) 37 (akC (reqA l (Th.mk (pn : Int) yp yr ys yt yg yn)))) := by show Lies _ _ _ _; rw [HRE.out]; exact Q5.out
            clear HRE H4 H5 HG HB HONE
            generalize hzz : reqA l (Th.mk (pn : Int) yp yr ys yt yg yn) = z at *
            have HZE := Lib.hid hzz
            clear hzz
            have z0 := (Q4.out.cell 0).trans (show _ = some (Value.int .i64 (Th.mk (pn : Int) yp yr ys yt yg yn).at_) from rfl)
            have z1 := (Q4.out.cell 1).trans (show _ = some (Value.int .i64 (Th.mk (pn : Int) yp yr ys yt yg yn).ph) from rfl)
            have z2 := (Q4.out.cell 2).trans (show _ = some (Value.int .i64 (Th.mk (pn : Int) yp yr ys yt yg yn).rg) from rfl)
            have z3 := (Q4.out.cell 3).trans (show _ = some (Value.int .i64 (Th.mk (pn : Int) yp yr ys yt yg yn).st) from rfl)
            have z4 := (Q4.out.cell 4).trans (show _ = some (Value.int .u64 ((Th.mk (pn : Int) yp yr ys yt yg yn).tk : Int)) from rfl)
            have z5 := (Q4.out.cell 5).trans (show _ = some (Value.int .u64 ((Th.mk (pn : Int) yp yr ys yt yg yn).r 0 : Int)) from rfl)
            have z6 := (Q4.out.cell 6).trans (show _ = some (Value.int .u64 ((Th.mk (pn : Int) yp yr ys yt yg yn).r 1 : Int)) from rfl)
            have z7 := (Q4.out.cell 7).trans (show _ = some (Value.int .u64 ((Th.mk (pn : Int) yp yr ys yt yg yn).r 2 : Int)) from rfl)
            have z8 := (Q4.out.cell 8).trans (show _ = some (Value.int .u64 ((Th.mk (pn : Int) yp yr ys yt yg yn).r 3 : Int)) from rfl)
            have z9 := (Q4.out.cell 9).trans (show _ = some (Value.int .u64 ((Th.mk (pn : Int) yp yr ys yt yg yn).r 4 : Int)) from rfl)
            have z10 := (Q4.out.cell 10).trans (show _ = some (Value.int .u64 ((Th.mk (pn : Int) yp yr ys yt yg yn).r 5 : Int)) from rfl)
            have z11 := (Q4.out.cell 11).trans (show _ = some (Value.int .u64 ((Th.mk (pn : Int) yp yr ys yt yg yn).r 6 : Int)) from rfl)
            have z12 := (Q4.out.cell 12).trans (show _ = some (Value.int .u64 ((Th.mk (pn : Int) yp yr ys yt yg yn).r 7 : Int)) from rfl)
            have z13 := (Q4.out.cell 13).trans (show _ = some (v) from rfl)
            have zl := Q4.out.lt
            have k0 := (Q5.out.cell 0).trans (show _ = some (.int .i64 z.kd) from rfl)
            have k1 := (Q5.out.cell 1).trans (show _ = some (.int .i64 z.rg) from rfl)
            have k2 := (Q5.out.cell 2).trans (show _ = some (.int .i64 z.md) from rfl)
            have k3 := (Q5.out.cell 3).trans (show _ = some (.int .i64 z.rd) from rfl)
            have k4 := (Q5.out.cell 4).trans (show _ = some (.int .u64 (z.tk : Int)) from rfl)
            have k5 := (Q5.out.cell 5).trans (show _ = some (.int .u64 (z.vl : Int)) from rfl)
            go_wp2
            exact bodyPost_ret (v := .tuple #[.agg (thC (Th.mk (pn : Int) yp yr ys yt yg yn) v), .agg (akC z)]) (by simp [results, Try.results15, go_sem, z0, z1, z2, z3, z4, z5, z6, z7, z8, z9, z10, z11, z12, z13, k0, k1, k2, k3, k4, k5]) rfl ⟨by rw [HYE.out, HZE.out], HBZ.out⟩))
      · have d1 : decide ((k : Int) < 256) = false := decide_eq_false (by omega)
        have d1n : decide (k < 256) = false := decide_eq_false hlt
        clear hlt
        go_wp2_with (
          refine wpList_store_row rfl 27 _ _ rfl (w.heap.size + 1) (thC (Th.mk (pn : Int) yp yr ys yt yg yn) v) rfl rfl 27 thZ H4.out infoTh rfl (HONE.out (Th.mk (pn : Int) yp yr ys yt yg yn)) ?_
          clear c0 c1 c2 c3 c4 c5 c6 c7 c8 c9 c10 c11 c12 c13 cl
          have HB2 := Lib.hid (HB.out.trans ((kept_rowT (w := wr) (g := w.heap.size + 1) (thC (Th.mk (pn : Int) yp yr ys yt yg yn) v)).below HB.out.size (fun k hk (e : k = w.heap.size + 1) => by omega)))
          have Q4A := Lib.hid (lies_row H4.out (thC (Th.mk (pn : Int) yp yr ys yt yg yn) v))
          have H5A := Lib.hid (H5.out.kept (kept_rowT (w := wr) (g := w.heap.size + 1) (thC (Th.mk (pn : Int) yp yr ys yt yg yn) v)) (fun (e : w.heap.size + 1 + 1 = w.heap.size + 1) => by omega))
          generalize wr.setRow (w.heap.size + 1) (thC (Th.mk (pn : Int) yp yr ys yt yg yn) v) = wD at *
          go_wp2_with (
            refine wpList_store_row rfl 37 _ _ rfl (w.heap.size + 1 + 1) (akC (noneA 8)) rfl rfl 37 akZ H5A.out infoAk2 rfl (akC_one _) ?_
            have HBZ := Lib.hid (HB2.out.trans ((kept_rowT (w := wD) (g := w.heap.size + 1 + 1) (akC (noneA 8))).below HB2.out.size (fun k hk (e : k = w.heap.size + 1 + 1) => by omega)))
            have Q5 := Lib.hid (lies_row H5A.out (akC (noneA 8)))
            have Q4 := Lib.hid (Q4A.out.kept (kept_rowT (w := wD) (g := w.heap.size + 1 + 1) (akC (noneA 8))) (fun (e : w.heap.size + 1 = w.heap.size + 1 + 1) => by omega))
            generalize wD.setRow (w.heap.size + 1 + 1) (akC (noneA 8)) = wE at *
            clear HB2 Q4A H5A
            replace Q5 : Hid (Lies wE (w.heap.size + 1 + 1) 37 (akC (reqA l (Th.mk (pn : Int) yp yr ys yt yg yn)))) := by show Lies _ _ _ _; rw [HRE.out]; exact Q5.out
            clear HRE H4 H5 HG HB HONE
            generalize hzz : reqA l (Th.mk (pn : Int) yp yr ys yt yg yn) = z at *
            have HZE := Lib.hid hzz
            clear hzz
            have z0 := (Q4.out.cell 0).trans (show _ = some (Value.int .i64 (Th.mk (pn : Int) yp yr ys yt yg yn).at_) from rfl)
            have z1 := (Q4.out.cell 1).trans (show _ = some (Value.int .i64 (Th.mk (pn : Int) yp yr ys yt yg yn).ph) from rfl)
            have z2 := (Q4.out.cell 2).trans (show _ = some (Value.int .i64 (Th.mk (pn : Int) yp yr ys yt yg yn).rg) from rfl)
            have z3 := (Q4.out.cell 3).trans (show _ = some (Value.int .i64 (Th.mk (pn : Int) yp yr ys yt yg yn).st) from rfl)
            have z4 := (Q4.out.cell 4).trans (show _ = some (Value.int .u64 ((Th.mk (pn : Int) yp yr ys yt yg yn).tk : Int)) from rfl)
            have z5 := (Q4.out.cell 5).trans (show _ = some (Value.int .u64 ((Th.mk (pn : Int) yp yr ys yt yg yn).r 0 : Int)) from rfl)
            have z6 := (Q4.out.cell 6).trans (show _ = some (Value.int .u64 ((Th.mk (pn : Int) yp yr ys yt yg yn).r 1 : Int)) from rfl)
            have z7 := (Q4.out.cell 7).trans (show _ = some (Value.int .u64 ((Th.mk (pn : Int) yp yr ys yt yg yn).r 2 : Int)) from rfl)
            have z8 := (Q4.out.cell 8).trans (show _ = some (Value.int .u64 ((Th.mk (pn : Int) yp yr ys yt yg yn).r 3 : Int)) from rfl)
            have z9 := (Q4.out.cell 9).trans (show _ = some (Value.int .u64 ((Th.mk (pn : Int) yp yr ys yt yg yn).r 4 : Int)) from rfl)
            have z10 := (Q4.out.cell 10).trans (show _ = some (Value.int .u64 ((Th.mk (pn : Int) yp yr ys yt yg yn).r 5 : Int)) from rfl)
            have z11 := (Q4.out.cell 11).trans (show _ = some (Value.int .u64 ((Th.mk (pn : Int) yp yr ys yt yg yn).r 6 : Int)) from rfl)
            have z12 := (Q4.out.cell 12).trans (show _ = some (Value.int .u64 ((Th.mk (pn : Int) yp yr ys yt yg yn).r 7 : Int)) from rfl)
            have z13 := (Q4.out.cell 13).trans (show _ = some (v) from rfl)
            have zl := Q4.out.lt
            have k0 := (Q5.out.cell 0).trans (show _ = some (.int .i64 z.kd) from rfl)
            have k1 := (Q5.out.cell 1).trans (show _ = some (.int .i64 z.rg) from rfl)
            have k2 := (Q5.out.cell 2).trans (show _ = some (.int .i64 z.md) from rfl)
            have k3 := (Q5.out.cell 3).trans (show _ = some (.int .i64 z.rd) from rfl)
            have k4 := (Q5.out.cell 4).trans (show _ = some (.int .u64 (z.tk : Int)) from rfl)
            have k5 := (Q5.out.cell 5).trans (show _ = some (.int .u64 (z.vl : Int)) from rfl)
            go_wp2
            exact bodyPost_ret (v := .tuple #[.agg (thC (Th.mk (pn : Int) yp yr ys yt yg yn) v), .agg (akC z)]) (by simp [results, Try.results15, go_sem, z0, z1, z2, z3, z4, z5, z6, z7, z8, z9, z10, z11, z12, z13, k0, k1, k2, k3, k4, k5]) rfl ⟨by rw [HYE.out, HZE.out], HBZ.out⟩))
    -- S1E
    have hpl2 : pn < l.length := by omega
    have hal : (pn : Int) < (l.length : Int) := by omega
    have d2 : decide ((pn : Int) < (l.length : Int)) = true := decide_eq_true hal
    have d2n : decide (pn < l.length) = true := decide_eq_true hpl2
    have d4 : ((pn : Int) == (l.length : Int)) = false := by rw [beq_eq_false_iff_ne]; omega
    have d4n : (pn == l.length) = false := by rw [beq_eq_false_iff_ne]; exact hat
    have hat : (Th.mk (pn : Int) yp yr ys yt yg yn).at_ ≠ (l.length : Int) := by show (pn : Int) ≠ _; omega
    obtain ⟨i, hi⟩ : ∃ i, l[pn]? = some i := ⟨_, List.getElem?_eq_getElem hpl2⟩
    have HAT := Lib.hid (atT_get (x := (Th.mk (pn : Int) yp yr ys yt yg yn)) rfl hi)
    have HM := Lib.hid (List.mem_of_getElem? hi)
    have HR := Lib.hid (HALL.out i HM.out).1
    have hi1 := right_op1 HR.out
    have hih := HH.out _ HB.out
    obtain ⟨b, off, rfl, hbl, hg⟩ := InsAt.at_ hih hi
    have HG1 := Lib.hid hg
    clear hg hi hbl
    have g0 := HG1.out 0 _ (by decide) rfl
    have g1 := HG1.out 1 _ (by decide) rfl
    have g2 := HG1.out 2 _ (by decide) rfl
    have g3 := HG1.out 3 _ (by decide) rfl
    have g4 := HG1.out 4 _ (by decide) rfl
    have g5 := HG1.out 5 _ (by decide) rfl
    rw [Nat.add_zero] at g0
    clear HG1
    by_cases hop17 : i.op ≤ 17
    · have d3 : decide (i.op ≤ 17) = true := decide_eq_true hop17
      by_cases hlt : k < 256
      · have d1 : decide ((k : Int) < 256) = true := decide_eq_true (by omega)
        have d1n : decide (k < 256) = true := decide_eq_true hlt
        have HST := Lib.hid (fun q hq => HPLN.out (Th.mk (pn : Int) yp yr ys yt yg yn) i q hq (show (0:Int) ≤ (pn : Int) by omega) hal hlen HAT.out HR.out hi1.1 hop17 HI.out.2.2 (HOK.out i HM.out).2.2.2.2.2)
        have HI2 := Lib.hid (step_inv (i := i) HI.out hal (HOK.out i HM.out).2.2.2.2.2 (HALL.out i HM.out).2)
        have HGT2 : Hid (goT l 256 x = goT l (256 - (k + 1)) (stepT i (Th.mk (pn : Int) yp yr ys yt yg yn))) := by
          have := goT_step (plT_in HAT.out hal hi1.1 hop17) (256 - (k + 1))
          rw [show 256 - (k + 1) + 1 = 256 - k by omega, HAT.out] at this
          exact HGT.out.trans this
        have HIH := Lib.hid hih
        clear HGT HI HAT HM HR hi1 hih hop17 HRN HRS HALL HOK HV HPLN hat
        go_wp2_with fail
        clear c0 c1 c2 c3 c4 c5 c6 c7 c8 c9 c10 c11 c12 c13 cl
        clear g0 g1 g2 g3 g4 g5 d2 d2n d3 d4 d4n
        refine (HST.out _ HIH.out).mono ?_
        rintro e w4 ⟨rfl, hbm⟩
        replace HG := Lib.hid (HG.out.below hbm HG.out.lt)
        replace H4 := Lib.hid (H4.out.below hbm H4.out.lt)
        replace H5 := Lib.hid (H5.out.below hbm H5.out.lt)
        replace HB := Lib.hid (HB.out.trans (hbm.mono HB.out.size))
        clear hbm HST HIH
        generalize stepT i (Th.mk (pn : Int) yp yr ys yt yg yn) = z at *
        have HG4 := Lib.hid (lies_row HG.out (thC z v))
        have hk4 := kept_rowT (w := w4) (g := w.heap.size) (thC z v)
        have H44 := Lib.hid (H4.out.kept hk4 (fun (e : w.heap.size + 1 = w.heap.size) => by omega))
        have H54 := Lib.hid (H5.out.kept hk4 (fun (e : w.heap.size + 1 + 1 = w.heap.size) => by omega))
        have HB4 := Lib.hid (HB.out.trans (hk4.below HB.out.size (fun k hk (e : k = w.heap.size) => by omega)))
        clear hk4
        go_wp2_with (
          refine wpList_store_row rfl 27 _ _ rfl (w.heap.size) (thC z v) rfl rfl 27 (thC (Th.mk (pn : Int) yp yr ys yt yg yn) v) HG.out infoTh rfl (HONE.out z) ?_
          clear HG H4 H5 HB
          generalize w4.setRow (w.heap.size) (thC z v) = w5 at *
          go_wp2
          go_roundw
          case rel => exact ⟨k + 1, z, by omega, by go_num, HGT2, HI2, HG4, H44, H54, HB4⟩
          case measure => simp [intOf]; omega)
      · have d1 : decide ((k : Int) < 256) = false := decide_eq_false (by omega)
        have d1n : decide (k < 256) = false := decide_eq_false hlt
        obtain rfl : k = 256 := by omega
        have HPE : Hid (goT l 256 x = (Th.mk (pn : Int) yp yr ys yt yg yn)) := HGT.out
        obtain ⟨hys, hyp⟩ := HRS.out _ HPE.out
        have HRE := Lib.hid (reqA_spin (l := l) hys hyp hat HAT.out hi1.1 hop17)
        have HYE := Lib.hid (HRN.out.trans HPE.out)
        exfalso
        have hcl := HCL.out
        rw [HPE.out] at hcl
        exact hat hcl
    -- S2E
    have d3 : decide (i.op ≤ 17) = false := decide_eq_false hop17
    have HPE : Hid (goT l 256 x = (Th.mk (pn : Int) yp yr ys yt yg yn)) := HGT.out.trans (goT_stop (plT_out HAT.out (by omega)) _)
    obtain ⟨hys, hyp⟩ := HRS.out _ HPE.out
    have HRV := Lib.hid (reqA_vis (l := l) hys hyp hat HAT.out (by omega))
    have HYE := Lib.hid (HRN.out.trans HPE.out)
    have hops : i.op = 18 ∨ i.op = 19 ∨ i.op = 20 ∨ i.op = 21 ∨ i.op = 22 ∨ i.op = 23 ∨ i.op = 24 ∨ i.op = 25 := by omega
    exfalso
    have hcl := HCL.out
    rw [HPE.out] at hcl
    exact hat hcl
set_option maxHeartbeats 8000000 in
set_option maxRecDepth 100000 in
theorem rfNextDS (l : List In) (A : Option Addr) (c : Nat) (x : Th) (v : Value) (w : World) (h : InsAt w A c l) (hok : ∀ i ∈ l, inOk i) (hx : thOk x) (hv : v.oneCell' = true) (hr : thB l x = true) (h1 : x.st = 0) (h2 : x.ph = 0) (hcl : (goT l 256 x).at_ ≠ (l.length : Int) ∧ (atT l (goT l 256 x)).op ≤ 17) :
    Calls Try.prog 15 #[.slice A l.length c, .agg (thC x v)] w fun e w' => e = .returned (.tuple #[.agg (thC (nxT l x) v), .agg (akC (reqA l (nxT l x)))]) ∧ Below w.heap.size w w' := by
  obtain ⟨hc1, hc2⟩ := seq_form h
  have hb3 : Below w.heap.size w (((w.alloc (.cells (thC x v) 27)).alloc (.cells thZ 27)).alloc (.cells akZ 37)) := (((Below.refl _ _).alloc (Nat.le_refl _) _).alloc (by simp) _).alloc (by simp; omega) _
  have l1 := ((Lies.made w 27 (thC x v)).alloc (.cells thZ 27)).alloc (.cells akZ 37)
  have l2 := (Lies.made (w.alloc (.cells (thC x v) 27)) 27 thZ).alloc (.cells akZ 37)
  have l3 := Lies.made ((w.alloc (.cells (thC x v) 27)).alloc (.cells thZ 27)) 37 akZ
  rw [show (w.alloc (.cells (thC x v) 27)).heap.size = w.heap.size + 1 by simp] at l2
  rw [show ((w.alloc (.cells (thC x v) 27)).alloc (.cells thZ 27)).heap.size = w.heap.size + 1 + 1 by simp] at l3
  have HB := Lib.hid hb3
  have HG := Lib.hid l1
  have H4 := Lib.hid l2
  have H5 := Lib.hid l3
  have HONE := Lib.hid (fun z => thC_one z hv)
  obtain ⟨hc, hin, hp⟩ := thB_parts hr
  clear hb3 l1 l2 l3
  have e0 : (x.st != 0) = false := by rw [bne_eq_false_iff_eq]; exact h1
  have e1 : (x.ph == 1) = false := by rw [beq_eq_false_iff_ne]; omega
  have e2 : (x.ph == 2) = false := by rw [beq_eq_false_iff_ne]; omega
  have HRN := Lib.hid (nxT_run (l := l) h1 h2)
  have HX := Lib.hid (thB_inv hr hx)
  have HRS : Hid (∀ y : Th, goT l 256 x = y → y.st = 0 ∧ y.ph = 0) := fun y e => by
    obtain ⟨q1, q2, q3, q4, q5⟩ := goT_rest l 256 x
    rw [← e]; exact ⟨q3.trans h1, q1.trans h2⟩
  have HALL := Lib.hid (codeB_parts hc).2
  have hlen := (codeB_parts hc).1
  have HH := Lib.hid (fun (q : World) (hq : Below w.heap.size w q) => h.later hq)
  have HOK := Lib.hid hok
  have HV := Lib.hid hv
  have HCL := Lib.hid hcl
  clear hcl
  have HPLN := Lib.hid (fun y i q hq a b c2 d e f g hx hk => rfPlain16 l A c y v i q hq a b c2 d e f g hx hk hv)
  clear h1 h2 hr hc hin hp h hok hx hv
  go_enter Try.func15, Try.ntmps15
  go_upto_region 1 with (fail)
  generalize (((w.alloc (.cells (thC x v) 27)).alloc (.cells thZ 27)).alloc (.cells akZ 37)) = w1 at *
  have c0 := (HG.out.cell 0).trans (show _ = some (Value.int .i64 x.at_) from rfl)
  have c1 := (HG.out.cell 1).trans (show _ = some (Value.int .i64 x.ph) from rfl)
  have c2 := (HG.out.cell 2).trans (show _ = some (Value.int .i64 x.rg) from rfl)
  have c3 := (HG.out.cell 3).trans (show _ = some (Value.int .i64 x.st) from rfl)
  have c4 := (HG.out.cell 4).trans (show _ = some (Value.int .u64 (x.tk : Int)) from rfl)
  have c5 := (HG.out.cell 5).trans (show _ = some (Value.int .u64 (x.r 0 : Int)) from rfl)
  have c6 := (HG.out.cell 6).trans (show _ = some (Value.int .u64 (x.r 1 : Int)) from rfl)
  have c7 := (HG.out.cell 7).trans (show _ = some (Value.int .u64 (x.r 2 : Int)) from rfl)
  have c8 := (HG.out.cell 8).trans (show _ = some (Value.int .u64 (x.r 3 : Int)) from rfl)
  have c9 := (HG.out.cell 9).trans (show _ = some (Value.int .u64 (x.r 4 : Int)) from rfl)
  have c10 := (HG.out.cell 10).trans (show _ = some (Value.int .u64 (x.r 5 : Int)) from rfl)
  have c11 := (HG.out.cell 11).trans (show _ = some (Value.int .u64 (x.r 6 : Int)) from rfl)
  have c12 := (HG.out.cell 12).trans (show _ = some (Value.int .u64 (x.r 7 : Int)) from rfl)
  have c13 := (HG.out.cell 13).trans (show _ = some (v) from rfl)
  have cl := HG.out.lt
  go_wp2_with fail
  clear c0 c1 c2 c3 c4 c5 c6 c7 c8 c9 c10 c11 c12 c13 cl
  clear e0 e1 e2
  go_loopw [6] (fun u wr => ∃ (k : Nat) (y : Th), k ≤ 256 ∧ u = .int .i64 k ∧ Hid (goT l 256 x = goT l (256 - k) y) ∧ Hid (InvT l y) ∧ Hid (Lies wr w.heap.size 27 (thC y v)) ∧ Hid (Lies wr (w.heap.size + 1) 27 thZ) ∧ Hid (Lies wr (w.heap.size + 1 + 1) 37 akZ) ∧ Hid (Below w.heap.size w wr)) (fun u _ => 256 - (intOf u).toNat)
  case atStart => exact ⟨0, x, by omega, rfl, Lib.hid rfl, HX, HG, H4, H5, HB⟩
  case round =>
    clear HG H4 H5 HB HX
    obtain ⟨k, y, hk, rfl, HGT, HI, HG, H4, H5, HB⟩ := hrel
    obtain ⟨ya, yp, yr, ys, yt, yg, yn⟩ := y
    obtain ⟨pn, hpn⟩ : ∃ n : Nat, ya = n := ⟨ya.toNat, by have := HI.out.1; have : 0 ≤ ya := this; omega⟩
    subst hpn
    have hpl : (pn : Int) ≤ (l.length : Int) := HI.out.2.1
    have c0 := (HG.out.cell 0).trans (show _ = some (Value.int .i64 (Th.mk (pn : Int) yp yr ys yt yg yn).at_) from rfl)
    have c1 := (HG.out.cell 1).trans (show _ = some (Value.int .i64 (Th.mk (pn : Int) yp yr ys yt yg yn).ph) from rfl)
    have c2 := (HG.out.cell 2).trans (show _ = some (Value.int .i64 (Th.mk (pn : Int) yp yr ys yt yg yn).rg) from rfl)
    have c3 := (HG.out.cell 3).trans (show _ = some (Value.int .i64 (Th.mk (pn : Int) yp yr ys yt yg yn).st) from rfl)
    have c4 := (HG.out.cell 4).trans (show _ = some (Value.int .u64 ((Th.mk (pn : Int) yp yr ys yt yg yn).tk : Int)) from rfl)
    have c5 := (HG.out.cell 5).trans (show _ = some (Value.int .u64 ((Th.mk (pn : Int) yp yr ys yt yg yn).r 0 : Int)) from rfl)
    have c6 := (HG.out.cell 6).trans (show _ = some (Value.int .u64 ((Th.mk (pn : Int) yp yr ys yt yg yn).r 1 : Int)) from rfl)
    have c7 := (HG.out.cell 7).trans (show _ = some (Value.int .u64 ((Th.mk (pn : Int) yp yr ys yt yg yn).r 2 : Int)) from rfl)
    have c8 := (HG.out.cell 8).trans (show _ = some (Value.int .u64 ((Th.mk (pn : Int) yp yr ys yt yg yn).r 3 : Int)) from rfl)
    have c9 := (HG.out.cell 9).trans (show _ = some (Value.int .u64 ((Th.mk (pn : Int) yp yr ys yt yg yn).r 4 : Int)) from rfl)
    have c10 := (HG.out.cell 10).trans (show _ = some (Value.int .u64 ((Th.mk (pn : Int) yp yr ys yt yg yn).r 5 : Int)) from rfl)
    have c11 := (HG.out.cell 11).trans (show _ = some (Value.int .u64 ((Th.mk (pn : Int) yp yr ys yt yg yn).r 6 : Int)) from rfl)
    have c12 := (HG.out.cell 12).trans (show _ = some (Value.int .u64 ((Th.mk (pn : Int) yp yr ys yt yg yn).r 7 : Int)) from rfl)
    have c13 := (HG.out.cell 13).trans (show _ = some (v) from rfl)
    have cl := HG.out.lt
    by_cases hat : pn = l.length
    · have d2 : decide ((pn : Int) < (l.length : Int)) = false := decide_eq_false (by omega)
      have d2n : decide (pn < l.length) = false := decide_eq_false (by omega)
      have d4 : ((pn : Int) == (l.length : Int)) = true := by rw [beq_iff_eq]; omega
      have d4n : (pn == l.length) = true := by rw [beq_iff_eq]; exact hat
      have hati : (Th.mk (pn : Int) yp yr ys yt yg yn).at_ = (l.length : Int) := by show (pn : Int) = _; omega
      have HPE : Hid (goT l 256 x = (Th.mk (pn : Int) yp yr ys yt yg yn)) := HGT.out.trans (goT_stop (plT_end hati) _)
      obtain ⟨hys, hyp⟩ := HRS.out _ HPE.out
      have HRE := Lib.hid (reqA_end (l := l) hys hati)
      have HYE := Lib.hid (HRN.out.trans HPE.out)
      exfalso
      have hcl := HCL.out
      rw [HPE.out] at hcl
      exact hcl.1 hati
    -- S1E
    have hpl2 : pn < l.length := by omega
    have hal : (pn : Int) < (l.length : Int) := by omega
    have d2 : decide ((pn : Int) < (l.length : Int)) = true := decide_eq_true hal
    have d2n : decide (pn < l.length) = true := decide_eq_true hpl2
    have d4 : ((pn : Int) == (l.length : Int)) = false := by rw [beq_eq_false_iff_ne]; omega
    have d4n : (pn == l.length) = false := by rw [beq_eq_false_iff_ne]; exact hat
    have hat : (Th.mk (pn : Int) yp yr ys yt yg yn).at_ ≠ (l.length : Int) := by show (pn : Int) ≠ _; omega
    obtain ⟨i, hi⟩ : ∃ i, l[pn]? = some i := ⟨_, List.getElem?_eq_getElem hpl2⟩
    have HAT := Lib.hid (atT_get (x := (Th.mk (pn : Int) yp yr ys yt yg yn)) rfl hi)
    have HM := Lib.hid (List.mem_of_getElem? hi)
    have HR := Lib.hid (HALL.out i HM.out).1
    have hi1 := right_op1 HR.out
    have hih := HH.out _ HB.out
    obtain ⟨b, off, rfl, hbl, hg⟩ := InsAt.at_ hih hi
    have HG1 := Lib.hid hg
    clear hg hi hbl
    have g0 := HG1.out 0 _ (by decide) rfl
    have g1 := HG1.out 1 _ (by decide) rfl
    have g2 := HG1.out 2 _ (by decide) rfl
    have g3 := HG1.out 3 _ (by decide) rfl
    have g4 := HG1.out 4 _ (by decide) rfl
    have g5 := HG1.out 5 _ (by decide) rfl
    rw [Nat.add_zero] at g0
    clear HG1
    by_cases hop17 : i.op ≤ 17
    · have d3 : decide (i.op ≤ 17) = true := decide_eq_true hop17
      by_cases hlt : k < 256
      · have d1 : decide ((k : Int) < 256) = true := decide_eq_true (by omega)
        have d1n : decide (k < 256) = true := decide_eq_true hlt
        have HST := Lib.hid (fun q hq => HPLN.out (Th.mk (pn : Int) yp yr ys yt yg yn) i q hq (show (0:Int) ≤ (pn : Int) by omega) hal hlen HAT.out HR.out hi1.1 hop17 HI.out.2.2 (HOK.out i HM.out).2.2.2.2.2)
        have HI2 := Lib.hid (step_inv (i := i) HI.out hal (HOK.out i HM.out).2.2.2.2.2 (HALL.out i HM.out).2)
        have HGT2 : Hid (goT l 256 x = goT l (256 - (k + 1)) (stepT i (Th.mk (pn : Int) yp yr ys yt yg yn))) := by
          have := goT_step (plT_in HAT.out hal hi1.1 hop17) (256 - (k + 1))
          rw [show 256 - (k + 1) + 1 = 256 - k by omega, HAT.out] at this
          exact HGT.out.trans this
        have HIH := Lib.hid hih
        clear HGT HI HAT HM HR hi1 hih hop17 HRN HRS HALL HOK HV HPLN hat
        go_wp2_with fail
        clear c0 c1 c2 c3 c4 c5 c6 c7 c8 c9 c10 c11 c12 c13 cl
        clear g0 g1 g2 g3 g4 g5 d2 d2n d3 d4 d4n
        refine (HST.out _ HIH.out).mono ?_
        rintro e w4 ⟨rfl, hbm⟩
        replace HG := Lib.hid (HG.out.below hbm HG.out.lt)
        replace H4 := Lib.hid (H4.out.below hbm H4.out.lt)
        replace H5 := Lib.hid (H5.out.below hbm H5.out.lt)
        replace HB := Lib.hid (HB.out.trans (hbm.mono HB.out.size))
        clear hbm HST HIH
        generalize stepT i (Th.mk (pn : Int) yp yr ys yt yg yn) = z at *
        have HG4 := Lib.hid (lies_row HG.out (thC z v))
        have hk4 := kept_rowT (w := w4) (g := w.heap.size) (thC z v)
        have H44 := Lib.hid (H4.out.kept hk4 (fun (e : w.heap.size + 1 = w.heap.size) => by omega))
        have H54 := Lib.hid (H5.out.kept hk4 (fun (e : w.heap.size + 1 + 1 = w.heap.size) => by omega))
        have HB4 := Lib.hid (HB.out.trans (hk4.below HB.out.size (fun k hk (e : k = w.heap.size) => by omega)))
        clear hk4
        go_wp2_with (
          refine wpList_store_row rfl 27 _ _ rfl (w.heap.size) (thC z v) rfl rfl 27 (thC (Th.mk (pn : Int) yp yr ys yt yg yn) v) HG.out infoTh rfl (HONE.out z) ?_
          clear HG H4 H5 HB
          generalize w4.setRow (w.heap.size) (thC z v) = w5 at *
          go_wp2
          go_roundw
          case rel => exact ⟨k + 1, z, by omega, by go_num, HGT2, HI2, HG4, H44, H54, HB4⟩
          case measure => simp [intOf]; omega)
      · have d1 : decide ((k : Int) < 256) = false := decide_eq_false (by omega)
        have d1n : decide (k < 256) = false := decide_eq_false hlt
        obtain rfl : k = 256 := by omega
        have HPE : Hid (goT l 256 x = (Th.mk (pn : Int) yp yr ys yt yg yn)) := HGT.out
        obtain ⟨hys, hyp⟩ := HRS.out _ HPE.out
        have HRE := Lib.hid (reqA_spin (l := l) hys hyp hat HAT.out hi1.1 hop17)
        have HYE := Lib.hid (HRN.out.trans HPE.out)
        -- S2
        have j18 : (i.op == 18) = false := by rw [beq_eq_false_iff_ne]; omega
        have j19 : (i.op == 19) = false := by rw [beq_eq_false_iff_ne]; omega
        have j20 : (i.op == 20) = false := by rw [beq_eq_false_iff_ne]; omega
        have j21 : (i.op == 21) = false := by rw [beq_eq_false_iff_ne]; omega
        have j22 : (i.op == 22) = false := by rw [beq_eq_false_iff_ne]; omega
        have j23 : (i.op == 23) = false := by rw [beq_eq_false_iff_ne]; omega
        have j24 : (i.op == 24) = false := by rw [beq_eq_false_iff_ne]; omega
        have j25 : (i.op == 25) = false := by rw [beq_eq_false_iff_ne]; omega
        clear HGT HPE hys hyp hat HRN HRS HALL HH HOK HV HPLN HI hpl hi1 hlt hk hop17 HAT HM HR hih HCL
        obtain ⟨iop, ia, ib, ic, id, ik⟩ := i
        go_upto_region 14 with (fail)
        clear c0 c1 c2 c3 c4 c5 c6 c7 c8 c9 c10 c11 c12 c13 cl
        clear g0 g1 g2 g3 g4 g5
        have hba := Below.refl wr.heap.size wr
        have hba2 := hba.alloc (Nat.le_refl _) (.cells (inC ⟨iop, ia, ib, ic, id, ik⟩) 50)
        have HI7 := Lib.hid (Lies.made wr 50 (inC ⟨iop, ia, ib, ic, id, ik⟩))
        have HN7 : Hid (w.heap.size + 1 + 1 < wr.heap.size) := H5.out.lt
        replace HG := Lib.hid (HG.out.below hba2 HG.out.lt)
        replace H4 := Lib.hid (H4.out.below hba2 H4.out.lt)
        replace H5 := Lib.hid (H5.out.below hba2 H5.out.lt)
        replace HB := Lib.hid (HB.out.trans (hba2.mono HB.out.size))
        clear hba hba2
        generalize hw9 : wr.alloc (.cells (inC ⟨iop, ia, ib, ic, id, ik⟩) 50) = w9 at *
        generalize hn7 : wr.heap.size = n7 at *
        clear hw9 hn7
        have c0 := (HG.out.cell 0).trans (show _ = some (Value.int .i64 (Th.mk (pn : Int) yp yr ys yt yg yn).at_) from rfl)
        have c1 := (HG.out.cell 1).trans (show _ = some (Value.int .i64 (Th.mk (pn : Int) yp yr ys yt yg yn).ph) from rfl)
        have c2 := (HG.out.cell 2).trans (show _ = some (Value.int .i64 (Th.mk (pn : Int) yp yr ys yt yg yn).rg) from rfl)
        have c3 := (HG.out.cell 3).trans (show _ = some (Value.int .i64 (Th.mk (pn : Int) yp yr ys yt yg yn).st) from rfl)
        have c4 := (HG.out.cell 4).trans (show _ = some (Value.int .u64 ((Th.mk (pn : Int) yp yr ys yt yg yn).tk : Int)) from rfl)
        have c5 := (HG.out.cell 5).trans (show _ = some (Value.int .u64 ((Th.mk (pn : Int) yp yr ys yt yg yn).r 0 : Int)) from rfl)
        have c6 := (HG.out.cell 6).trans (show _ = some (Value.int .u64 ((Th.mk (pn : Int) yp yr ys yt yg yn).r 1 : Int)) from rfl)
        have c7 := (HG.out.cell 7).trans (show _ = some (Value.int .u64 ((Th.mk (pn : Int) yp yr ys yt yg yn).r 2 : Int)) from rfl)
        have c8 := (HG.out.cell 8).trans (show _ = some (Value.int .u64 ((Th.mk (pn : Int) yp yr ys yt yg yn).r 3 : Int)) from rfl)
        have c9 := (HG.out.cell 9).trans (show _ = some (Value.int .u64 ((Th.mk (pn : Int) yp yr ys yt yg yn).r 4 : Int)) from rfl)
        have c10 := (HG.out.cell 10).trans (show _ = some (Value.int .u64 ((Th.mk (pn : Int) yp yr ys yt yg yn).r 5 : Int)) from rfl)
        have c11 := (HG.out.cell 11).trans (show _ = some (Value.int .u64 ((Th.mk (pn : Int) yp yr ys yt yg yn).r 6 : Int)) from rfl)
        have c12 := (HG.out.cell 12).trans (show _ = some (Value.int .u64 ((Th.mk (pn : Int) yp yr ys yt yg yn).r 7 : Int)) from rfl)
        have c13 := (HG.out.cell 13).trans (show _ = some (v) from rfl)
        have cl := HG.out.lt
        have d0 := (HI7.out.cell 0).trans (show _ = some (Value.int .i64 iop) from rfl)
        have dl := HI7.out.lt
        go_wp2_with (
          refine wpList_store_row rfl 27 _ _ rfl (w.heap.size + 1) (thC (Th.mk (pn : Int) yp yr ys yt yg yn) v) rfl rfl 27 thZ H4.out infoTh rfl (HONE.out (Th.mk (pn : Int) yp yr ys yt yg yn)) ?_
          clear c0 c1 c2 c3 c4 c5 c6 c7 c8 c9 c10 c11 c12 c13 cl
          have HB2 := Lib.hid (HB.out.trans ((kept_rowT (w := w9) (g := w.heap.size + 1) (thC (Th.mk (pn : Int) yp yr ys yt yg yn) v)).below HB.out.size (fun k hk (e : k = w.heap.size + 1) => by omega)))
          have Q4A := Lib.hid (lies_row H4.out (thC (Th.mk (pn : Int) yp yr ys yt yg yn) v))
          have H5A := Lib.hid (H5.out.kept (kept_rowT (w := w9) (g := w.heap.size + 1) (thC (Th.mk (pn : Int) yp yr ys yt yg yn) v)) (fun (e : w.heap.size + 1 + 1 = w.heap.size + 1) => by omega))
          generalize w9.setRow (w.heap.size + 1) (thC (Th.mk (pn : Int) yp yr ys yt yg yn) v) = wD at *
          go_wp2_with (
            refine wpList_store_row rfl 37 _ _ rfl (w.heap.size + 1 + 1) (akC (noneA 9)) rfl rfl 37 akZ H5A.out infoAk2 rfl (akC_one _) ?_
            have HBZ := Lib.hid (HB2.out.trans ((kept_rowT (w := wD) (g := w.heap.size + 1 + 1) (akC (noneA 9))).below HB2.out.size (fun k hk (e : k = w.heap.size + 1 + 1) => by omega)))
            have Q5 := Lib.hid (lies_row H5A.out (akC (noneA 9)))
            have Q4 := Lib.hid (Q4A.out.kept (kept_rowT (w := wD) (g := w.heap.size + 1 + 1) (akC (noneA 9))) (fun (e : w.heap.size + 1 = w.heap.size + 1 + 1) => by omega))
            generalize wD.setRow (w.heap.size + 1 + 1) (akC (noneA 9)) = wE at *
            clear HB2 Q4A H5A
            replace Q5 : Hid (Lies wE (w.heap.size + 1 + 1) 37 (akC (reqA l (Th.mk (pn : Int) yp yr ys yt yg yn)))) := by show Lies _ _ _ _; rw [HRE.out]; exact Q5.out
            clear HRE H4 H5 HG HB HONE
            generalize hzz : reqA l (Th.mk (pn : Int) yp yr ys yt yg yn) = z at *
            have HZE := Lib.hid hzz
            clear hzz
            have z0 := (Q4.out.cell 0).trans (show _ = some (Value.int .i64 (Th.mk (pn : Int) yp yr ys yt yg yn).at_) from rfl)
            have z1 := (Q4.out.cell 1).trans (show _ = some (Value.int .i64 (Th.mk (pn : Int) yp yr ys yt yg yn).ph) from rfl)
            have z2 := (Q4.out.cell 2).trans (show _ = some (Value.int .i64 (Th.mk (pn : Int) yp yr ys yt yg yn).rg) from rfl)
            have z3 := (Q4.out.cell 3).trans (show _ = some (Value.int .i64 (Th.mk (pn : Int) yp yr ys yt yg yn).st) from rfl)
            have z4 := (Q4.out.cell 4).trans (show _ = some (Value.int .u64 ((Th.mk (pn : Int) yp yr ys yt yg yn).tk : Int)) from rfl)
            have z5 := (Q4.out.cell 5).trans (show _ = some (Value.int .u64 ((Th.mk (pn : Int) yp yr ys yt yg yn).r 0 : Int)) from rfl)
            have z6 := (Q4.out.cell 6).trans (show _ = some (Value.int .u64 ((Th.mk (pn : Int) yp yr ys yt yg yn).r 1 : Int)) from rfl)
            have z7 := (Q4.out.cell 7).trans (show _ = some (Value.int .u64 ((Th.mk (pn : Int) yp yr ys yt yg yn).r 2 : Int)) from rfl)
            have z8 := (Q4.out.cell 8).trans (show _ = some (Value.int .u64 ((Th.mk (pn : Int) yp yr ys yt yg yn).r 3 : Int)) from rfl)
            have z9 := (Q4.out.cell 9).trans (show _ = some (Value.int .u64 ((Th.mk (pn : Int) yp yr ys yt yg yn).r 4 : Int)) from rfl)
            have z10 := (Q4.out.cell 10).trans (show _ = some (Value.int .u64 ((Th.mk (pn : Int) yp yr ys yt yg yn).r 5 : Int)) from rfl)
            have z11 := (Q4.out.cell 11).trans (show _ = some (Value.int .u64 ((Th.mk (pn : Int) yp yr ys yt yg yn).r 6 : Int)) from rfl)
            have z12 := (Q4.out.cell 12).trans (show _ = some (Value.int .u64 ((Th.mk (pn : Int) yp yr ys yt yg yn).r 7 : Int)) from rfl)
            have z13 := (Q4.out.cell 13).trans (show _ = some (v) from rfl)
            have zl := Q4.out.lt
            have k0 := (Q5.out.cell 0).trans (show _ = some (.int .i64 z.kd) from rfl)
            have k1 := (Q5.out.cell 1).trans (show _ = some (.int .i64 z.rg) from rfl)
            have k2 := (Q5.out.cell 2).trans (show _ = some (.int .i64 z.md) from rfl)
            have k3 := (Q5.out.cell 3).trans (show _ = some (.int .i64 z.rd) from rfl)
            have k4 := (Q5.out.cell 4).trans (show _ = some (.int .u64 (z.tk : Int)) from rfl)
            have k5 := (Q5.out.cell 5).trans (show _ = some (.int .u64 (z.vl : Int)) from rfl)
            go_wp2
            exact bodyPost_ret (v := .tuple #[.agg (thC (Th.mk (pn : Int) yp yr ys yt yg yn) v), .agg (akC z)]) (by simp [results, Try.results15, go_sem, z0, z1, z2, z3, z4, z5, z6, z7, z8, z9, z10, z11, z12, z13, k0, k1, k2, k3, k4, k5]) rfl ⟨by rw [HYE.out, HZE.out], HBZ.out⟩))
    -- S2E
    have d3 : decide (i.op ≤ 17) = false := decide_eq_false hop17
    have HPE : Hid (goT l 256 x = (Th.mk (pn : Int) yp yr ys yt yg yn)) := HGT.out.trans (goT_stop (plT_out HAT.out (by omega)) _)
    obtain ⟨hys, hyp⟩ := HRS.out _ HPE.out
    have HRV := Lib.hid (reqA_vis (l := l) hys hyp hat HAT.out (by omega))
    have HYE := Lib.hid (HRN.out.trans HPE.out)
    have hops : i.op = 18 ∨ i.op = 19 ∨ i.op = 20 ∨ i.op = 21 ∨ i.op = 22 ∨ i.op = 23 ∨ i.op = 24 ∨ i.op = 25 := by omega
    exfalso
    have hcl := HCL.out
    rw [HPE.out] at hcl
    rw [HAT.out] at hcl
    exact hop17 hcl.2
end Go.Proofs.Ytiegmpjoiekekaa
/-
  Up to what is seen (layer 16): the document's Next, of a thread that runs.
-/
namespace Go.Proofs.Ytiegmpjoiekekaa
open Go.RowKit
set_option linter.unusedVariables false
set_option linter.unusedSimpArgs false
set_option maxHeartbeats 8000000 in
set_option maxRecDepth 100000 in
theorem rfNextD18 (l : List In) (A : Option Addr) (c : Nat) (x : Th) (v : Value) (w : World) (h : InsAt w A c l) (hok : ∀ i ∈ l, inOk i) (hx : thOk x) (hv : v.oneCell' = true) (hr : thB l x = true) (h1 : x.st = 0) (h2 : x.ph = 0) (hcl : (goT l 256 x).at_ ≠ (l.length : Int) ∧ (atT l (goT l 256 x)).op = 18) :
    Calls Try.prog 15 #[.slice A l.length c, .agg (thC x v)] w fun e w' => e = .returned (.tuple #[.agg (thC (nxT l x) v), .agg (akC (reqA l (nxT l x)))]) ∧ Below w.heap.size w w' := by
  obtain ⟨hc1, hc2⟩ := seq_form h
  have hb3 : Below w.heap.size w (((w.alloc (.cells (thC x v) 27)).alloc (.cells thZ 27)).alloc (.cells akZ 37)) := (((Below.refl _ _).alloc (Nat.le_refl _) _).alloc (by simp) _).alloc (by simp; omega) _
  have l1 := ((Lies.made w 27 (thC x v)).alloc (.cells thZ 27)).alloc (.cells akZ 37)
  have l2 := (Lies.made (w.alloc (.cells (thC x v) 27)) 27 thZ).alloc (.cells akZ 37)
  have l3 := Lies.made ((w.alloc (.cells (thC x v) 27)).alloc (.cells thZ 27)) 37 akZ
  rw [show (w.alloc (.cells (thC x v) 27)).heap.size = w.heap.size + 1 by simp] at l2
  rw [show ((w.alloc (.cells (thC x v) 27)).alloc (.cells thZ 27)).heap.size = w.heap.size + 1 + 1 by simp] at l3
  have HB := Lib.hid hb3
  have HG := Lib.hid l1
  have H4 := Lib.hid l2
  have H5 := Lib.hid l3
  have HONE := Lib.hid (fun z => thC_one z hv)
  obtain ⟨hc, hin, hp⟩ := thB_parts hr
  clear hb3 l1 l2 l3
  have e0 : (x.st != 0) = false := by rw [bne_eq_false_iff_eq]; exact h1
  have e1 : (x.ph == 1) = false := by rw [beq_eq_false_iff_ne]; omega
  have e2 : (x.ph == 2) = false := by rw [beq_eq_false_iff_ne]; omega
  have HRN := Lib.hid (nxT_run (l := l) h1 h2)
  have HX := Lib.hid (thB_inv hr hx)
  have HRS : Hid (∀ y : Th, goT l 256 x = y → y.st = 0 ∧ y.ph = 0) := fun y e => by
    obtain ⟨q1, q2, q3, q4, q5⟩ := goT_rest l 256 x
    rw [← e]; exact ⟨q3.trans h1, q1.trans h2⟩
  have HALL := Lib.hid (codeB_parts hc).2
  have hlen := (codeB_parts hc).1
  have HH := Lib.hid (fun (q : World) (hq : Below w.heap.size w q) => h.later hq)
  have HOK := Lib.hid hok
  have HV := Lib.hid hv
  have HCL := Lib.hid hcl
  clear hcl
  have HPLN := Lib.hid (fun y i q hq a b c2 d e f g hx hk => rfPlain16 l A c y v i q hq a b c2 d e f g hx hk hv)
  clear h1 h2 hr hc hin hp h hok hx hv
  go_enter Try.func15, Try.ntmps15
  go_upto_region 1 with (fail)
  generalize (((w.alloc (.cells (thC x v) 27)).alloc (.cells thZ 27)).alloc (.cells akZ 37)) = w1 at *
  have c0 := (HG.out.cell 0).trans (show _ = some (Value.int .i64 x.at_) from rfl)
  have c1 := (HG.out.cell 1).trans (show _ = some (Value.int .i64 x.ph) from rfl)
  have c2 := (HG.out.cell 2).trans (show _ = some (Value.int .i64 x.rg) from rfl)
  have c3 := (HG.out.cell 3).trans (show _ = some (Value.int .i64 x.st) from rfl)
  have c4 := (HG.out.cell 4).trans (show _ = some (Value.int .u64 (x.tk : Int)) from rfl)
  have c5 := (HG.out.cell 5).trans (show _ = some (Value.int .u64 (x.r 0 : Int)) from rfl)
  have c6 := (HG.out.cell 6).trans (show _ = some (Value.int .u64 (x.r 1 : Int)) from rfl)
  have c7 := (HG.out.cell 7).trans (show _ = some (Value.int .u64 (x.r 2 : Int)) from rfl)
  have c8 := (HG.out.cell 8).trans (show _ = some (Value.int .u64 (x.r 3 : Int)) from rfl)
  have c9 := (HG.out.cell 9).trans (show _ = some (Value.int .u64 (x.r 4 : Int)) from rfl)
  have c10 := (HG.out.cell 10).trans (show _ = some (Value.int .u64 (x.r 5 : Int)) from rfl)
  have c11 := (HG.out.cell 11).trans (show _ = some (Value.int .u64 (x.r 6 : Int)) from rfl)
  have c12 := (HG.out.cell 12).trans (show _ = some (Value.int .u64 (x.r 7 : Int)) from rfl)
  have c13 := (HG.out.cell 13).trans (show _ = some (v) from rfl)
  have cl := HG.out.lt
  go_wp2_with fail
  clear c0 c1 c2 c3 c4 c5 c6 c7 c8 c9 c10 c11 c12 c13 cl
  clear e0 e1 e2
  go_loopw [6] (fun u wr => ∃ (k : Nat) (y : Th), k ≤ 256 ∧ u = .int .i64 k ∧ Hid (goT l 256 x = goT l (256 - k) y) ∧ Hid (InvT l y) ∧ Hid (Lies wr w.heap.size 27 (thC y v)) ∧ Hid (Lies wr (w.heap.size + 1) 27 thZ) ∧ Hid (Lies wr (w.heap.size + 1 + 1) 37 akZ) ∧ Hid (Below w.heap.size w wr)) (fun u _ => 256 - (intOf u).toNat)
  case atStart => exact ⟨0, x, by omega, rfl, Lib.hid rfl, HX, HG, H4, H5, HB⟩
  case round =>
    clear HG H4 H5 HB HX
    obtain ⟨k, y, hk, rfl, HGT, HI, HG, H4, H5, HB⟩ := hrel
    obtain ⟨ya, yp, yr, ys, yt, yg, yn⟩ := y
    obtain ⟨pn, hpn⟩ : ∃ n : Nat, ya = n := ⟨ya.toNat, by have := HI.out.1; have : 0 ≤ ya := this; omega⟩
    subst hpn
    have hpl : (pn : Int) ≤ (l.length : Int) := HI.out.2.1
    have c0 := (HG.out.cell 0).trans (show _ = some (Value.int .i64 (Th.mk (pn : Int) yp yr ys yt yg yn).at_) from rfl)
    have c1 := (HG.out.cell 1).trans (show _ = some (Value.int .i64 (Th.mk (pn : Int) yp yr ys yt yg yn).ph) from rfl)
    have c2 := (HG.out.cell 2).trans (show _ = some (Value.int .i64 (Th.mk (pn : Int) yp yr ys yt yg yn).rg) from rfl)
    have c3 := (HG.out.cell 3).trans (show _ = some (Value.int .i64 (Th.mk (pn : Int) yp yr ys yt yg yn).st) from rfl)
    have c4 := (HG.out.cell 4).trans (show _ = some (Value.int .u64 ((Th.mk (pn : Int) yp yr ys yt yg yn).tk : Int)) from rfl)
    have c5 := (HG.out.cell 5).trans (show _ = some (Value.int .u64 ((Th.mk (pn : Int) yp yr ys yt yg yn).r 0 : Int)) from rfl)
    have c6 := (HG.out.cell 6).trans (show _ = some (Value.int .u64 ((Th.mk (pn : Int) yp yr ys yt yg yn).r 1 : Int)) from rfl)
    have c7 := (HG.out.cell 7).trans (show _ = some (Value.int .u64 ((Th.mk (pn : Int) yp yr ys yt yg yn).r 2 : Int)) from rfl)
    have c8 := (HG.out.cell 8).trans (show _ = some (Value.int .u64 ((Th.mk (pn : Int) yp yr ys yt yg yn).r 3 : Int)) from rfl)
    have c9 := (HG.out.cell 9).trans (show _ = some (Value.int .u64 ((Th.mk (pn : Int) yp yr ys yt yg yn).r 4 : Int)) from rfl)
    have c10 := (HG.out.cell 10).trans (show _ = some (Value.int .u64 ((Th.mk (pn : Int) yp yr ys yt yg yn).r 5 : Int)) from rfl)
    have c11 := (HG.out.cell 11).trans (show _ = some (Value.int .u64 ((Th.mk (pn : Int) yp yr ys yt yg yn).r 6 : Int)) from rfl)
    have c12 := (HG.out.cell 12).trans (show _ = some (Value.int .u64 ((Th.mk (pn : Int) yp yr ys yt yg yn).r 7 : Int)) from rfl)
    have c13 := (HG.out.cell 13).trans (show _ = some (v) from rfl)
    have cl := HG.out.lt
    by_cases hat : pn = l.length
    · have d2 : decide ((pn : Int) < (l.length : Int)) = false := decide_eq_false (by omega)
      have d2n : decide (pn < l.length) = false := decide_eq_false (by omega)
      have d4 : ((pn : Int) == (l.length : Int)) = true := by rw [beq_iff_eq]; omega
      have d4n : (pn == l.length) = true := by rw [beq_iff_eq]; exact hat
      have hati : (Th.mk (pn : Int) yp yr ys yt yg yn).at_ = (l.length : Int) := by show (pn : Int) = _; omega
      have HPE : Hid (goT l 256 x = (Th.mk (pn : Int) yp yr ys yt yg yn)) := HGT.out.trans (goT_stop (plT_end hati) _)
      obtain ⟨hys, hyp⟩ := HRS.out _ HPE.out
      have HRE := Lib.hid (reqA_end (l := l) hys hati)
      have HYE := Lib.hid (HRN.out.trans HPE.out)
      exfalso
      have hcl := HCL.out
      rw [HPE.out] at hcl
      exact hcl.1 hati
    -- S1E
    have hpl2 : pn < l.length := by omega
    have hal : (pn : Int) < (l.length : Int) := by omega
    have d2 : decide ((pn : Int) < (l.length : Int)) = true := decide_eq_true hal
    have d2n : decide (pn < l.length) = true := decide_eq_true hpl2
    have d4 : ((pn : Int) == (l.length : Int)) = false := by rw [beq_eq_false_iff_ne]; omega
    have d4n : (pn == l.length) = false := by rw [beq_eq_false_iff_ne]; exact hat
    have hat : (Th.mk (pn : Int) yp yr ys yt yg yn).at_ ≠ (l.length : Int) := by show (pn : Int) ≠ _; omega
    obtain ⟨i, hi⟩ : ∃ i, l[pn]? = some i := ⟨_, List.getElem?_eq_getElem hpl2⟩
    have HAT := Lib.hid (atT_get (x := (Th.mk (pn : Int) yp yr ys yt yg yn)) rfl hi)
    have HM := Lib.hid (List.mem_of_getElem? hi)
    have HR := Lib.hid (HALL.out i HM.out).1
    have hi1 := right_op1 HR.out
    have hih := HH.out _ HB.out
    obtain ⟨b, off, rfl, hbl, hg⟩ := InsAt.at_ hih hi
    have HG1 := Lib.hid hg
    clear hg hi hbl
    have g0 := HG1.out 0 _ (by decide) rfl
    have g1 := HG1.out 1 _ (by decide) rfl
    have g2 := HG1.out 2 _ (by decide) rfl
    have g3 := HG1.out 3 _ (by decide) rfl
    have g4 := HG1.out 4 _ (by decide) rfl
    have g5 := HG1.out 5 _ (by decide) rfl
    rw [Nat.add_zero] at g0
    clear HG1
    by_cases hop17 : i.op ≤ 17
    · have d3 : decide (i.op ≤ 17) = true := decide_eq_true hop17
      by_cases hlt : k < 256
      · have d1 : decide ((k : Int) < 256) = true := decide_eq_true (by omega)
        have d1n : decide (k < 256) = true := decide_eq_true hlt
        have HST := Lib.hid (fun q hq => HPLN.out (Th.mk (pn : Int) yp yr ys yt yg yn) i q hq (show (0:Int) ≤ (pn : Int) by omega) hal hlen HAT.out HR.out hi1.1 hop17 HI.out.2.2 (HOK.out i HM.out).2.2.2.2.2)
        have HI2 := Lib.hid (step_inv (i := i) HI.out hal (HOK.out i HM.out).2.2.2.2.2 (HALL.out i HM.out).2)
        have HGT2 : Hid (goT l 256 x = goT l (256 - (k + 1)) (stepT i (Th.mk (pn : Int) yp yr ys yt yg yn))) := by
          have := goT_step (plT_in HAT.out hal hi1.1 hop17) (256 - (k + 1))
          rw [show 256 - (k + 1) + 1 = 256 - k by omega, HAT.out] at this
          exact HGT.out.trans this
        have HIH := Lib.hid hih
        clear HGT HI HAT HM HR hi1 hih hop17 HRN HRS HALL HOK HV HPLN hat
        go_wp2_with fail
        clear c0 c1 c2 c3 c4 c5 c6 c7 c8 c9 c10 c11 c12 c13 cl
        clear g0 g1 g2 g3 g4 g5 d2 d2n d3 d4 d4n
        refine (HST.out _ HIH.out).mono ?_
        rintro e w4 ⟨rfl, hbm⟩
        replace HG := Lib.hid (HG.out.below hbm HG.out.lt)
        replace H4 := Lib.hid (H4.out.below hbm H4.out.lt)
        replace H5 := Lib.hid (H5.out.below hbm H5.out.lt)
        replace HB := Lib.hid (HB.out.trans (hbm.mono HB.out.size))
        clear hbm HST HIH
        generalize stepT i (Th.mk (pn : Int) yp yr ys yt yg yn) = z at *
        have HG4 := Lib.hid (lies_row HG.out (thC z v))
        have hk4 := kept_rowT (w := w4) (g := w.heap.size) (thC z v)
        have H44 := Lib.hid (H4.out.kept hk4 (fun (e : w.heap.size + 1 = w.heap.size) => by omega))
        have H54 := Lib.hid (H5.out.kept hk4 (fun (e : w.heap.size + 1 + 1 = w.heap.size) => by omega))
        have HB4 := Lib.hid (HB.out.trans (hk4.below HB.out.size (fun k hk (e : k = w.heap.size) => by omega)))
        clear hk4
        go_wp2_with (
          refine wpList_store_row rfl 27 _ _ rfl (w.heap.size) (thC z v) rfl rfl 27 (thC (Th.mk (pn : Int) yp yr ys yt yg yn) v) HG.out infoTh rfl (HONE.out z) ?_
          clear HG H4 H5 HB
          generalize w4.setRow (w.heap.size) (thC z v) = w5 at *
          go_wp2
          go_roundw
          case rel => exact ⟨k + 1, z, by omega, by go_num, HGT2, HI2, HG4, H44, H54, HB4⟩
          case measure => simp [intOf]; omega)
      · have d1 : decide ((k : Int) < 256) = false := decide_eq_false (by omega)
        have d1n : decide (k < 256) = false := decide_eq_false hlt
        obtain rfl : k = 256 := by omega
        have HPE : Hid (goT l 256 x = (Th.mk (pn : Int) yp yr ys yt yg yn)) := HGT.out
        obtain ⟨hys, hyp⟩ := HRS.out _ HPE.out
        have HRE := Lib.hid (reqA_spin (l := l) hys hyp hat HAT.out hi1.1 hop17)
        have HYE := Lib.hid (HRN.out.trans HPE.out)
        exfalso
        have hcl := HCL.out
        rw [HPE.out] at hcl
        rw [HAT.out] at hcl
        have := hcl.2
        omega
    -- S2E
    have d3 : decide (i.op ≤ 17) = false := decide_eq_false hop17
    have HPE : Hid (goT l 256 x = (Th.mk (pn : Int) yp yr ys yt yg yn)) := HGT.out.trans (goT_stop (plT_out HAT.out (by omega)) _)
    obtain ⟨hys, hyp⟩ := HRS.out _ HPE.out
    have HRV := Lib.hid (reqA_vis (l := l) hys hyp hat HAT.out (by omega))
    have HYE := Lib.hid (HRN.out.trans HPE.out)
    have hops : i.op = 18 ∨ i.op = 19 ∨ i.op = 20 ∨ i.op = 21 ∨ i.op = 22 ∨ i.op = 23 ∨ i.op = 24 ∨ i.op = 25 := by omega
    have hop : i.op = 18 := by have hcl := HCL.out; rw [HPE.out, HAT.out] at hcl; exact hcl.2
    clear HGT HPE hys hyp hat HRN HRS HALL HH HOK HV HPLN HI hpl hi1 hop17 HAT HM hih HCL
    obtain ⟨kb, hkb⟩ : ∃ b, decide (k < 256) = b := ⟨_, rfl⟩
    have hkb2 : decide ((k : Int) < 256) = kb := by rw [← hkb]; congr 1; apply propext; omega
    cases kb
    all_goals
      obtain ⟨iop, ia, ib, ic, id, ik⟩ := i
      go_upto_region 14 with (fail)
      clear c0 c1 c2 c3 c4 c5 c6 c7 c8 c9 c10 c11 c12 c13 cl
      clear g0 g1 g2 g3 g4 g5
      have hba := Below.refl wr.heap.size wr
      have hba2 := hba.alloc (Nat.le_refl _) (.cells (inC ⟨iop, ia, ib, ic, id, ik⟩) 50)
      have HI7 := Lib.hid (Lies.made wr 50 (inC ⟨iop, ia, ib, ic, id, ik⟩))
      have HN7 : Hid (w.heap.size + 1 + 1 < wr.heap.size) := H5.out.lt
      replace HG := Lib.hid (HG.out.below hba2 HG.out.lt)
      replace H4 := Lib.hid (H4.out.below hba2 H4.out.lt)
      replace H5 := Lib.hid (H5.out.below hba2 H5.out.lt)
      replace HB := Lib.hid (HB.out.trans (hba2.mono HB.out.size))
      clear hba hba2
      generalize hw9 : wr.alloc (.cells (inC ⟨iop, ia, ib, ic, id, ik⟩) 50) = w9 at *
      generalize hn7 : wr.heap.size = n7 at *
      clear hw9 hn7
      clear hkb hkb2 d2 d2n d3 d4 d4n
      have hop : iop = 18 := hop
      have hreg := vis_reg HR.out (.inl hop)
      have hreg : 0 ≤ ia ∧ ia ≤ 7 := hreg
      obtain ⟨ian, hian⟩ : ∃ n : Nat, ia = n := ⟨ia.toNat, by omega⟩
      have ha8 : ian < 8 := by omega
      subst hian
      subst hop
      have HRE : Hid (reqA l (Th.mk (pn : Int) yp yr ys yt yg yn) = ⟨1, ic, id, 0, 0, yg ian⟩) := by
        show _ = _
        rw [HRV.out]
        rfl
      clear HRV
      have d0 := (HI7.out.cell 0).trans (show _ = some (Value.int .i64 18) from rfl)
      have dl := HI7.out.lt
      go_wp2_with fail
      clear d0 dl
      have HSN := Lib.hid (fun (q : World) (hq : Kept (twoRows (w.heap.size + 1) (w.heap.size + 1 + 1)) w9 q) => HG.out.kept hq (fun (e : w.heap.size = _ ∨ w.heap.size = _) => by omega))
      have HIN := Lib.hid (fun (q : World) (hq : Kept (twoRows (w.heap.size + 1) (w.heap.size + 1 + 1)) w9 q) => HI7.out.kept hq (fun (e : n7 = _ ∨ n7 = _) => by have := HN7.out; omega))
      have HBL := Lib.hid (fun (q : World) (hq : Kept (twoRows (w.heap.size + 1) (w.heap.size + 1 + 1)) w9 q) => HB.out.trans (hq.below HB.out.size (fun k hk (e : k = _ ∨ k = _) => by omega)))
      refine wp_region_rely (fun q => Kept (twoRows (w.heap.size + 1) (w.heap.size + 1 + 1)) w9 q) (rgV [some (.agg (thC (Th.mk (pn : Int) yp yr ys yt yg yn) v)), some (.pointer (some ⟨n7, 3, none⟩)), some (.int .i64 (ic)), some (.pointer (some ⟨n7, 4, none⟩)), some (.int .i64 (id)), some (.pointer (some ⟨n7, 1, none⟩)), some (.int .i64 ((ian : Int))), some (.pointer (some ⟨w.heap.size, 5, none⟩)), some (.pointer (some ⟨w.heap.size, 5 + ian, none⟩)), some (.int .u64 (yg ian : Int)), some (.agg (akC ⟨1, ic, id, 0, 0, yg ian⟩)), none, none, none, none] (twF 11 12 13 14 (w.heap.size + 1) (w.heap.size + 1 + 1) 27 37 (thC (Th.mk (pn : Int) yp yr ys yt yg yn) v) (akC (⟨1, ic, id, 0, 0, yg ian⟩)) thZ akZ)) [some 86, some 87, some 88, some 89, some 90, some 91, some 92, some 93, some 94, some 95, some 96, none, none] [[], [], [1], [], [3], [], [5], [], [7, 6], [8], [2, 4, 9], [0, 13], [10, 14]] [[], [], [1], [], [3], [], [5], [], [5, 6, 7], [6, 7, 8], [1, 2, 3, 4, 8, 9], [0, 13], [0, 1, 2, 3, 4, 5, 6, 7, 8, 9, 10, 13, 14]] [[1, 2, 3, 4, 5, 6, 7, 8, 9, 10, 13, 14], [0, 3, 4, 5, 6, 7, 8, 9, 10, 11, 13, 14], [0, 3, 4, 5, 6, 7, 8, 9, 11, 13, 14], [0, 1, 2, 5, 6, 7, 8, 9, 10, 11, 13, 14], [0, 1, 2, 5, 6, 7, 8, 9, 11, 13, 14], [0, 1, 2, 3, 4, 7, 8, 9, 10, 11, 13, 14], [0, 1, 2, 3, 4, 7, 9, 10, 11, 13, 14], [0, 1, 2, 3, 4, 5, 6, 9, 10, 11, 13, 14], [0, 1, 2, 3, 4, 10, 11, 13, 14], [0, 1, 2, 3, 4, 11, 13, 14], [0, 5, 11, 13, 14], [1, 2, 3, 4, 5, 6, 7, 8, 9, 10, 14], [11]] [0, 1, 2, 3, 4, 5, 6, 7, 8, 9, 10, 11, 12] 15 (by kernel_rfl) (by kernel_rfl) (by kernel_rfl) (by kernel_rfl) ?rS ?rI ?rT ?rE
      case rS => exact Kept.drew _ _
      case rI =>
        intro j h1 h2
        have h1 : j < 15 := h1
        have h2 : 13 ≤ j := h2
        have hj : j = 13 ∨ j = 14 := by omega
        rcases hj with rfl | rfl
        · exact H4.out.drewN 1
        · exact H5.out.drewN 1
      case rT =>
        refine RelySteps.cons (RelyStep.mk [] [1, 2, 3, 4, 5, 6, 7, 8, 9, 10, 13, 14] rfl rfl rfl (fun xv wS hS hV bq hb K hK => ?_)) ?_
        · clear hV
          simp only [putsOf, List.foldl_cons, List.foldl_nil, List.getD_cons_zero, List.getD_cons_succ, List.getD_nil, cond_true, cond_false, Act.put, List.setIfInBounds_toArray, List.set_cons_zero, List.set_cons_succ] at hb
          subst hb
          rw [if_pos (by rfl)]
          (have HZ := Lib.hid (HSN.out _ hS); have c0 := (HZ.out.cell 0).trans (show _ = some (Value.int .i64 (Th.mk (pn : Int) yp yr ys yt yg yn).at_) from rfl); have c1 := (HZ.out.cell 1).trans (show _ = some (Value.int .i64 (Th.mk (pn : Int) yp yr ys yt yg yn).ph) from rfl); have c2 := (HZ.out.cell 2).trans (show _ = some (Value.int .i64 (Th.mk (pn : Int) yp yr ys yt yg yn).rg) from rfl); have c3 := (HZ.out.cell 3).trans (show _ = some (Value.int .i64 (Th.mk (pn : Int) yp yr ys yt yg yn).st) from rfl); have c4 := (HZ.out.cell 4).trans (show _ = some (Value.int .u64 ((Th.mk (pn : Int) yp yr ys yt yg yn).tk : Int)) from rfl); have c5 := (HZ.out.cell 5).trans (show _ = some (Value.int .u64 ((Th.mk (pn : Int) yp yr ys yt yg yn).r 0 : Int)) from rfl); have c6 := (HZ.out.cell 6).trans (show _ = some (Value.int .u64 ((Th.mk (pn : Int) yp yr ys yt yg yn).r 1 : Int)) from rfl); have c7 := (HZ.out.cell 7).trans (show _ = some (Value.int .u64 ((Th.mk (pn : Int) yp yr ys yt yg yn).r 2 : Int)) from rfl); have c8 := (HZ.out.cell 8).trans (show _ = some (Value.int .u64 ((Th.mk (pn : Int) yp yr ys yt yg yn).r 3 : Int)) from rfl); have c9 := (HZ.out.cell 9).trans (show _ = some (Value.int .u64 ((Th.mk (pn : Int) yp yr ys yt yg yn).r 4 : Int)) from rfl); have c10 := (HZ.out.cell 10).trans (show _ = some (Value.int .u64 ((Th.mk (pn : Int) yp yr ys yt yg yn).r 5 : Int)) from rfl); have c11 := (HZ.out.cell 11).trans (show _ = some (Value.int .u64 ((Th.mk (pn : Int) yp yr ys yt yg yn).r 6 : Int)) from rfl); have c12 := (HZ.out.cell 12).trans (show _ = some (Value.int .u64 ((Th.mk (pn : Int) yp yr ys yt yg yn).r 7 : Int)) from rfl); have c13 := (HZ.out.cell 13).trans (show _ = some (v) from rfl); have cl := HZ.out.lt)
          go_wp2_with fail
          exact hK.out _ _ ⟨_, rfl, hS, rfl, AllP.same _⟩
        refine RelySteps.cons (RelyStep.mk [] [0, 3, 4, 5, 6, 7, 8, 9, 10, 11, 13, 14] rfl rfl rfl (fun xv wS hS hV bq hb K hK => ?_)) ?_
        · clear hV
          simp only [putsOf, List.foldl_cons, List.foldl_nil, List.getD_cons_zero, List.getD_cons_succ, List.getD_nil, cond_true, cond_false, Act.put, List.setIfInBounds_toArray, List.set_cons_zero, List.set_cons_succ] at hb
          subst hb
          rw [if_pos (by rfl)]
          go_wp2_with fail
          exact hK.out _ _ ⟨_, rfl, hS, rfl, AllP.same _⟩
        refine RelySteps.cons (RelyStep.mk [1] [0, 3, 4, 5, 6, 7, 8, 9, 11, 13, 14] rfl rfl rfl (fun xv wS hS hV bq hb K hK => ?_)) ?_
        · obtain ⟨h1, _⟩ := hV
          have h1 : xv 1 = _ := h1
          simp only [putsOf, List.foldl_cons, List.foldl_nil, List.getD_cons_zero, List.getD_cons_succ, List.getD_nil, cond_true, cond_false, Act.put, List.setIfInBounds_toArray, List.set_cons_zero, List.set_cons_succ, h1] at hb
          clear h1
          subst hb
          rw [if_pos (by rfl)]
          (have HZ := Lib.hid (HIN.out _ hS); have c9 := (HZ.out.cell 3).trans (show _ = some _ from rfl); have c8 := HZ.out.lt)
          go_wp2_with fail
          exact hK.out _ _ ⟨_, rfl, hS, rfl, AllP.same _⟩
        refine RelySteps.cons (RelyStep.mk [] [0, 1, 2, 5, 6, 7, 8, 9, 10, 11, 13, 14] rfl rfl rfl (fun xv wS hS hV bq hb K hK => ?_)) ?_
        · clear hV
          simp only [putsOf, List.foldl_cons, List.foldl_nil, List.getD_cons_zero, List.getD_cons_succ, List.getD_nil, cond_true, cond_false, Act.put, List.setIfInBounds_toArray, List.set_cons_zero, List.set_cons_succ] at hb
          subst hb
          rw [if_pos (by rfl)]
          go_wp2_with fail
          exact hK.out _ _ ⟨_, rfl, hS, rfl, AllP.same _⟩
        refine RelySteps.cons (RelyStep.mk [3] [0, 1, 2, 5, 6, 7, 8, 9, 11, 13, 14] rfl rfl rfl (fun xv wS hS hV bq hb K hK => ?_)) ?_
        · obtain ⟨h3, _⟩ := hV
          have h3 : xv 3 = _ := h3
          simp only [putsOf, List.foldl_cons, List.foldl_nil, List.getD_cons_zero, List.getD_cons_succ, List.getD_nil, cond_true, cond_false, Act.put, List.setIfInBounds_toArray, List.set_cons_zero, List.set_cons_succ, h3] at hb
          clear h3
          subst hb
          rw [if_pos (by rfl)]
          (have HZ := Lib.hid (HIN.out _ hS); have c9 := (HZ.out.cell 4).trans (show _ = some _ from rfl); have c8 := HZ.out.lt)
          go_wp2_with fail
          exact hK.out _ _ ⟨_, rfl, hS, rfl, AllP.same _⟩
        refine RelySteps.cons (RelyStep.mk [] [0, 1, 2, 3, 4, 7, 8, 9, 10, 11, 13, 14] rfl rfl rfl (fun xv wS hS hV bq hb K hK => ?_)) ?_
        · clear hV
          simp only [putsOf, List.foldl_cons, List.foldl_nil, List.getD_cons_zero, List.getD_cons_succ, List.getD_nil, cond_true, cond_false, Act.put, List.setIfInBounds_toArray, List.set_cons_zero, List.set_cons_succ] at hb
          subst hb
          rw [if_pos (by rfl)]
          go_wp2_with fail
          exact hK.out _ _ ⟨_, rfl, hS, rfl, AllP.same _⟩
        refine RelySteps.cons (RelyStep.mk [5] [0, 1, 2, 3, 4, 7, 9, 10, 11, 13, 14] rfl rfl rfl (fun xv wS hS hV bq hb K hK => ?_)) ?_
        · obtain ⟨h5, _⟩ := hV
          have h5 : xv 5 = _ := h5
          simp only [putsOf, List.foldl_cons, List.foldl_nil, List.getD_cons_zero, List.getD_cons_succ, List.getD_nil, cond_true, cond_false, Act.put, List.setIfInBounds_toArray, List.set_cons_zero, List.set_cons_succ, h5] at hb
          clear h5
          subst hb
          rw [if_pos (by rfl)]
          (have HZ := Lib.hid (HIN.out _ hS); have c9 := (HZ.out.cell 1).trans (show _ = some _ from rfl); have c8 := HZ.out.lt)
          go_wp2_with fail
          exact hK.out _ _ ⟨_, rfl, hS, rfl, AllP.same _⟩
        refine RelySteps.cons (RelyStep.mk [] [0, 1, 2, 3, 4, 5, 6, 9, 10, 11, 13, 14] rfl rfl rfl (fun xv wS hS hV bq hb K hK => ?_)) ?_
        · clear hV
          simp only [putsOf, List.foldl_cons, List.foldl_nil, List.getD_cons_zero, List.getD_cons_succ, List.getD_nil, cond_true, cond_false, Act.put, List.setIfInBounds_toArray, List.set_cons_zero, List.set_cons_succ] at hb
          subst hb
          rw [if_pos (by rfl)]
          go_wp2_with fail
          exact hK.out _ _ ⟨_, rfl, hS, rfl, AllP.same _⟩
        refine RelySteps.cons (RelyStep.mk [7, 6] [0, 1, 2, 3, 4, 10, 11, 13, 14] rfl rfl rfl (fun xv wS hS hV bq hb K hK => ?_)) ?_
        · obtain ⟨h7, h6, _⟩ := hV
          have h7 : xv 7 = _ := h7
          have h6 : xv 6 = _ := h6
          simp only [putsOf, List.foldl_cons, List.foldl_nil, List.getD_cons_zero, List.getD_cons_succ, List.getD_nil, cond_true, cond_false, Act.put, List.setIfInBounds_toArray, List.set_cons_zero, List.set_cons_succ, h7, h6] at hb
          clear h7
          clear h6
          subst hb
          rw [if_pos (by rfl)]
          go_wp2_with fail
          exact hK.out _ _ ⟨_, rfl, hS, rfl, AllP.same _⟩
        refine RelySteps.cons (RelyStep.mk [8] [0, 1, 2, 3, 4, 11, 13, 14] rfl rfl rfl (fun xv wS hS hV bq hb K hK => ?_)) ?_
        · obtain ⟨h8, _⟩ := hV
          have h8 : xv 8 = _ := h8
          simp only [putsOf, List.foldl_cons, List.foldl_nil, List.getD_cons_zero, List.getD_cons_succ, List.getD_nil, cond_true, cond_false, Act.put, List.setIfInBounds_toArray, List.set_cons_zero, List.set_cons_succ, h8] at hb
          clear h8
          subst hb
          rw [if_pos (by rfl)]
          (have HZ := Lib.hid (HSN.out _ hS); have c9 := (HZ.out.cell (5 + ian)).trans (thC_reg _ v ha8); have c8 := HZ.out.lt)
          go_wp2_with fail
          exact hK.out _ _ ⟨_, rfl, hS, rfl, AllP.same _⟩
        refine RelySteps.cons (RelyStep.mk [2, 4, 9] [0, 5, 11, 13, 14] rfl rfl rfl (fun xv wS hS hV bq hb K hK => ?_)) ?_
        · obtain ⟨h2, h4, h9, _⟩ := hV
          have h2 : xv 2 = _ := h2
          have h4 : xv 4 = _ := h4
          have h9 : xv 9 = _ := h9
          simp only [putsOf, List.foldl_cons, List.foldl_nil, List.getD_cons_zero, List.getD_cons_succ, List.getD_nil, cond_true, cond_false, Act.put, List.setIfInBounds_toArray, List.set_cons_zero, List.set_cons_succ, h2, h4, h9] at hb
          clear h2
          clear h4
          clear h9
          subst hb
          rw [if_pos (by rfl)]
          go_wp2_with fail
          exact hK.out _ _ ⟨_, rfl, hS, rfl, AllP.same _⟩
        refine RelySteps.cons (RelyStep.mk [0, 13] [1, 2, 3, 4, 5, 6, 7, 8, 9, 10, 14] rfl rfl rfl (fun xv wS hS hV bq hb K hK => ?_)) ?_
        · obtain ⟨h0, h13, _⟩ := hV
          have h0 : xv 0 = _ := h0
          simp only [putsOf, List.foldl_cons, List.foldl_nil, List.getD_cons_zero, List.getD_cons_succ, List.getD_nil, cond_true, cond_false, Act.put, List.setIfInBounds_toArray, List.set_cons_zero, List.set_cons_succ, h0] at hb
          clear h0
          generalize xv 13 = y13 at *
          subst hb
          rw [if_pos (by rfl)]
          have q7 : Lies wS (w.heap.size + 1) 27 thZ := h13
          have hk9 := kept_rowT (w := wS) (g := w.heap.size + 1) (thC (Th.mk (pn : Int) yp yr ys yt yg yn) v)
          refine wp_store_row _ _ _ rfl (w.heap.size + 1) (thC (Th.mk (pn : Int) yp yr ys yt yg yn) v) rfl rfl 27 thZ q7 infoTh rfl (HONE.out (Th.mk (pn : Int) yp yr ys yt yg yn)) ?_
          exact hK.out _ _ ⟨undef, rfl, hS.trans (hk9.mono (T := twoRows (w.heap.size + 1) (w.heap.size + 1 + 1)) (fun _ _ e => .inl e)) (fun _ _ e => e), lies_row q7 _, AllP.of _ (fun j hj u h => rgV_mono (twF_kept4 (all_in (fun j => j != 11 && j != 13) rfl hj) (fun (e : w.heap.size + 1 + 1 = w.heap.size + 1) => by omega) hk9) h)⟩
        refine RelySteps.cons (RelyStep.mk [10, 14] [11] rfl rfl rfl (fun xv wS hS hV bq hb K hK => ?_)) ?_
        · obtain ⟨h10, h14, _⟩ := hV
          have h10 : xv 10 = _ := h10
          simp only [putsOf, List.foldl_cons, List.foldl_nil, List.getD_cons_zero, List.getD_cons_succ, List.getD_nil, cond_true, cond_false, Act.put, List.setIfInBounds_toArray, List.set_cons_zero, List.set_cons_succ, h10] at hb
          clear h10
          generalize xv 14 = y14 at *
          subst hb
          rw [if_pos (by rfl)]
          have q8 : Lies wS (w.heap.size + 1 + 1) 37 akZ := h14
          have hk9 := kept_rowT (w := wS) (g := w.heap.size + 1 + 1) (akC (⟨1, ic, id, 0, 0, yg ian⟩))
          refine wp_store_row _ _ _ rfl (w.heap.size + 1 + 1) (akC (⟨1, ic, id, 0, 0, yg ian⟩)) rfl rfl 37 akZ q8 infoAk2 rfl (akC_one _) ?_
          exact hK.out _ _ ⟨undef, rfl, hS.trans (hk9.mono (T := twoRows (w.heap.size + 1) (w.heap.size + 1 + 1)) (fun _ _ e => .inr e)) (fun _ _ e => e), lies_row q8 _, AllP.of _ (fun j hj u h => rgV_mono (twF_kept5 (all_in (fun j => j != 12 && j != 14) rfl hj) (fun (e : w.heap.size + 1 = w.heap.size + 1 + 1) => by omega) hk9) h)⟩
        exact RelySteps.nil
      case rE =>
        intro xv wE hS hV
        have h11 := hV 11 (by decide) (by decide)
        have h12 := hV 12 (by decide) (by decide)
        clear hV
        simp only [putsOf, List.foldl_cons, List.foldl_nil, List.getD_cons_zero, List.getD_cons_succ, List.getD_nil, cond_true, cond_false, Act.put, List.setIfInBounds_toArray, List.set_cons_zero, List.set_cons_succ]
        generalize xv 0 = y0 at *
        generalize xv 1 = y1 at *
        generalize xv 2 = y2 at *
        generalize xv 3 = y3 at *
        generalize xv 4 = y4 at *
        generalize xv 5 = y5 at *
        generalize xv 6 = y6 at *
        generalize xv 7 = y7 at *
        generalize xv 8 = y8 at *
        generalize xv 9 = y9 at *
        generalize xv 10 = y10 at *
        generalize xv 11 = y11 at *
        generalize xv 12 = y12 at *
        have Q4 : Hid (Lies wE (w.heap.size + 1) 27 (thC (Th.mk (pn : Int) yp yr ys yt yg yn) v)) := h11
        have Q5 : Hid (Lies wE (w.heap.size + 1 + 1) 37 (akC (⟨1, ic, id, 0, 0, yg ian⟩))) := h12
        have HBZ := Lib.hid (HBL.out _ hS)
        clear hS HSN HBL
        replace Q5 : Hid (Lies wE (w.heap.size + 1 + 1) 37 (akC (reqA l (Th.mk (pn : Int) yp yr ys yt yg yn)))) := by show Lies _ _ _ _; rw [HRE.out]; exact Q5.out
        clear HRE H4 H5 HG HB HONE
        generalize hzz : reqA l (Th.mk (pn : Int) yp yr ys yt yg yn) = z at *
        have HZE := Lib.hid hzz
        clear hzz
        have z0 := (Q4.out.cell 0).trans (show _ = some (Value.int .i64 (Th.mk (pn : Int) yp yr ys yt yg yn).at_) from rfl)
        have z1 := (Q4.out.cell 1).trans (show _ = some (Value.int .i64 (Th.mk (pn : Int) yp yr ys yt yg yn).ph) from rfl)
        have z2 := (Q4.out.cell 2).trans (show _ = some (Value.int .i64 (Th.mk (pn : Int) yp yr ys yt yg yn).rg) from rfl)
        have z3 := (Q4.out.cell 3).trans (show _ = some (Value.int .i64 (Th.mk (pn : Int) yp yr ys yt yg yn).st) from rfl)
        have z4 := (Q4.out.cell 4).trans (show _ = some (Value.int .u64 ((Th.mk (pn : Int) yp yr ys yt yg yn).tk : Int)) from rfl)
        have z5 := (Q4.out.cell 5).trans (show _ = some (Value.int .u64 ((Th.mk (pn : Int) yp yr ys yt yg yn).r 0 : Int)) from rfl)
        have z6 := (Q4.out.cell 6).trans (show _ = some (Value.int .u64 ((Th.mk (pn : Int) yp yr ys yt yg yn).r 1 : Int)) from rfl)
        have z7 := (Q4.out.cell 7).trans (show _ = some (Value.int .u64 ((Th.mk (pn : Int) yp yr ys yt yg yn).r 2 : Int)) from rfl)
        have z8 := (Q4.out.cell 8).trans (show _ = some (Value.int .u64 ((Th.mk (pn : Int) yp yr ys yt yg yn).r 3 : Int)) from rfl)
        have z9 := (Q4.out.cell 9).trans (show _ = some (Value.int .u64 ((Th.mk (pn : Int) yp yr ys yt yg yn).r 4 : Int)) from rfl)
        have z10 := (Q4.out.cell 10).trans (show _ = some (Value.int .u64 ((Th.mk (pn : Int) yp yr ys yt yg yn).r 5 : Int)) from rfl)
        have z11 := (Q4.out.cell 11).trans (show _ = some (Value.int .u64 ((Th.mk (pn : Int) yp yr ys yt yg yn).r 6 : Int)) from rfl)
        have z12 := (Q4.out.cell 12).trans (show _ = some (Value.int .u64 ((Th.mk (pn : Int) yp yr ys yt yg yn).r 7 : Int)) from rfl)
        have z13 := (Q4.out.cell 13).trans (show _ = some (v) from rfl)
        have zl := Q4.out.lt
        have k0 := (Q5.out.cell 0).trans (show _ = some (.int .i64 z.kd) from rfl)
        have k1 := (Q5.out.cell 1).trans (show _ = some (.int .i64 z.rg) from rfl)
        have k2 := (Q5.out.cell 2).trans (show _ = some (.int .i64 z.md) from rfl)
        have k3 := (Q5.out.cell 3).trans (show _ = some (.int .i64 z.rd) from rfl)
        have k4 := (Q5.out.cell 4).trans (show _ = some (.int .u64 (z.tk : Int)) from rfl)
        have k5 := (Q5.out.cell 5).trans (show _ = some (.int .u64 (z.vl : Int)) from rfl)
        go_wp2
        exact bodyPost_ret (v := .tuple #[.agg (thC (Th.mk (pn : Int) yp yr ys yt yg yn) v), .agg (akC z)]) (by simp [results, Try.results15, go_sem, z0, z1, z2, z3, z4, z5, z6, z7, z8, z9, z10, z11, z12, z13, k0, k1, k2, k3, k4, k5]) rfl ⟨by rw [HYE.out, HZE.out], HBZ.out⟩
end Go.Proofs.Ytiegmpjoiekekaa
/-
  Up to what is seen (layer 16): the document's Next, of a thread that runs.
-/
namespace Go.Proofs.Ytiegmpjoiekekaa
open Go.RowKit
set_option linter.unusedVariables false
set_option linter.unusedSimpArgs false
set_option maxHeartbeats 8000000 in
set_option maxRecDepth 100000 in
theorem rfNextD19 (l : List In) (A : Option Addr) (c : Nat) (x : Th) (v : Value) (w : World) (h : InsAt w A c l) (hok : ∀ i ∈ l, inOk i) (hx : thOk x) (hv : v.oneCell' = true) (hr : thB l x = true) (h1 : x.st = 0) (h2 : x.ph = 0) (hcl : (goT l 256 x).at_ ≠ (l.length : Int) ∧ (atT l (goT l 256 x)).op = 19) :
    Calls Try.prog 15 #[.slice A l.length c, .agg (thC x v)] w fun e w' => e = .returned (.tuple #[.agg (thC (nxT l x) v), .agg (akC (reqA l (nxT l x)))]) ∧ Below w.heap.size w w' := by
  obtain ⟨hc1, hc2⟩ := seq_form h
  have hb3 : Below w.heap.size w (((w.alloc (.cells (thC x v) 27)).alloc (.cells thZ 27)).alloc (.cells akZ 37)) := (((Below.refl _ _).alloc (Nat.le_refl _) _).alloc (by simp) _).alloc (by simp; omega) _
  have l1 := ((Lies.made w 27 (thC x v)).alloc (.cells thZ 27)).alloc (.cells akZ 37)
  have l2 := (Lies.made (w.alloc (.cells (thC x v) 27)) 27 thZ).alloc (.cells akZ 37)
  have l3 := Lies.made ((w.alloc (.cells (thC x v) 27)).alloc (.cells thZ 27)) 37 akZ
  rw [show (w.alloc (.cells (thC x v) 27)).heap.size = w.heap.size + 1 by simp] at l2
  rw [show ((w.alloc (.cells (thC x v) 27)).alloc (.cells thZ 27)).heap.size = w.heap.size + 1 + 1 by simp] at l3
  have HB := Lib.hid hb3
  have HG := Lib.hid l1
  have H4 := Lib.hid l2
  have H5 := Lib.hid l3
  have HONE := Lib.hid (fun z => thC_one z hv)
  obtain ⟨hc, hin, hp⟩ := thB_parts hr
  clear hb3 l1 l2 l3
  have e0 : (x.st != 0) = false := by rw [bne_eq_false_iff_eq]; exact h1
  have e1 : (x.ph == 1) = false := by rw [beq_eq_false_iff_ne]; omega
  have e2 : (x.ph == 2) = false := by rw [beq_eq_false_iff_ne]; omega
  have HRN := Lib.hid (nxT_run (l := l) h1 h2)
  have HX := Lib.hid (thB_inv hr hx)
  have HRS : Hid (∀ y : Th, goT l 256 x = y → y.st = 0 ∧ y.ph = 0) := fun y e => by
    obtain ⟨q1, q2, q3, q4, q5⟩ := goT_rest l 256 x
    rw [← e]; exact ⟨q3.trans h1, q1.trans h2⟩
  have HALL := Lib.hid (codeB_parts hc).2
  have hlen := (codeB_parts hc).1
  have HH := Lib.hid (fun (q : World) (hq : Below w.heap.size w q) => h.later hq)
  have HOK := Lib.hid hok
  have HV := Lib.hid hv
  have HCL := Lib.hid hcl
  clear hcl
  have HPLN := Lib.hid (fun y i q hq a b c2 d e f g hx hk => rfPlain16 l A c y v i q hq a b c2 d e f g hx hk hv)
  clear h1 h2 hr hc hin hp h hok hx hv
  go_enter Try.func15, Try.ntmps15
  go_upto_region 1 with (fail)
  generalize (((w.alloc (.cells (thC x v) 27)).alloc (.cells thZ 27)).alloc (.cells akZ 37)) = w1 at *
  have c0 := (HG.out.cell 0).trans (show _ = some (Value.int .i64 x.at_) from rfl)
  have c1 := (HG.out.cell 1).trans (show _ = some (Value.int .i64 x.ph) from rfl)
  have c2 := (HG.out.cell 2).trans (show _ = some (Value.int .i64 x.rg) from rfl)
  have c3 := (HG.out.cell 3).trans (show _ = some (Value.int .i64 x.st) from rfl)
  have c4 := (HG.out.cell 4).trans (show _ = some (Value.int .u64 (x.tk : Int)) from rfl)
  have c5 := (HG.out.cell 5).trans (show _ = some (Value.int .u64 (x.r 0 : Int)) from rfl)
  have c6 := (HG.out.cell 6).trans (show _ = some (Value.int .u64 (x.r 1 : Int)) from rfl)
  have c7 := (HG.out.cell 7).trans (show _ = some (Value.int .u64 (x.r 2 : Int)) from rfl)
  have c8 := (HG.out.cell 8).trans (show _ = some (Value.int .u64 (x.r 3 : Int)) from rfl)
  have c9 := (HG.out.cell 9).trans (show _ = some (Value.int .u64 (x.r 4 : Int)) from rfl)
  have c10 := (HG.out.cell 10).trans (show _ = some (Value.int .u64 (x.r 5 : Int)) from rfl)
  have c11 := (HG.out.cell 11).trans (show _ = some (Value.int .u64 (x.r 6 : Int)) from rfl)
  have c12 := (HG.out.cell 12).trans (show _ = some (Value.int .u64 (x.r 7 : Int)) from rfl)
  have c13 := (HG.out.cell 13).trans (show _ = some (v) from rfl)
  have cl := HG.out.lt
  go_wp2_with fail
  clear c0 c1 c2 c3 c4 c5 c6 c7 c8 c9 c10 c11 c12 c13 cl
  clear e0 e1 e2
  go_loopw [6] (fun u wr => ∃ (k : Nat) (y : Th), k ≤ 256 ∧ u = .int .i64 k ∧ Hid (goT l 256 x = goT l (256 - k) y) ∧ Hid (InvT l y) ∧ Hid (Lies wr w.heap.size 27 (thC y v)) ∧ Hid (Lies wr (w.heap.size + 1) 27 thZ) ∧ Hid (Lies wr (w.heap.size + 1 + 1) 37 akZ) ∧ Hid (Below w.heap.size w wr)) (fun u _ => 256 - (intOf u).toNat)
  case atStart => exact ⟨0, x, by omega, rfl, Lib.hid rfl, HX, HG, H4, H5, HB⟩
  case round =>
    clear HG H4 H5 HB HX
    obtain ⟨k, y, hk, rfl, HGT, HI, HG, H4, H5, HB⟩ := hrel
    obtain ⟨ya, yp, yr, ys, yt, yg, yn⟩ := y
    obtain ⟨pn, hpn⟩ : ∃ n : Nat, ya = n := ⟨ya.toNat, by have := HI.out.1; have : 0 ≤ ya := this; omega⟩
    subst hpn
    have hpl : (pn : Int) ≤ (l.length : Int) := HI.out.2.1
    have c0 := (HG.out.cell 0).trans (show _ = some (Value.int .i64 (Th.mk (pn : Int) yp yr ys yt yg yn).at_) from rfl)
    have c1 := (HG.out.cell 1).trans (show _ = some (Value.int .i64 (Th.mk (pn : Int) yp yr ys yt yg yn).ph) from rfl)
    have c2 := (HG.out.cell 2).trans (show _ = some (Value.int .i64 (Th.mk (pn : Int) yp yr ys yt yg yn).rg) from rfl)
    have c3 := (HG.out.cell 3).trans (show _ = some (Value.int .i64 (Th.mk (pn : Int) yp yr ys yt yg yn).st) from rfl)
    have c4 := (HG.out.cell 4).trans (show _ = some (Value.int .u64 ((Th.mk (pn : Int) yp yr ys yt yg yn).tk : Int)) from rfl)
    have c5 := (HG.out.cell 5).trans (show _ = some (Value.int .u64 ((Th.mk (pn : Int) yp yr ys yt yg yn).r 0 : Int)) from rfl)
    have c6 := (HG.out.cell 6).trans (show _ = some (Value.int .u64 ((Th.mk (pn : Int) yp yr ys yt yg yn).r 1 : Int)) from rfl)
    have c7 := (HG.out.cell 7).trans (show _ = some (Value.int .u64 ((Th.mk (pn : Int) yp yr ys yt yg yn).r 2 : Int)) from rfl)
    have c8 := (HG.out.cell 8).trans (show _ = some (Value.int .u64 ((Th.mk (pn : Int) yp yr ys yt yg yn).r 3 : Int)) from rfl)
    have c9 := (HG.out.cell 9).trans (show _ = some (Value.int .u64 ((Th.mk (pn : Int) yp yr ys yt yg yn).r 4 : Int)) from rfl)
    have c10 := (HG.out.cell 10).trans (show _ = some (Value.int .u64 ((Th.mk (pn : Int) yp yr ys yt yg yn).r 5 : Int)) from rfl)
    have c11 := (HG.out.cell 11).trans (show _ = some (Value.int .u64 ((Th.mk (pn : Int) yp yr ys yt yg yn).r 6 : Int)) from rfl)
    have c12 := (HG.out.cell 12).trans (show _ = some (Value.int .u64 ((Th.mk (pn : Int) yp yr ys yt yg yn).r 7 : Int)) from rfl)
    have c13 := (HG.out.cell 13).trans (show _ = some (v) from rfl)
    have cl := HG.out.lt
    by_cases hat : pn = l.length
    · have d2 : decide ((pn : Int) < (l.length : Int)) = false := decide_eq_false (by omega)
      have d2n : decide (pn < l.length) = false := decide_eq_false (by omega)
      have d4 : ((pn : Int) == (l.length : Int)) = true := by rw [beq_iff_eq]; omega
      have d4n : (pn == l.length) = true := by rw [beq_iff_eq]; exact hat
      have hati : (Th.mk (pn : Int) yp yr ys yt yg yn).at_ = (l.length : Int) := by show (pn : Int) = _; omega
      have HPE : Hid (goT l 256 x = (Th.mk (pn : Int) yp yr ys yt yg yn)) := HGT.out.trans (goT_stop (plT_end hati) _)
      obtain ⟨hys, hyp⟩ := HRS.out _ HPE.out
      have HRE := Lib.hid (reqA_end (l := l) hys hati)
      have HYE := Lib.hid (HRN.out.trans HPE.out)
      exfalso
      have hcl := HCL.out
      rw [HPE.out] at hcl
      exact hcl.1 hati
    -- S1E
    have hpl2 : pn < l.length := by omega
    have hal : (pn : Int) < (l.length : Int) := by omega
    have d2 : decide ((pn : Int) < (l.length : Int)) = true := decide_eq_true hal
    have d2n : decide (pn < l.length) = true := decide_eq_true hpl2
    have d4 : ((pn : Int) == (l.length : Int)) = false := by rw [beq_eq_false_iff_ne]; omega
    have d4n : (pn == l.length) = false := by rw [beq_eq_false_iff_ne]; exact hat
    have hat : (Th.mk (pn : Int) yp yr ys yt yg yn).at_ ≠ (l.length : Int) := by show (pn : Int) ≠ _; omega
    obtain ⟨i, hi⟩ : ∃ i, l[pn]? = some i := ⟨_, List.getElem?_eq_getElem hpl2⟩
    have HAT := Lib.hid (atT_get (x := (Th.mk (pn : Int) yp yr ys yt yg yn)) rfl hi)
    have HM := Lib.hid (List.mem_of_getElem? hi)
    have HR := Lib.hid (HALL.out i HM.out).1
    have hi1 := right_op1 HR.out
    have hih := HH.out _ HB.out
    obtain ⟨b, off, rfl, hbl, hg⟩ := InsAt.at_ hih hi
    have HG1 := Lib.hid hg
    clear hg hi hbl
    have g0 := HG1.out 0 _ (by decide) rfl
    have g1 := HG1.out 1 _ (by decide) rfl
    have g2 := HG1.out 2 _ (by decide) rfl
    have g3 := HG1.out 3 _ (by decide) rfl
    have g4 := HG1.out 4 _ (by decide) rfl
    have g5 := HG1.out 5 _ (by decide) rfl
    rw [Nat.add_zero] at g0
    clear HG1
    by_cases hop17 : i.op ≤ 17
    · have d3 : decide (i.op ≤ 17) = true := decide_eq_true hop17
      by_cases hlt : k < 256
      · have d1 : decide ((k : Int) < 256) = true := decide_eq_true (by omega)
        have d1n : decide (k < 256) = true := decide_eq_true hlt
        have HST := Lib.hid (fun q hq => HPLN.out (Th.mk (pn : Int) yp yr ys yt yg yn) i q hq (show (0:Int) ≤ (pn : Int) by omega) hal hlen HAT.out HR.out hi1.1 hop17 HI.out.2.2 (HOK.out i HM.out).2.2.2.2.2)
        have HI2 := Lib.hid (step_inv (i := i) HI.out hal (HOK.out i HM.out).2.2.2.2.2 (HALL.out i HM.out).2)
        have HGT2 : Hid (goT l 256 x = goT l (256 - (k + 1)) (stepT i (Th.mk (pn : Int) yp yr ys yt yg yn))) := by
          have := goT_step (plT_in HAT.out hal hi1.1 hop17) (256 - (k + 1))
          rw [show 256 - (k + 1) + 1 = 256 - k by omega, HAT.out] at this
          exact HGT.out.trans this
        have HIH := Lib.hid hih
        clear HGT HI HAT HM HR hi1 hih hop17 HRN HRS HALL HOK HV HPLN hat
        go_wp2_with fail
        clear c0 c1 c2 c3 c4 c5 c6 c7 c8 c9 c10 c11 c12 c13 cl
        clear g0 g1 g2 g3 g4 g5 d2 d2n d3 d4 d4n
        refine (HST.out _ HIH.out).mono ?_
        rintro e w4 ⟨rfl, hbm⟩
        replace HG := Lib.hid (HG.out.below hbm HG.out.lt)
        replace H4 := Lib.hid (H4.out.below hbm H4.out.lt)
        replace H5 := Lib.hid (H5.out.below hbm H5.out.lt)
        replace HB := Lib.hid (HB.out.trans (hbm.mono HB.out.size))
        clear hbm HST HIH
        generalize stepT i (Th.mk (pn : Int) yp yr ys yt yg yn) = z at *
        have HG4 := Lib.hid (lies_row HG.out (thC z v))
        have hk4 := kept_rowT (w := w4) (g := w.heap.size) (thC z v)
        have H44 := Lib.hid (H4.out.kept hk4 (fun (e : w.heap.size + 1 = w.heap.size) => by omega))
        have H54 := Lib.hid (H5.out.kept hk4 (fun (e : w.heap.size + 1 + 1 = w.heap.size) => by omega))
        have HB4 := Lib.hid (HB.out.trans (hk4.below HB.out.size (fun k hk (e : k = w.heap.size) => by omega)))
        clear hk4
        go_wp2_with (
          refine wpList_store_row rfl 27 _ _ rfl (w.heap.size) (thC z v) rfl rfl 27 (thC (Th.mk (pn : Int) yp yr ys yt yg yn) v) HG.out infoTh rfl (HONE.out z) ?_
          clear HG H4 H5 HB
          generalize w4.setRow (w.heap.size) (thC z v) = w5 at *
          go_wp2
          go_roundw
          case rel => exact ⟨k + 1, z, by omega, by go_num, HGT2, HI2, HG4, H44, H54, HB4⟩
          case measure => simp [intOf]; omega)
      · have d1 : decide ((k : Int) < 256) = false := decide_eq_false (by omega)
        have d1n : decide (k < 256) = false := decide_eq_false hlt
        obtain rfl : k = 256 := by omega
        have HPE : Hid (goT l 256 x = (Th.mk (pn : Int) yp yr ys yt yg yn)) := HGT.out
        obtain ⟨hys, hyp⟩ := HRS.out _ HPE.out
        have HRE := Lib.hid (reqA_spin (l := l) hys hyp hat HAT.out hi1.1 hop17)
        have HYE := Lib.hid (HRN.out.trans HPE.out)
        exfalso
        have hcl := HCL.out
        rw [HPE.out] at hcl
        rw [HAT.out] at hcl
        have := hcl.2
        omega
    -- S2E
    have d3 : decide (i.op ≤ 17) = false := decide_eq_false hop17
    have HPE : Hid (goT l 256 x = (Th.mk (pn : Int) yp yr ys yt yg yn)) := HGT.out.trans (goT_stop (plT_out HAT.out (by omega)) _)
    obtain ⟨hys, hyp⟩ := HRS.out _ HPE.out
    have HRV := Lib.hid (reqA_vis (l := l) hys hyp hat HAT.out (by omega))
    have HYE := Lib.hid (HRN.out.trans HPE.out)
    have hops : i.op = 18 ∨ i.op = 19 ∨ i.op = 20 ∨ i.op = 21 ∨ i.op = 22 ∨ i.op = 23 ∨ i.op = 24 ∨ i.op = 25 := by omega
    have hop : i.op = 19 := by have hcl := HCL.out; rw [HPE.out, HAT.out] at hcl; exact hcl.2
    clear HGT HPE hys hyp hat HRN HRS HALL HH HOK HV HPLN HI hpl hi1 hop17 HAT HM hih HCL
    obtain ⟨kb, hkb⟩ : ∃ b, decide (k < 256) = b := ⟨_, rfl⟩
    have hkb2 : decide ((k : Int) < 256) = kb := by rw [← hkb]; congr 1; apply propext; omega
    cases kb
    all_goals
      obtain ⟨iop, ia, ib, ic, id, ik⟩ := i
      go_upto_region 14 with (fail)
      clear c0 c1 c2 c3 c4 c5 c6 c7 c8 c9 c10 c11 c12 c13 cl
      clear g0 g1 g2 g3 g4 g5
      have hba := Below.refl wr.heap.size wr
      have hba2 := hba.alloc (Nat.le_refl _) (.cells (inC ⟨iop, ia, ib, ic, id, ik⟩) 50)
      have HI7 := Lib.hid (Lies.made wr 50 (inC ⟨iop, ia, ib, ic, id, ik⟩))
      have HN7 : Hid (w.heap.size + 1 + 1 < wr.heap.size) := H5.out.lt
      replace HG := Lib.hid (HG.out.below hba2 HG.out.lt)
      replace H4 := Lib.hid (H4.out.below hba2 H4.out.lt)
      replace H5 := Lib.hid (H5.out.below hba2 H5.out.lt)
      replace HB := Lib.hid (HB.out.trans (hba2.mono HB.out.size))
      clear hba hba2
      generalize hw9 : wr.alloc (.cells (inC ⟨iop, ia, ib, ic, id, ik⟩) 50) = w9 at *
      generalize hn7 : wr.heap.size = n7 at *
      clear hw9 hn7
      clear hkb hkb2 d2 d2n d3 d4 d4n
      have hop : iop = 19 := hop
      subst hop
      have HRE : Hid (reqA l (Th.mk (pn : Int) yp yr ys yt yg yn) = ⟨2, ic, id, wrap64 (ik : Int), 0, 0⟩) := by
        show _ = _
        rw [HRV.out]
        rfl
      clear HRV
      have d0 := (HI7.out.cell 0).trans (show _ = some (Value.int .i64 19) from rfl)
      have dl := HI7.out.lt
      go_wp2_with fail
      clear d0 dl
      have HSN := Lib.hid (fun (q : World) (hq : Kept (twoRows (w.heap.size + 1) (w.heap.size + 1 + 1)) w9 q) => HG.out.kept hq (fun (e : w.heap.size = _ ∨ w.heap.size = _) => by omega))
      have HIN := Lib.hid (fun (q : World) (hq : Kept (twoRows (w.heap.size + 1) (w.heap.size + 1 + 1)) w9 q) => HI7.out.kept hq (fun (e : n7 = _ ∨ n7 = _) => by have := HN7.out; omega))
      have HBL := Lib.hid (fun (q : World) (hq : Kept (twoRows (w.heap.size + 1) (w.heap.size + 1 + 1)) w9 q) => HB.out.trans (hq.below HB.out.size (fun k hk (e : k = _ ∨ k = _) => by omega)))
      refine wp_region_rely (fun q => Kept (twoRows (w.heap.size + 1) (w.heap.size + 1 + 1)) w9 q) (rgV [some (.agg (thC (Th.mk (pn : Int) yp yr ys yt yg yn) v)), some (.pointer (some ⟨n7, 3, none⟩)), some (.int .i64 (ic)), some (.pointer (some ⟨n7, 4, none⟩)), some (.int .i64 (id)), some (.pointer (some ⟨n7, 5, none⟩)), some (.int .u64 (ik : Int)), some (.int .i64 (wrap64 (ik : Int))), some (.agg (akC ⟨2, ic, id, wrap64 (ik : Int), 0, 0⟩)), none, none, none, none] (twF 9 10 11 12 (w.heap.size + 1) (w.heap.size + 1 + 1) 27 37 (thC (Th.mk (pn : Int) yp yr ys yt yg yn) v) (akC (⟨2, ic, id, wrap64 (ik : Int), 0, 0⟩)) thZ akZ)) [some 99, some 100, some 101, some 102, some 103, some 104, some 105, some 106, some 107, none, none] [[], [], [1], [], [3], [], [5], [6], [2, 4, 7], [0, 11], [8, 12]] [[], [], [1], [], [3], [], [5], [5, 6], [1, 2, 3, 4, 6, 7], [0, 11], [0, 1, 2, 3, 4, 5, 6, 7, 8, 11, 12]] [[1, 2, 3, 4, 5, 6, 7, 8, 11, 12], [0, 3, 4, 5, 6, 7, 8, 9, 11, 12], [0, 3, 4, 5, 6, 7, 9, 11, 12], [0, 1, 2, 5, 6, 7, 8, 9, 11, 12], [0, 1, 2, 5, 6, 7, 9, 11, 12], [0, 1, 2, 3, 4, 7, 8, 9, 11, 12], [0, 1, 2, 3, 4, 8, 9, 11, 12], [0, 1, 2, 3, 4, 9, 11, 12], [0, 9, 11, 12], [1, 2, 3, 4, 5, 6, 7, 8, 12], [9]] [0, 1, 2, 3, 4, 5, 6, 7, 8, 9, 10] 13 (by kernel_rfl) (by kernel_rfl) (by kernel_rfl) (by kernel_rfl) ?rS ?rI ?rT ?rE
      case rS => exact Kept.drew _ _
      case rI =>
        intro j h1 h2
        have h1 : j < 13 := h1
        have h2 : 11 ≤ j := h2
        have hj : j = 11 ∨ j = 12 := by omega
        rcases hj with rfl | rfl
        · exact H4.out.drewN 1
        · exact H5.out.drewN 1
      case rT =>
        refine RelySteps.cons (RelyStep.mk [] [1, 2, 3, 4, 5, 6, 7, 8, 11, 12] rfl rfl rfl (fun xv wS hS hV bq hb K hK => ?_)) ?_
        · clear hV
          simp only [putsOf, List.foldl_cons, List.foldl_nil, List.getD_cons_zero, List.getD_cons_succ, List.getD_nil, cond_true, cond_false, Act.put, List.setIfInBounds_toArray, List.set_cons_zero, List.set_cons_succ] at hb
          subst hb
          rw [if_pos (by rfl)]
          (have HZ := Lib.hid (HSN.out _ hS); have c0 := (HZ.out.cell 0).trans (show _ = some (Value.int .i64 (Th.mk (pn : Int) yp yr ys yt yg yn).at_) from rfl); have c1 := (HZ.out.cell 1).trans (show _ = some (Value.int .i64 (Th.mk (pn : Int) yp yr ys yt yg yn).ph) from rfl); have c2 := (HZ.out.cell 2).trans (show _ = some (Value.int .i64 (Th.mk (pn : Int) yp yr ys yt yg yn).rg) from rfl); have c3 := (HZ.out.cell 3).trans (show _ = some (Value.int .i64 (Th.mk (pn : Int) yp yr ys yt yg yn).st) from rfl); have c4 := (HZ.out.cell 4).trans (show _ = some (Value.int .u64 ((Th.mk (pn : Int) yp yr ys yt yg yn).tk : Int)) from rfl); have c5 := (HZ.out.cell 5).trans (show _ = some (Value.int .u64 ((Th.mk (pn : Int) yp yr ys yt yg yn).r 0 : Int)) from rfl); have c6 := (HZ.out.cell 6).trans (show _ = some (Value.int .u64 ((Th.mk (pn : Int) yp yr ys yt yg yn).r 1 : Int)) from rfl); have c7 := (HZ.out.cell 7).trans (show _ = some (Value.int .u64 ((Th.mk (pn : Int) yp yr ys yt yg yn).r 2 : Int)) from rfl); have c8 := (HZ.out.cell 8).trans (show _ = some (Value.int .u64 ((Th.mk (pn : Int) yp yr ys yt yg yn).r 3 : Int)) from rfl); have c9 := (HZ.out.cell 9).trans (show _ = some (Value.int .u64 ((Th.mk (pn : Int) yp yr ys yt yg yn).r 4 : Int)) from rfl); have c10 := (HZ.out.cell 10).trans (show _ = some (Value.int .u64 ((Th.mk (pn : Int) yp yr ys yt yg yn).r 5 : Int)) from rfl); have c11 := (HZ.out.cell 11).trans (show _ = some (Value.int .u64 ((Th.mk (pn : Int) yp yr ys yt yg yn).r 6 : Int)) from rfl); have c12 := (HZ.out.cell 12).trans (show _ = some (Value.int .u64 ((Th.mk (pn : Int) yp yr ys yt yg yn).r 7 : Int)) from rfl); have c13 := (HZ.out.cell 13).trans (show _ = some (v) from rfl); have cl := HZ.out.lt)
          go_wp2_with fail
          exact hK.out _ _ ⟨_, rfl, hS, rfl, AllP.same _⟩
        refine RelySteps.cons (RelyStep.mk [] [0, 3, 4, 5, 6, 7, 8, 9, 11, 12] rfl rfl rfl (fun xv wS hS hV bq hb K hK => ?_)) ?_
        · clear hV
          simp only [putsOf, List.foldl_cons, List.foldl_nil, List.getD_cons_zero, List.getD_cons_succ, List.getD_nil, cond_true, cond_false, Act.put, List.setIfInBounds_toArray, List.set_cons_zero, List.set_cons_succ] at hb
          subst hb
          rw [if_pos (by rfl)]
          go_wp2_with fail
          exact hK.out _ _ ⟨_, rfl, hS, rfl, AllP.same _⟩
        refine RelySteps.cons (RelyStep.mk [1] [0, 3, 4, 5, 6, 7, 9, 11, 12] rfl rfl rfl (fun xv wS hS hV bq hb K hK => ?_)) ?_
        · obtain ⟨h1, _⟩ := hV
          have h1 : xv 1 = _ := h1
          simp only [putsOf, List.foldl_cons, List.foldl_nil, List.getD_cons_zero, List.getD_cons_succ, List.getD_nil, cond_true, cond_false, Act.put, List.setIfInBounds_toArray, List.set_cons_zero, List.set_cons_succ, h1] at hb
          clear h1
          subst hb
          rw [if_pos (by rfl)]
          (have HZ := Lib.hid (HIN.out _ hS); have c9 := (HZ.out.cell 3).trans (show _ = some _ from rfl); have c8 := HZ.out.lt)
          go_wp2_with fail
          exact hK.out _ _ ⟨_, rfl, hS, rfl, AllP.same _⟩
        refine RelySteps.cons (RelyStep.mk [] [0, 1, 2, 5, 6, 7, 8, 9, 11, 12] rfl rfl rfl (fun xv wS hS hV bq hb K hK => ?_)) ?_
        · clear hV
          simp only [putsOf, List.foldl_cons, List.foldl_nil, List.getD_cons_zero, List.getD_cons_succ, List.getD_nil, cond_true, cond_false, Act.put, List.setIfInBounds_toArray, List.set_cons_zero, List.set_cons_succ] at hb
          subst hb
          rw [if_pos (by rfl)]
          go_wp2_with fail
          exact hK.out _ _ ⟨_, rfl, hS, rfl, AllP.same _⟩
        refine RelySteps.cons (RelyStep.mk [3] [0, 1, 2, 5, 6, 7, 9, 11, 12] rfl rfl rfl (fun xv wS hS hV bq hb K hK => ?_)) ?_
        · obtain ⟨h3, _⟩ := hV
          have h3 : xv 3 = _ := h3
          simp only [putsOf, List.foldl_cons, List.foldl_nil, List.getD_cons_zero, List.getD_cons_succ, List.getD_nil, cond_true, cond_false, Act.put, List.setIfInBounds_toArray, List.set_cons_zero, List.set_cons_succ, h3] at hb
          clear h3
          subst hb
          rw [if_pos (by rfl)]
          (have HZ := Lib.hid (HIN.out _ hS); have c9 := (HZ.out.cell 4).trans (show _ = some _ from rfl); have c8 := HZ.out.lt)
          go_wp2_with fail
          exact hK.out _ _ ⟨_, rfl, hS, rfl, AllP.same _⟩
        refine RelySteps.cons (RelyStep.mk [] [0, 1, 2, 3, 4, 7, 8, 9, 11, 12] rfl rfl rfl (fun xv wS hS hV bq hb K hK => ?_)) ?_
        · clear hV
          simp only [putsOf, List.foldl_cons, List.foldl_nil, List.getD_cons_zero, List.getD_cons_succ, List.getD_nil, cond_true, cond_false, Act.put, List.setIfInBounds_toArray, List.set_cons_zero, List.set_cons_succ] at hb
          subst hb
          rw [if_pos (by rfl)]
          go_wp2_with fail
          exact hK.out _ _ ⟨_, rfl, hS, rfl, AllP.same _⟩
        refine RelySteps.cons (RelyStep.mk [5] [0, 1, 2, 3, 4, 8, 9, 11, 12] rfl rfl rfl (fun xv wS hS hV bq hb K hK => ?_)) ?_
        · obtain ⟨h5, _⟩ := hV
          have h5 : xv 5 = _ := h5
          simp only [putsOf, List.foldl_cons, List.foldl_nil, List.getD_cons_zero, List.getD_cons_succ, List.getD_nil, cond_true, cond_false, Act.put, List.setIfInBounds_toArray, List.set_cons_zero, List.set_cons_succ, h5] at hb
          clear h5
          subst hb
          rw [if_pos (by rfl)]
          (have HZ := Lib.hid (HIN.out _ hS); have c9 := (HZ.out.cell 5).trans (show _ = some _ from rfl); have c8 := HZ.out.lt)
          go_wp2_with fail
          exact hK.out _ _ ⟨_, rfl, hS, rfl, AllP.same _⟩
        refine RelySteps.cons (RelyStep.mk [6] [0, 1, 2, 3, 4, 9, 11, 12] rfl rfl rfl (fun xv wS hS hV bq hb K hK => ?_)) ?_
        · obtain ⟨h6, _⟩ := hV
          have h6 : xv 6 = _ := h6
          simp only [putsOf, List.foldl_cons, List.foldl_nil, List.getD_cons_zero, List.getD_cons_succ, List.getD_nil, cond_true, cond_false, Act.put, List.setIfInBounds_toArray, List.set_cons_zero, List.set_cons_succ, h6] at hb
          clear h6
          subst hb
          rw [if_pos (by rfl)]
          go_wp2_with fail
          exact hK.out _ _ ⟨_, rfl, hS, rfl, AllP.same _⟩
        refine RelySteps.cons (RelyStep.mk [2, 4, 7] [0, 9, 11, 12] rfl rfl rfl (fun xv wS hS hV bq hb K hK => ?_)) ?_
        · obtain ⟨h2, h4, h7, _⟩ := hV
          have h2 : xv 2 = _ := h2
          have h4 : xv 4 = _ := h4
          have h7 : xv 7 = _ := h7
          simp only [putsOf, List.foldl_cons, List.foldl_nil, List.getD_cons_zero, List.getD_cons_succ, List.getD_nil, cond_true, cond_false, Act.put, List.setIfInBounds_toArray, List.set_cons_zero, List.set_cons_succ, h2, h4, h7] at hb
          clear h2
          clear h4
          clear h7
          subst hb
          rw [if_pos (by rfl)]
          go_wp2_with fail
          exact hK.out _ _ ⟨_, rfl, hS, rfl, AllP.same _⟩
        refine RelySteps.cons (RelyStep.mk [0, 11] [1, 2, 3, 4, 5, 6, 7, 8, 12] rfl rfl rfl (fun xv wS hS hV bq hb K hK => ?_)) ?_
        · obtain ⟨h0, h11, _⟩ := hV
          have h0 : xv 0 = _ := h0
          simp only [putsOf, List.foldl_cons, List.foldl_nil, List.getD_cons_zero, List.getD_cons_succ, List.getD_nil, cond_true, cond_false, Act.put, List.setIfInBounds_toArray, List.set_cons_zero, List.set_cons_succ, h0] at hb
          clear h0
          generalize xv 11 = y11 at *
          subst hb
          rw [if_pos (by rfl)]
          have q7 : Lies wS (w.heap.size + 1) 27 thZ := h11
          have hk9 := kept_rowT (w := wS) (g := w.heap.size + 1) (thC (Th.mk (pn : Int) yp yr ys yt yg yn) v)
          refine wp_store_row _ _ _ rfl (w.heap.size + 1) (thC (Th.mk (pn : Int) yp yr ys yt yg yn) v) rfl rfl 27 thZ q7 infoTh rfl (HONE.out (Th.mk (pn : Int) yp yr ys yt yg yn)) ?_
          exact hK.out _ _ ⟨undef, rfl, hS.trans (hk9.mono (T := twoRows (w.heap.size + 1) (w.heap.size + 1 + 1)) (fun _ _ e => .inl e)) (fun _ _ e => e), lies_row q7 _, AllP.of _ (fun j hj u h => rgV_mono (twF_kept4 (all_in (fun j => j != 9 && j != 11) rfl hj) (fun (e : w.heap.size + 1 + 1 = w.heap.size + 1) => by omega) hk9) h)⟩
        refine RelySteps.cons (RelyStep.mk [8, 12] [9] rfl rfl rfl (fun xv wS hS hV bq hb K hK => ?_)) ?_
        · obtain ⟨h8, h12, _⟩ := hV
          have h8 : xv 8 = _ := h8
          simp only [putsOf, List.foldl_cons, List.foldl_nil, List.getD_cons_zero, List.getD_cons_succ, List.getD_nil, cond_true, cond_false, Act.put, List.setIfInBounds_toArray, List.set_cons_zero, List.set_cons_succ, h8] at hb
          clear h8
          generalize xv 12 = y12 at *
          subst hb
          rw [if_pos (by rfl)]
          have q8 : Lies wS (w.heap.size + 1 + 1) 37 akZ := h12
          have hk9 := kept_rowT (w := wS) (g := w.heap.size + 1 + 1) (akC (⟨2, ic, id, wrap64 (ik : Int), 0, 0⟩))
          refine wp_store_row _ _ _ rfl (w.heap.size + 1 + 1) (akC (⟨2, ic, id, wrap64 (ik : Int), 0, 0⟩)) rfl rfl 37 akZ q8 infoAk2 rfl (akC_one _) ?_
          exact hK.out _ _ ⟨undef, rfl, hS.trans (hk9.mono (T := twoRows (w.heap.size + 1) (w.heap.size + 1 + 1)) (fun _ _ e => .inr e)) (fun _ _ e => e), lies_row q8 _, AllP.of _ (fun j hj u h => rgV_mono (twF_kept5 (all_in (fun j => j != 10 && j != 12) rfl hj) (fun (e : w.heap.size + 1 = w.heap.size + 1 + 1) => by omega) hk9) h)⟩
        exact RelySteps.nil
      case rE =>
        intro xv wE hS hV
        have h9 := hV 9 (by decide) (by decide)
        have h10 := hV 10 (by decide) (by decide)
        clear hV
        simp only [putsOf, List.foldl_cons, List.foldl_nil, List.getD_cons_zero, List.getD_cons_succ, List.getD_nil, cond_true, cond_false, Act.put, List.setIfInBounds_toArray, List.set_cons_zero, List.set_cons_succ]
        generalize xv 0 = y0 at *
        generalize xv 1 = y1 at *
        generalize xv 2 = y2 at *
        generalize xv 3 = y3 at *
        generalize xv 4 = y4 at *
        generalize xv 5 = y5 at *
        generalize xv 6 = y6 at *
        generalize xv 7 = y7 at *
        generalize xv 8 = y8 at *
        generalize xv 9 = y9 at *
        generalize xv 10 = y10 at *
        have Q4 : Hid (Lies wE (w.heap.size + 1) 27 (thC (Th.mk (pn : Int) yp yr ys yt yg yn) v)) := h9
        have Q5 : Hid (Lies wE (w.heap.size + 1 + 1) 37 (akC (⟨2, ic, id, wrap64 (ik : Int), 0, 0⟩))) := h10
        have HBZ := Lib.hid (HBL.out _ hS)
        clear hS HSN HBL
        replace Q5 : Hid (Lies wE (w.heap.size + 1 + 1) 37 (akC (reqA l (Th.mk (pn : Int) yp yr ys yt yg yn)))) := by show Lies _ _ _ _; rw [HRE.out]; exact Q5.out
        clear HRE H4 H5 HG HB HONE
        generalize hzz : reqA l (Th.mk (pn : Int) yp yr ys yt yg yn) = z at *
        have HZE := Lib.hid hzz
        clear hzz
        have z0 := (Q4.out.cell 0).trans (show _ = some (Value.int .i64 (Th.mk (pn : Int) yp yr ys yt yg yn).at_) from rfl)
        have z1 := (Q4.out.cell 1).trans (show _ = some (Value.int .i64 (Th.mk (pn : Int) yp yr ys yt yg yn).ph) from rfl)
        have z2 := (Q4.out.cell 2).trans (show _ = some (Value.int .i64 (Th.mk (pn : Int) yp yr ys yt yg yn).rg) from rfl)
        have z3 := (Q4.out.cell 3).trans (show _ = some (Value.int .i64 (Th.mk (pn : Int) yp yr ys yt yg yn).st) from rfl)
        have z4 := (Q4.out.cell 4).trans (show _ = some (Value.int .u64 ((Th.mk (pn : Int) yp yr ys yt yg yn).tk : Int)) from rfl)
        have z5 := (Q4.out.cell 5).trans (show _ = some (Value.int .u64 ((Th.mk (pn : Int) yp yr ys yt yg yn).r 0 : Int)) from rfl)
        have z6 := (Q4.out.cell 6).trans (show _ = some (Value.int .u64 ((Th.mk (pn : Int) yp yr ys yt yg yn).r 1 : Int)) from rfl)
        have z7 := (Q4.out.cell 7).trans (show _ = some (Value.int .u64 ((Th.mk (pn : Int) yp yr ys yt yg yn).r 2 : Int)) from rfl)
        have z8 := (Q4.out.cell 8).trans (show _ = some (Value.int .u64 ((Th.mk (pn : Int) yp yr ys yt yg yn).r 3 : Int)) from rfl)
        have z9 := (Q4.out.cell 9).trans (show _ = some (Value.int .u64 ((Th.mk (pn : Int) yp yr ys yt yg yn).r 4 : Int)) from rfl)
        have z10 := (Q4.out.cell 10).trans (show _ = some (Value.int .u64 ((Th.mk (pn : Int) yp yr ys yt yg yn).r 5 : Int)) from rfl)
        have z11 := (Q4.out.cell 11).trans (show _ = some (Value.int .u64 ((Th.mk (pn : Int) yp yr ys yt yg yn).r 6 : Int)) from rfl)
        have z12 := (Q4.out.cell 12).trans (show _ = some (Value.int .u64 ((Th.mk (pn : Int) yp yr ys yt yg yn).r 7 : Int)) from rfl)
        have z13 := (Q4.out.cell 13).trans (show _ = some (v) from rfl)
        have zl := Q4.out.lt
        have k0 := (Q5.out.cell 0).trans (show _ = some (.int .i64 z.kd) from rfl)
        have k1 := (Q5.out.cell 1).trans (show _ = some (.int .i64 z.rg) from rfl)
        have k2 := (Q5.out.cell 2).trans (show _ = some (.int .i64 z.md) from rfl)
        have k3 := (Q5.out.cell 3).trans (show _ = some (.int .i64 z.rd) from rfl)
        have k4 := (Q5.out.cell 4).trans (show _ = some (.int .u64 (z.tk : Int)) from rfl)
        have k5 := (Q5.out.cell 5).trans (show _ = some (.int .u64 (z.vl : Int)) from rfl)
        go_wp2
        exact bodyPost_ret (v := .tuple #[.agg (thC (Th.mk (pn : Int) yp yr ys yt yg yn) v), .agg (akC z)]) (by simp [results, Try.results15, go_sem, z0, z1, z2, z3, z4, z5, z6, z7, z8, z9, z10, z11, z12, z13, k0, k1, k2, k3, k4, k5]) rfl ⟨by rw [HYE.out, HZE.out], HBZ.out⟩
end Go.Proofs.Ytiegmpjoiekekaa
