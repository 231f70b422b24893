/-
  The law ThreadFits (layer 16), walked.
-/
import Derived.Test.YtiegmpjoiekekaaAwake
import Derived.Test.YtiegmpjoiekekaaThs2
namespace Go.Proofs.Ytiegmpjoiekekaa
open Go.RowKit
set_option linter.unusedVariables false
set_option linter.unusedSimpArgs false
theorem Try.infoIn : (Try.prog.info? 50).map (fun i => (i.zero, i.size, i.bytes)) = some (some (.agg #[.int .i64 0, .int .i64 0, .int .i64 0, .int .i64 0, .int .i64 0, .int .u64 0]), 6, 48) := by kernel_rfl
theorem inF_one (l : List In) : ∀ u ∈ rowsOf inF l, u.oneCell' = true := fun u hu => by
  obtain ⟨x, _, hx⟩ := rowsOf_mem hu
  simp [inF] at hx
  rcases hx with rfl | rfl | rfl | rfl | rfl | rfl <;> rfl
theorem seqAt16 {w : World} {v : Value} {xs : List Nat} (h : SeqS w 1 v xs.length (cells64 xs)) : SeqAt w v (cells64 xs) := by
  obtain ⟨h1, A, c, h2, h3, h4, h5, h6⟩ := h
  have hl : (cells64 xs).length = xs.length := by simp [cells64]
  exact ⟨A, c, by rw [hl]; exact h2, by rw [hl]; exact h3, h4, h6⟩
theorem samT_self (x : Th) : samT x x = true := by
  simp [samT, regB]
theorem fit_st {l : List In} {y : Th} {e : Ev} (h : fitB (reqA l y) e = true) : y.st = 0 := by
  by_cases hs : y.st = 0
  · exact hs
  · rw [reqA_st hs, fit_none] at h; cases h
set_option maxHeartbeats 8000000 in
set_option maxRecDepth 100000 in
theorem fits_walk (A : Option Addr) (len c : Nat) (l : List In) (s : Ta) (e : Ev) (w : World) (h0 : InArg w A len c l) (h1 : TaAt w s) (h2 : evOk e) :
    Calls Try.prog 6 #[.slice A len c, .agg (thC s.x (.slice s.S s.x.sn.length s.cs)), .agg (evC e)] w fun q w' => q = .returned (.bool true) ∧ Below w.heap.size w w' := by
  obtain ⟨rfl, hin, hok⟩ := h0
  obtain ⟨hx, hsq⟩ := h1
  obtain ⟨hc1, hc2⟩ := seq_form hin
  have hb0 : Below w.heap.size w ((w.alloc (.cells (thC s.x (.slice s.S s.x.sn.length s.cs)) 27)).alloc (.cells (evC e) 42)) := ((Below.refl _ _).alloc (Nat.le_refl _) _).alloc (by simp) _
  have l0 := (Lies.made w 27 (thC s.x (.slice s.S s.x.sn.length s.cs))).alloc (.cells (evC e) 42)
  have l1 := Lies.made (w.alloc (.cells (thC s.x (.slice s.S s.x.sn.length s.cs)) 27)) 42 (evC e)
  rw [show (w.alloc (.cells (thC s.x (.slice s.S s.x.sn.length s.cs)) 27)).heap.size = w.heap.size + 1 by simp] at l1
  have HE := Lib.hid l1
  clear l1
  have HB := Lib.hid hb0
  have HG := Lib.hid l0
  have HIN := Lib.hid (show ∀ q : World, Below w.heap.size w q → InsAt q A c l from fun q hq => hin.later hq)
  have HSQ := Lib.hid (fun (q : World) (hq : Below w.heap.size w q) => hsq.later hq)
  have HOK := Lib.hid hok
  have HX := Lib.hid hx
  have HEO := Lib.hid h2
  clear hb0 l0 hin hsq hok hx h2
  go_enter Try.func6, Try.ntmps6
  go_upto_region 1 with (fail)
  generalize hw1 : ((w.alloc (.cells (thC s.x (.slice s.S s.x.sn.length s.cs)) 27)).alloc (.cells (evC e) 42)) = w1 at *
  clear hw1
  go_wp2_with fail
  refine (awake16 _).mono ?_
  rintro q w2 ⟨rfl, hbm⟩
  replace HG := Lib.hid (HG.out.below hbm HG.out.lt)
  replace HE := Lib.hid (HE.out.below hbm HE.out.lt)
  replace HB := Lib.hid (HB.out.trans (hbm.mono HB.out.size))
  clear hbm w1
  have c13 := (HG.out.cell 13).trans (show _ = some (.slice s.S s.x.sn.length s.cs) from rfl)
  have cl := HG.out.lt
  by_cases hl3 : 300 < l.length
  · have d1 : decide ((300 : Int) < (l.length : Int)) = true := decide_eq_true (by omega)
    have d1n : decide (300 < l.length) = true := decide_eq_true hl3
    go_wp2_with fail
    refine (awake16 _).mono ?_
    rintro q w3 ⟨rfl, hbm⟩
    have HBZ := Lib.hid (HB.out.trans (hbm.mono HB.out.size))
    go_wp2
    go_ret
    exact ⟨rfl, HBZ.out⟩
  have d1 : decide ((300 : Int) < (l.length : Int)) = false := decide_eq_false (by omega)
  have d1n : decide (300 < l.length) = false := decide_eq_false hl3
  by_cases hl1 : 100 < s.x.sn.length
  · have d2 : decide ((100 : Int) < (s.x.sn.length : Int)) = true := decide_eq_true (by omega)
    have d2n : decide (100 < s.x.sn.length) = true := decide_eq_true hl1
    go_wp2_with fail
    refine (awake16 _).mono ?_
    rintro q w3 ⟨rfl, hbm⟩
    have HBZ := Lib.hid (HB.out.trans (hbm.mono HB.out.size))
    go_wp2
    go_ret
    exact ⟨rfl, HBZ.out⟩
  have d2 : decide ((100 : Int) < (s.x.sn.length : Int)) = false := decide_eq_false (by omega)
  have d2n : decide (100 < s.x.sn.length) = false := decide_eq_false hl1
  have HRT := Lib.hid (rfThRight l A c s.x (.slice s.S s.x.sn.length s.cs) w2 (HIN.out _ HB.out) HOK.out)
  obtain ⟨tb, htb⟩ : ∃ b, thB l s.x = b := ⟨_, rfl⟩
  rw [htb] at HRT
  have HTB := Lib.hid htb
  clear htb c13 cl
  have c0 := (HG.out.cell 0).trans (show _ = some (Value.int .i64 s.x.at_) from rfl)
  have c1 := (HG.out.cell 1).trans (show _ = some (Value.int .i64 s.x.ph) from rfl)
  have c2 := (HG.out.cell 2).trans (show _ = some (Value.int .i64 s.x.rg) from rfl)
  have c3 := (HG.out.cell 3).trans (show _ = some (Value.int .i64 s.x.st) from rfl)
  have c4 := (HG.out.cell 4).trans (show _ = some (Value.int .u64 (s.x.tk : Int)) from rfl)
  have c5 := (HG.out.cell 5).trans (show _ = some (Value.int .u64 (s.x.r 0 : Int)) from rfl)
  have c6 := (HG.out.cell 6).trans (show _ = some (Value.int .u64 (s.x.r 1 : Int)) from rfl)
  have c7 := (HG.out.cell 7).trans (show _ = some (Value.int .u64 (s.x.r 2 : Int)) from rfl)
  have c8 := (HG.out.cell 8).trans (show _ = some (Value.int .u64 (s.x.r 3 : Int)) from rfl)
  have c9 := (HG.out.cell 9).trans (show _ = some (Value.int .u64 (s.x.r 4 : Int)) from rfl)
  have c10 := (HG.out.cell 10).trans (show _ = some (Value.int .u64 (s.x.r 5 : Int)) from rfl)
  have c11 := (HG.out.cell 11).trans (show _ = some (Value.int .u64 (s.x.r 6 : Int)) from rfl)
  have c12 := (HG.out.cell 12).trans (show _ = some (Value.int .u64 (s.x.r 7 : Int)) from rfl)
  have c13 := (HG.out.cell 13).trans (show _ = some ((.slice s.S s.x.sn.length s.cs)) from rfl)
  have cl := HG.out.lt
  go_wp2_with fail
  refine HRT.out.mono ?_
  rintro q w3 ⟨rfl, hbm⟩
  clear d1 d1n d2 d2n HRT
  clear c0 c1 c2 c3 c4 c5 c6 c7 c8 c9 c10 c11 c12 c13 cl
  replace HG := Lib.hid (HG.out.below hbm HG.out.lt)
  replace HE := Lib.hid (HE.out.below hbm HE.out.lt)
  replace HB := Lib.hid (HB.out.trans (hbm.mono HB.out.size))
  clear hbm
  cases tb
  · go_wp2_with fail
    refine (awake16 _).mono ?_
    rintro q w3 ⟨rfl, hbm⟩
    have HBZ := Lib.hid (HB.out.trans (hbm.mono HB.out.size))
    go_wp2
    go_ret
    exact ⟨rfl, HBZ.out⟩
  obtain ⟨eb, heb⟩ : ∃ b, rightE e = b := ⟨_, rfl⟩
  have HRE := Lib.hid (rfRight15 e w3)
  rw [heb] at HRE
  have HEB := Lib.hid heb
  clear heb
  have q0 := (HE.out.cell 0).trans (show _ = some (Value.int .i64 e.th) from rfl)
  have q1 := (HE.out.cell 1).trans (show _ = some (Value.int .i64 e.kd) from rfl)
  have q2 := (HE.out.cell 2).trans (show _ = some (Value.int .i64 e.rg) from rfl)
  have q3 := (HE.out.cell 3).trans (show _ = some (Value.int .u64 (e.tk : Int)) from rfl)
  have q4 := (HE.out.cell 4).trans (show _ = some (Value.int .u64 (e.vl : Int)) from rfl)
  have ql := HE.out.lt
  go_wp2_with fail
  refine HRE.out.mono ?_
  rintro q w4 ⟨rfl, hbm⟩
  clear q0 q1 q2 q3 q4 ql
  replace HG := Lib.hid (HG.out.below hbm HG.out.lt)
  replace HE := Lib.hid (HE.out.below hbm HE.out.lt)
  replace HB := Lib.hid (HB.out.trans (hbm.mono HB.out.size))
  clear hbm HRE
  cases eb
  · go_wp2_with fail
    refine (awake16 _).mono ?_
    rintro q w5 ⟨rfl, hbm⟩
    have HBZ := Lib.hid (HB.out.trans (hbm.mono HB.out.size))
    go_wp2
    go_ret
    exact ⟨rfl, HBZ.out⟩
  have c0 := (HG.out.cell 0).trans (show _ = some (Value.int .i64 s.x.at_) from rfl)
  have c1 := (HG.out.cell 1).trans (show _ = some (Value.int .i64 s.x.ph) from rfl)
  have c2 := (HG.out.cell 2).trans (show _ = some (Value.int .i64 s.x.rg) from rfl)
  have c3 := (HG.out.cell 3).trans (show _ = some (Value.int .i64 s.x.st) from rfl)
  have c4 := (HG.out.cell 4).trans (show _ = some (Value.int .u64 (s.x.tk : Int)) from rfl)
  have c5 := (HG.out.cell 5).trans (show _ = some (Value.int .u64 (s.x.r 0 : Int)) from rfl)
  have c6 := (HG.out.cell 6).trans (show _ = some (Value.int .u64 (s.x.r 1 : Int)) from rfl)
  have c7 := (HG.out.cell 7).trans (show _ = some (Value.int .u64 (s.x.r 2 : Int)) from rfl)
  have c8 := (HG.out.cell 8).trans (show _ = some (Value.int .u64 (s.x.r 3 : Int)) from rfl)
  have c9 := (HG.out.cell 9).trans (show _ = some (Value.int .u64 (s.x.r 4 : Int)) from rfl)
  have c10 := (HG.out.cell 10).trans (show _ = some (Value.int .u64 (s.x.r 5 : Int)) from rfl)
  have c11 := (HG.out.cell 11).trans (show _ = some (Value.int .u64 (s.x.r 6 : Int)) from rfl)
  have c12 := (HG.out.cell 12).trans (show _ = some (Value.int .u64 (s.x.r 7 : Int)) from rfl)
  have c13 := (HG.out.cell 13).trans (show _ = some ((.slice s.S s.x.sn.length s.cs)) from rfl)
  have cl := HG.out.lt
  go_wp2_with fail
  refine (nextU l A c s.x s.S s.cs w4 (HIN.out _ HB.out) HOK.out HX.out (HSQ.out _ HB.out) (by omega)).mono ?_
  rw [show nxZ l s.x = (nxT l s.x, reqA l (nxT l s.x), 0) by unfold nxZ; rw [if_pos HTB.out]]
  rintro q w5 ⟨u, rfl, ⟨A2, k2, rfl, ho⟩, hbm⟩
  clear c0 c1 c2 c3 c4 c5 c6 c7 c8 c9 c10 c11 c12 c13 cl
  replace HG := Lib.hid (HG.out.below hbm HG.out.lt)
  replace HE := Lib.hid (HE.out.below hbm HE.out.lt)
  replace HB := Lib.hid (HB.out.trans (hbm.mono HB.out.size))
  clear hbm ho
  generalize hzt : nxT l s.x = zt at *
  generalize hza : reqA l zt = za at *
  have HZT := Lib.hid hzt
  have HZA := Lib.hid hza
  clear hzt hza
  have HBn := Lib.hid (((Below.refl w5.heap.size w5).alloc (Nat.le_refl _) (.cells thZ 27)).alloc (by simp) (.cells akZ 31))
  have lz0 := ((Lies.made w5 27 thZ).alloc (.cells akZ 31))
  have HZ0_0 := Lib.hid lz0
  clear lz0
  have lz1 := (Lies.made (w5.alloc (.cells thZ 27)) 31 akZ)
  rw [show (w5.alloc (.cells thZ 27)).heap.size = w5.heap.size + 1 by simp] at lz1
  have HZ0_1 := Lib.hid lz1
  clear lz1
  generalize hw3 : ((w5.alloc (.cells thZ 27)).alloc (.cells akZ 31)) = w3 at *
  generalize hn5 : w5.heap.size = n5 at *
  have hns : n5 ≤ w3.heap.size := by rw [← hn5]; exact HBn.out.size
  have hk0 := kept_rowT (w := w3) (g := n5) (thC zt (.slice A2 zt.sn.length k2))
  have HZ1_0 := Lib.hid (lies_row HZ0_0.out (thC zt (.slice A2 zt.sn.length k2)))
  have HZ1_1 := Lib.hid (HZ0_1.out.kept hk0 (fun (e : n5 + 1 = n5) => by omega))
  have HBn0 := Lib.hid (HBn.out.trans (hk0.below (show n5 ≤ w3.heap.size from hns) (fun k hk (e : k = n5) => by omega)))
  have hks0 : w3.heap.size ≤ (w3.setRow (n5) (thC zt (.slice A2 zt.sn.length k2))).heap.size := hk0.size
  have hk1 := kept_rowT (w := (w3.setRow (n5) (thC zt (.slice A2 zt.sn.length k2)))) (g := n5 + 1) (akC za)
  have HZ2_0 := Lib.hid (HZ1_0.out.kept hk1 (fun (e : n5 = n5 + 1) => by omega))
  have HZ2_1 := Lib.hid (lies_row HZ1_1.out (akC za))
  have HBn1 := Lib.hid (HBn0.out.trans (hk1.below (show n5 ≤ (w3.setRow (n5) (thC zt (.slice A2 zt.sn.length k2))).heap.size from Nat.le_trans hns hks0) (fun k hk (e : k = n5 + 1) => by omega)))
  have hks1 : w3.heap.size ≤ ((w3.setRow (n5) (thC zt (.slice A2 zt.sn.length k2))).setRow (n5 + 1) (akC za)).heap.size := Nat.le_trans hks0 hk1.size
  clear hk0 hk1
  go_upto_region 4 with (first | refine wpList_store_row rfl 27 _ _ rfl (n5) (thC zt (.slice A2 zt.sn.length k2)) rfl rfl 27 thZ HZ0_0.out infoTh rfl (thC_one _ rfl) ?_ | refine wpList_store_row rfl 31 _ _ rfl (n5 + 1) (akC za) rfl rfl 31 akZ HZ1_1.out infoAk rfl (akC_one _) ?_)
  clear hw3 hks0 hks1 hns HBn HBn0 HZ0_0 HZ0_1 HZ1_0 HZ1_1
  generalize ((w3.setRow (n5) (thC zt (.slice A2 zt.sn.length k2))).setRow (n5 + 1) (akC za)) = w6 at *
  have hbf := HBn1.out
  rw [← hn5] at hbf
  clear HBn1
  replace HG := Lib.hid (HG.out.below hbf HG.out.lt)
  replace HE := Lib.hid (HE.out.below hbf HE.out.lt)
  replace HB := Lib.hid (HB.out.trans (hbf.mono HB.out.size))
  clear hbf
  have HT1 := HZ2_0
  clear HZ2_0
  have HA1 := HZ2_1
  clear HZ2_1
  generalize n5 = b1 at *
  clear hn5 HT1
  obtain ⟨fb, hfb⟩ : ∃ b, fitB za e = b := ⟨_, rfl⟩
  have hdz : (doZ l s.x e 0).2 = (if fb = true then 0 else 11 : Int) := by
    unfold doZ
    rw [if_pos HTB.out, if_pos HEB.out, HZT.out, HZA.out, hfb]
    cases fb <;> rfl
  obtain ⟨zd, er, hzd, her⟩ : ∃ zd er, doZ l s.x e 0 = (zd, er) ∧ er = (if fb = true then 0 else 11 : Int) := ⟨(doZ l s.x e 0).1, (doZ l s.x e 0).2, rfl, hdz⟩
  clear hdz
  have hfs : fb = true → s.x.st = 0 := fun h => by
    have h2 := fit_st (l := l) (y := zt) (e := e) (by rw [HZA.out, hfb]; exact h)
    rw [← HZT.out] at h2
    rw [← (nx_rest (l := l) (x := s.x)).2.2.1]; exact h2
  have hfz : fb = true → za.kd ≠ 0 := fun h => by
    have := reqA_zero (l := l) (y := zt) (e := e) (by rw [HZA.out, hfb]; exact h)
    rw [HZA.out] at this; exact this
  have HER := Lib.hid her
  clear her
  have HFB := Lib.hid hfb
  have HFS := Lib.hid hfs
  have HFZ := Lib.hid hfz
  clear hfb hfs hfz
  have c0 := (HG.out.cell 0).trans (show _ = some (Value.int .i64 s.x.at_) from rfl)
  have c1 := (HG.out.cell 1).trans (show _ = some (Value.int .i64 s.x.ph) from rfl)
  have c2 := (HG.out.cell 2).trans (show _ = some (Value.int .i64 s.x.rg) from rfl)
  have c3 := (HG.out.cell 3).trans (show _ = some (Value.int .i64 s.x.st) from rfl)
  have c4 := (HG.out.cell 4).trans (show _ = some (Value.int .u64 (s.x.tk : Int)) from rfl)
  have c5 := (HG.out.cell 5).trans (show _ = some (Value.int .u64 (s.x.r 0 : Int)) from rfl)
  have c6 := (HG.out.cell 6).trans (show _ = some (Value.int .u64 (s.x.r 1 : Int)) from rfl)
  have c7 := (HG.out.cell 7).trans (show _ = some (Value.int .u64 (s.x.r 2 : Int)) from rfl)
  have c8 := (HG.out.cell 8).trans (show _ = some (Value.int .u64 (s.x.r 3 : Int)) from rfl)
  have c9 := (HG.out.cell 9).trans (show _ = some (Value.int .u64 (s.x.r 4 : Int)) from rfl)
  have c10 := (HG.out.cell 10).trans (show _ = some (Value.int .u64 (s.x.r 5 : Int)) from rfl)
  have c11 := (HG.out.cell 11).trans (show _ = some (Value.int .u64 (s.x.r 6 : Int)) from rfl)
  have c12 := (HG.out.cell 12).trans (show _ = some (Value.int .u64 (s.x.r 7 : Int)) from rfl)
  have c13 := (HG.out.cell 13).trans (show _ = some ((.slice s.S s.x.sn.length s.cs)) from rfl)
  have cl := HG.out.lt
  have q0 := (HE.out.cell 0).trans (show _ = some (Value.int .i64 e.th) from rfl)
  have q1 := (HE.out.cell 1).trans (show _ = some (Value.int .i64 e.kd) from rfl)
  have q2 := (HE.out.cell 2).trans (show _ = some (Value.int .i64 e.rg) from rfl)
  have q3 := (HE.out.cell 3).trans (show _ = some (Value.int .u64 (e.tk : Int)) from rfl)
  have q4 := (HE.out.cell 4).trans (show _ = some (Value.int .u64 (e.vl : Int)) from rfl)
  have ql := HE.out.lt
  go_wp2_with fail
  refine (doU l A c s.x s.S s.cs e 0 w6 (HIN.out _ HB.out) HOK.out HX.out (HSQ.out _ HB.out) (by omega)).mono ?_
  rw [hzd]
  rintro q w7 ⟨u, rfl, ⟨A3, k3, rfl, ho⟩, hbm⟩
  clear c0 c1 c2 c3 c4 c5 c6 c7 c8 c9 c10 c11 c12 c13 cl
  clear q0 q1 q2 q3 q4 ql
  replace HG := Lib.hid (HG.out.below hbm HG.out.lt)
  replace HE := Lib.hid (HE.out.below hbm HE.out.lt)
  replace HA1 := Lib.hid (HA1.out.below hbm HA1.out.lt)
  replace HB := Lib.hid (HB.out.trans (hbm.mono HB.out.size))
  clear hbm ho hzd
  have HBn := Lib.hid ((Below.refl w7.heap.size w7).alloc (Nat.le_refl _) (.cells thZ 27))
  have lz0 := (Lies.made w7 27 thZ)
  have HZ0_0 := Lib.hid lz0
  clear lz0
  generalize hw3 : (w7.alloc (.cells thZ 27)) = w3 at *
  generalize hn5 : w7.heap.size = n5 at *
  have hns : n5 ≤ w3.heap.size := by rw [← hn5]; exact HBn.out.size
  have hk0 := kept_rowT (w := w3) (g := n5) (thC zd (.slice A3 zd.sn.length k3))
  have HZ1_0 := Lib.hid (lies_row HZ0_0.out (thC zd (.slice A3 zd.sn.length k3)))
  have HBn0 := Lib.hid (HBn.out.trans (hk0.below (show n5 ≤ w3.heap.size from hns) (fun k hk (e : k = n5) => by omega)))
  have hks0 : w3.heap.size ≤ (w3.setRow (n5) (thC zd (.slice A3 zd.sn.length k3))).heap.size := hk0.size
  clear hk0
  go_upto_region 5 with (first | refine wpList_store_row rfl 27 _ _ rfl (n5) (thC zd (.slice A3 zd.sn.length k3)) rfl rfl 27 thZ HZ0_0.out infoTh rfl (thC_one _ rfl) ?_)
  clear hw3 hks0 hns HBn HZ0_0
  generalize (w3.setRow (n5) (thC zd (.slice A3 zd.sn.length k3))) = w8 at *
  have hbf := HBn0.out
  rw [← hn5] at hbf
  clear HBn0
  replace HG := Lib.hid (HG.out.below hbf HG.out.lt)
  replace HE := Lib.hid (HE.out.below hbf HE.out.lt)
  replace HA1 := Lib.hid (HA1.out.below hbf HA1.out.lt)
  replace HB := Lib.hid (HB.out.trans (hbf.mono HB.out.size))
  clear hbf
  have HT2 := HZ1_0
  clear HZ1_0
  generalize n5 = b2 at *
  clear hn5 HT2
  by_cases hk0 : za.kd = 0
  · have hff : fb = false := by
      cases fb with
      | false => rfl
      | true => exact absurd hk0 (HFZ.out rfl)
    subst hff
    obtain rfl : er = 11 := HER.out
    have j0 : (za.kd != 0) = false := by rw [bne_eq_false_iff_eq]; exact hk0
    have ka := (HA1.out.cell 0).trans (show _ = some (Value.int .i64 za.kd) from rfl)
    have kl := HA1.out.lt
    clear hk0 HER
    go_wp2_with fail
    go_quiet (fail)
    clear ka kl j0
    have st3 := (HG.out.cell 3).trans (show _ = some (Value.int .i64 s.x.st) from rfl)
    have st3 : (w8.drewN nq).cell? _ = _ := st3
    have stl := HG.out.lt
    have stl : _ < (w8.drewN nq).heap.size := stl
    have HBZ := Lib.hid (below_drewN HB.out nq)
    generalize w8.drewN nq = w9 at *
    obtain ⟨sb, hsb⟩ : ∃ b, (s.x.st == 0) = b := ⟨_, rfl⟩
    cases sb
    all_goals
      go_wp2
      go_ret
      exact ⟨rfl, HBZ.out⟩
  have j0 : (za.kd != 0) = true := by rw [bne_iff_ne]; exact hk0
  clear hk0
  have HFI := Lib.hid (fun q => fits16 za e q)
  rw [HFB.out] at HFI
  cases fb
  · obtain rfl : er = 11 := HER.out
    clear HER
    go_wp2_with fail
    refine wp_region_rely (fun q => Below w8.heap.size w8 q) (rgV [some (.pointer (some ⟨b1 + 1, 0, none⟩)), some (.int .i64 za.kd), some (.bool true), some (.bool true), some (.agg (akC za)), some (.agg (akC za)), some (.agg (evC e)), some (.bool false), some (.bool false), some (.bool false)] (fun _ _ => True)) [some 62, some 63, some 64, some 65, some 66, some 67, some 68, some 69, some 70, some 12] [[], [0], [1], [2], [3], [4, 3], [3], [5, 6, 3], [3, 7], [8]] [[], [0], [0, 1], [1, 2], [2], [2, 4], [2], [2, 4, 5, 6], [2, 5, 6, 7], [0, 1, 2, 3, 4, 5, 6, 7, 8]] [[2, 3, 4, 5, 6, 7, 8], [3, 4, 5, 6, 7, 8], [4, 5, 6, 7, 8], [], [0, 3, 6, 7, 8], [0, 3, 6, 8], [0, 3, 4, 5, 8], [0, 3], [0, 3], []] [0, 1, 2, 3, 4, 5, 6, 7, 8, 9] 10 (by kernel_rfl) (by kernel_rfl) (by kernel_rfl) (by kernel_rfl) ?rS (fun j h1 h2 => absurd (Nat.lt_of_lt_of_le h1 (Nat.le_trans (by decide) h2)) (Nat.lt_irrefl _)) ?rT ?rE
    case rS => exact below_drewN (Below.refl _ _) 1
    case rT =>
      refine RelySteps.cons (RelyStep.mk [] [2, 3, 4, 5, 6, 7, 8] rfl rfl rfl (fun xv wS hS hV bq hb K hK => ?_)) ?_
      · clear hV
        simp only [putsOf, List.foldl_cons, List.foldl_nil, List.getD_cons_zero, List.getD_cons_succ, List.getD_nil, cond_true, cond_false, Act.put, List.setIfInBounds_toArray, List.set_cons_zero, List.set_cons_succ] at hb
        subst hb
        rw [if_pos (by rfl)]
        go_wp2_with fail
        exact hK.out _ _ ⟨_, rfl, hS, rfl, AllP.same _⟩
      refine RelySteps.cons (RelyStep.mk [0] [3, 4, 5, 6, 7, 8] rfl rfl rfl (fun xv wS hS hV bq hb K hK => ?_)) ?_
      · obtain ⟨h0, _⟩ := hV
        have h0 : xv 0 = _ := h0
        simp only [putsOf, List.foldl_cons, List.foldl_nil, List.getD_cons_zero, List.getD_cons_succ, List.getD_nil, cond_true, cond_false, Act.put, List.setIfInBounds_toArray, List.set_cons_zero, List.set_cons_succ, h0] at hb
        clear h0
        subst hb
        rw [if_pos (by rfl)]
        (have HLA := Lib.hid (HA1.out.below hS HA1.out.lt); have k0 := (HLA.out.cell 0).trans (show _ = some (.int .i64 za.kd) from rfl); have k1 := (HLA.out.cell 1).trans (show _ = some (.int .i64 za.rg) from rfl); have k2 := (HLA.out.cell 2).trans (show _ = some (.int .i64 za.md) from rfl); have k3 := (HLA.out.cell 3).trans (show _ = some (.int .i64 za.rd) from rfl); have k4 := (HLA.out.cell 4).trans (show _ = some (.int .u64 (za.tk : Int)) from rfl); have k5 := (HLA.out.cell 5).trans (show _ = some (.int .u64 (za.vl : Int)) from rfl); have kl := HLA.out.lt)
        go_wp2_with fail
        exact hK.out _ _ ⟨_, rfl, hS, rfl, AllP.same _⟩
      refine RelySteps.cons (RelyStep.mk [1] [4, 5, 6, 7, 8] rfl rfl rfl (fun xv wS hS hV bq hb K hK => ?_)) ?_
      · obtain ⟨h1, _⟩ := hV
        have h1 : xv 1 = _ := h1
        simp only [putsOf, List.foldl_cons, List.foldl_nil, List.getD_cons_zero, List.getD_cons_succ, List.getD_nil, cond_true, cond_false, Act.put, List.setIfInBounds_toArray, List.set_cons_zero, List.set_cons_succ, h1] at hb
        clear h1
        subst hb
        rw [if_pos (by rfl)]
        go_wp2_with fail
        exact hK.out _ _ ⟨_, rfl, hS, rfl, AllP.same _⟩
      refine RelySteps.cons (RelyStep.mk [2] [] rfl rfl rfl (fun xv wS hS hV bq hb K hK => ?_)) ?_
      · obtain ⟨h2, _⟩ := hV
        have h2 : xv 2 = _ := h2
        simp only [putsOf, List.foldl_cons, List.foldl_nil, List.getD_cons_zero, List.getD_cons_succ, List.getD_nil, cond_true, cond_false, Act.put, List.setIfInBounds_toArray, List.set_cons_zero, List.set_cons_succ, h2] at hb
        clear h2
        subst hb
        rw [if_pos (by rfl)]
        go_wp2_with fail
        exact hK.out _ _ ⟨_, rfl, hS, rfl, AllP.same _⟩
      refine RelySteps.cons (RelyStep.mk [3] [0, 3, 6, 7, 8] rfl rfl rfl (fun xv wS hS hV bq hb K hK => ?_)) ?_
      · obtain ⟨h3, _⟩ := hV
        have h3 : xv 3 = _ := h3
        simp only [putsOf, List.foldl_cons, List.foldl_nil, List.getD_cons_zero, List.getD_cons_succ, List.getD_nil, cond_true, cond_false, Act.put, List.setIfInBounds_toArray, List.set_cons_zero, List.set_cons_succ, h3] at hb
        clear h3
        subst hb
        rw [if_pos (by rfl)]
        (have HLA := Lib.hid (HA1.out.below hS HA1.out.lt); have k0 := (HLA.out.cell 0).trans (show _ = some (.int .i64 za.kd) from rfl); have k1 := (HLA.out.cell 1).trans (show _ = some (.int .i64 za.rg) from rfl); have k2 := (HLA.out.cell 2).trans (show _ = some (.int .i64 za.md) from rfl); have k3 := (HLA.out.cell 3).trans (show _ = some (.int .i64 za.rd) from rfl); have k4 := (HLA.out.cell 4).trans (show _ = some (.int .u64 (za.tk : Int)) from rfl); have k5 := (HLA.out.cell 5).trans (show _ = some (.int .u64 (za.vl : Int)) from rfl); have kl := HLA.out.lt)
        go_wp2_with fail
        exact hK.out _ _ ⟨_, rfl, hS, rfl, AllP.same _⟩
      refine RelySteps.cons (RelyStep.mk [4, 3] [0, 3, 6, 8] rfl rfl rfl (fun xv wS hS hV bq hb K hK => ?_)) ?_
      · obtain ⟨h4, h3, _⟩ := hV
        have h4 : xv 4 = _ := h4
        have h3 : xv 3 = _ := h3
        simp only [putsOf, List.foldl_cons, List.foldl_nil, List.getD_cons_zero, List.getD_cons_succ, List.getD_nil, cond_true, cond_false, Act.put, List.setIfInBounds_toArray, List.set_cons_zero, List.set_cons_succ, h4, h3] at hb
        clear h4
        clear h3
        subst hb
        rw [if_pos (by rfl)]
        have HSS := Lib.hid hS
        clear hS
        go_wp2_with fail
        refine (own16 za _).mono ?_
        rintro e w' ⟨rfl, hbm⟩
        exact hK.out _ _ ⟨_, rfl, HSS.out.trans (hbm.mono HSS.out.size), rfl, AllP.of _ (fun j _ u h => rgV_mono (fun _ => trivial) h)⟩
      refine RelySteps.cons (RelyStep.mk [3] [0, 3, 4, 5, 8] rfl rfl rfl (fun xv wS hS hV bq hb K hK => ?_)) ?_
      · obtain ⟨h3, _⟩ := hV
        have h3 : xv 3 = _ := h3
        simp only [putsOf, List.foldl_cons, List.foldl_nil, List.getD_cons_zero, List.getD_cons_succ, List.getD_nil, cond_true, cond_false, Act.put, List.setIfInBounds_toArray, List.set_cons_zero, List.set_cons_succ, h3] at hb
        clear h3
        subst hb
        rw [if_pos (by rfl)]
        (have HLE := Lib.hid (HE.out.below hS HE.out.lt); have q0 := (HLE.out.cell 0).trans (show _ = some (Value.int .i64 e.th) from rfl); have q1 := (HLE.out.cell 1).trans (show _ = some (Value.int .i64 e.kd) from rfl); have q2 := (HLE.out.cell 2).trans (show _ = some (Value.int .i64 e.rg) from rfl); have q3 := (HLE.out.cell 3).trans (show _ = some (Value.int .u64 (e.tk : Int)) from rfl); have q4 := (HLE.out.cell 4).trans (show _ = some (Value.int .u64 (e.vl : Int)) from rfl); have ql := HLE.out.lt)
        go_wp2_with fail
        exact hK.out _ _ ⟨_, rfl, hS, rfl, AllP.same _⟩
      refine RelySteps.cons (RelyStep.mk [5, 6, 3] [0, 3] rfl rfl rfl (fun xv wS hS hV bq hb K hK => ?_)) ?_
      · obtain ⟨h5, h6, h3, _⟩ := hV
        have h5 : xv 5 = _ := h5
        have h6 : xv 6 = _ := h6
        have h3 : xv 3 = _ := h3
        simp only [putsOf, List.foldl_cons, List.foldl_nil, List.getD_cons_zero, List.getD_cons_succ, List.getD_nil, cond_true, cond_false, Act.put, List.setIfInBounds_toArray, List.set_cons_zero, List.set_cons_succ, h5, h6, h3] at hb
        clear h5
        clear h6
        clear h3
        subst hb
        rw [if_pos (by rfl)]
        have HSS := Lib.hid hS
        clear hS
        go_wp2_with fail
        refine (HFI.out _).mono ?_
        rintro e w' ⟨rfl, hbm⟩
        exact hK.out _ _ ⟨_, rfl, HSS.out.trans (hbm.mono HSS.out.size), rfl, AllP.of _ (fun j _ u h => rgV_mono (fun _ => trivial) h)⟩
      refine RelySteps.cons (RelyStep.mk [3, 7] [0, 3] rfl rfl rfl (fun xv wS hS hV bq hb K hK => ?_)) ?_
      · obtain ⟨h3, h7, _⟩ := hV
        have h3 : xv 3 = _ := h3
        have h7 : xv 7 = _ := h7
        simp only [putsOf, List.foldl_cons, List.foldl_nil, List.getD_cons_zero, List.getD_cons_succ, List.getD_nil, cond_true, cond_false, Act.put, List.setIfInBounds_toArray, List.set_cons_zero, List.set_cons_succ, h3, h7] at hb
        clear h3
        clear h7
        subst hb
        rw [if_pos (by rfl)]
        go_wp2_with fail
        exact hK.out _ _ ⟨_, rfl, hS, rfl, AllP.same _⟩
      refine RelySteps.cons (RelyStep.mk [8] [] rfl rfl rfl (fun xv wS hS hV bq hb K hK => ?_)) ?_
      · obtain ⟨h8, _⟩ := hV
        have h8 : xv 8 = _ := h8
        simp only [putsOf, List.foldl_cons, List.foldl_nil, List.getD_cons_zero, List.getD_cons_succ, List.getD_nil, cond_true, cond_false, Act.put, List.setIfInBounds_toArray, List.set_cons_zero, List.set_cons_succ, h8] at hb
        clear h8
        subst hb
        rw [if_pos (by rfl)]
        go_wp2_with fail
        exact hK.out _ _ ⟨_, rfl, hS, rfl, AllP.same _⟩
      exact RelySteps.nil
    case rE =>
      intro xv wE hS hV
      have h9 := hV 9 (by decide) (by decide)
      clear hV
      simp only [putsOf, List.foldl_cons, List.foldl_nil, List.getD_cons_zero, List.getD_cons_succ, List.getD_nil, cond_true, cond_false, Act.put, List.setIfInBounds_toArray, List.set_cons_zero, List.set_cons_succ]
      have h9 : xv 9 = _ := h9
      rw [h9]; clear h9
      generalize xv 0 = y0 at *
      generalize xv 1 = y1 at *
      generalize xv 2 = y2 at *
      generalize xv 3 = y3 at *
      generalize xv 4 = y4 at *
      generalize xv 5 = y5 at *
      generalize xv 6 = y6 at *
      generalize xv 7 = y7 at *
      generalize xv 8 = y8 at *
      have hgb := HG.out.below hS HG.out.lt
      have st3 := (hgb.cell 3).trans (show _ = some (Value.int .i64 s.x.st) from rfl)
      have stl := hgb.lt
      have HBZ := Lib.hid (HB.out.trans (hS.mono HB.out.size))
      obtain ⟨sb, hsb⟩ : ∃ b, (s.x.st == 0) = b := ⟨_, rfl⟩
      clear hS hgb j0
      cases sb
      all_goals
        go_wp2
        go_ret
        exact ⟨rfl, HBZ.out⟩
  · obtain rfl : er = 0 := HER.out
    clear HER
    go_wp2_with fail
    refine wp_region_rely (fun q => Below w8.heap.size w8 q) (rgV [some (.pointer (some ⟨b1 + 1, 0, none⟩)), some (.int .i64 za.kd), some (.bool true), some (.bool true), some (.agg (akC za)), some (.agg (akC za)), some (.agg (evC e)), some (.bool true), some (.bool true), some (.bool true)] (fun _ _ => True)) [some 62, some 63, some 64, some 65, some 66, some 67, some 68, some 69, some 70, some 12] [[], [0], [1], [2], [3], [4, 3], [3], [5, 6, 3], [3, 7], [8]] [[], [0], [0, 1], [1, 2], [2], [2, 4], [2], [2, 4, 5, 6], [2, 5, 6, 7], [0, 1, 2, 3, 4, 5, 6, 7, 8]] [[2, 3, 4, 5, 6, 7, 8], [3, 4, 5, 6, 7, 8], [4, 5, 6, 7, 8], [], [0, 3, 6, 7, 8], [0, 3, 6, 8], [0, 3, 4, 5, 8], [0, 3], [0, 3], []] [0, 1, 2, 3, 4, 5, 6, 7, 8, 9] 10 (by kernel_rfl) (by kernel_rfl) (by kernel_rfl) (by kernel_rfl) ?rS (fun j h1 h2 => absurd (Nat.lt_of_lt_of_le h1 (Nat.le_trans (by decide) h2)) (Nat.lt_irrefl _)) ?rT ?rE
    case rS => exact below_drewN (Below.refl _ _) 1
    case rT =>
      refine RelySteps.cons (RelyStep.mk [] [2, 3, 4, 5, 6, 7, 8] rfl rfl rfl (fun xv wS hS hV bq hb K hK => ?_)) ?_
      · clear hV
        simp only [putsOf, List.foldl_cons, List.foldl_nil, List.getD_cons_zero, List.getD_cons_succ, List.getD_nil, cond_true, cond_false, Act.put, List.setIfInBounds_toArray, List.set_cons_zero, List.set_cons_succ] at hb
        subst hb
        rw [if_pos (by rfl)]
        go_wp2_with fail
        exact hK.out _ _ ⟨_, rfl, hS, rfl, AllP.same _⟩
      refine RelySteps.cons (RelyStep.mk [0] [3, 4, 5, 6, 7, 8] rfl rfl rfl (fun xv wS hS hV bq hb K hK => ?_)) ?_
      · obtain ⟨h0, _⟩ := hV
        have h0 : xv 0 = _ := h0
        simp only [putsOf, List.foldl_cons, List.foldl_nil, List.getD_cons_zero, List.getD_cons_succ, List.getD_nil, cond_true, cond_false, Act.put, List.setIfInBounds_toArray, List.set_cons_zero, List.set_cons_succ, h0] at hb
        clear h0
        subst hb
        rw [if_pos (by rfl)]
        (have HLA := Lib.hid (HA1.out.below hS HA1.out.lt); have k0 := (HLA.out.cell 0).trans (show _ = some (.int .i64 za.kd) from rfl); have k1 := (HLA.out.cell 1).trans (show _ = some (.int .i64 za.rg) from rfl); have k2 := (HLA.out.cell 2).trans (show _ = some (.int .i64 za.md) from rfl); have k3 := (HLA.out.cell 3).trans (show _ = some (.int .i64 za.rd) from rfl); have k4 := (HLA.out.cell 4).trans (show _ = some (.int .u64 (za.tk : Int)) from rfl); have k5 := (HLA.out.cell 5).trans (show _ = some (.int .u64 (za.vl : Int)) from rfl); have kl := HLA.out.lt)
        go_wp2_with fail
        exact hK.out _ _ ⟨_, rfl, hS, rfl, AllP.same _⟩
      refine RelySteps.cons (RelyStep.mk [1] [4, 5, 6, 7, 8] rfl rfl rfl (fun xv wS hS hV bq hb K hK => ?_)) ?_
      · obtain ⟨h1, _⟩ := hV
        have h1 : xv 1 = _ := h1
        simp only [putsOf, List.foldl_cons, List.foldl_nil, List.getD_cons_zero, List.getD_cons_succ, List.getD_nil, cond_true, cond_false, Act.put, List.setIfInBounds_toArray, List.set_cons_zero, List.set_cons_succ, h1] at hb
        clear h1
        subst hb
        rw [if_pos (by rfl)]
        go_wp2_with fail
        exact hK.out _ _ ⟨_, rfl, hS, rfl, AllP.same _⟩
      refine RelySteps.cons (RelyStep.mk [2] [] rfl rfl rfl (fun xv wS hS hV bq hb K hK => ?_)) ?_
      · obtain ⟨h2, _⟩ := hV
        have h2 : xv 2 = _ := h2
        simp only [putsOf, List.foldl_cons, List.foldl_nil, List.getD_cons_zero, List.getD_cons_succ, List.getD_nil, cond_true, cond_false, Act.put, List.setIfInBounds_toArray, List.set_cons_zero, List.set_cons_succ, h2] at hb
        clear h2
        subst hb
        rw [if_pos (by rfl)]
        go_wp2_with fail
        exact hK.out _ _ ⟨_, rfl, hS, rfl, AllP.same _⟩
      refine RelySteps.cons (RelyStep.mk [3] [0, 3, 6, 7, 8] rfl rfl rfl (fun xv wS hS hV bq hb K hK => ?_)) ?_
      · obtain ⟨h3, _⟩ := hV
        have h3 : xv 3 = _ := h3
        simp only [putsOf, List.foldl_cons, List.foldl_nil, List.getD_cons_zero, List.getD_cons_succ, List.getD_nil, cond_true, cond_false, Act.put, List.setIfInBounds_toArray, List.set_cons_zero, List.set_cons_succ, h3] at hb
        clear h3
        subst hb
        rw [if_pos (by rfl)]
        (have HLA := Lib.hid (HA1.out.below hS HA1.out.lt); have k0 := (HLA.out.cell 0).trans (show _ = some (.int .i64 za.kd) from rfl); have k1 := (HLA.out.cell 1).trans (show _ = some (.int .i64 za.rg) from rfl); have k2 := (HLA.out.cell 2).trans (show _ = some (.int .i64 za.md) from rfl); have k3 := (HLA.out.cell 3).trans (show _ = some (.int .i64 za.rd) from rfl); have k4 := (HLA.out.cell 4).trans (show _ = some (.int .u64 (za.tk : Int)) from rfl); have k5 := (HLA.out.cell 5).trans (show _ = some (.int .u64 (za.vl : Int)) from rfl); have kl := HLA.out.lt)
        go_wp2_with fail
        exact hK.out _ _ ⟨_, rfl, hS, rfl, AllP.same _⟩
      refine RelySteps.cons (RelyStep.mk [4, 3] [0, 3, 6, 8] rfl rfl rfl (fun xv wS hS hV bq hb K hK => ?_)) ?_
      · obtain ⟨h4, h3, _⟩ := hV
        have h4 : xv 4 = _ := h4
        have h3 : xv 3 = _ := h3
        simp only [putsOf, List.foldl_cons, List.foldl_nil, List.getD_cons_zero, List.getD_cons_succ, List.getD_nil, cond_true, cond_false, Act.put, List.setIfInBounds_toArray, List.set_cons_zero, List.set_cons_succ, h4, h3] at hb
        clear h4
        clear h3
        subst hb
        rw [if_pos (by rfl)]
        have HSS := Lib.hid hS
        clear hS
        go_wp2_with fail
        refine (own16 za _).mono ?_
        rintro e w' ⟨rfl, hbm⟩
        exact hK.out _ _ ⟨_, rfl, HSS.out.trans (hbm.mono HSS.out.size), rfl, AllP.of _ (fun j _ u h => rgV_mono (fun _ => trivial) h)⟩
      refine RelySteps.cons (RelyStep.mk [3] [0, 3, 4, 5, 8] rfl rfl rfl (fun xv wS hS hV bq hb K hK => ?_)) ?_
      · obtain ⟨h3, _⟩ := hV
        have h3 : xv 3 = _ := h3
        simp only [putsOf, List.foldl_cons, List.foldl_nil, List.getD_cons_zero, List.getD_cons_succ, List.getD_nil, cond_true, cond_false, Act.put, List.setIfInBounds_toArray, List.set_cons_zero, List.set_cons_succ, h3] at hb
        clear h3
        subst hb
        rw [if_pos (by rfl)]
        (have HLE := Lib.hid (HE.out.below hS HE.out.lt); have q0 := (HLE.out.cell 0).trans (show _ = some (Value.int .i64 e.th) from rfl); have q1 := (HLE.out.cell 1).trans (show _ = some (Value.int .i64 e.kd) from rfl); have q2 := (HLE.out.cell 2).trans (show _ = some (Value.int .i64 e.rg) from rfl); have q3 := (HLE.out.cell 3).trans (show _ = some (Value.int .u64 (e.tk : Int)) from rfl); have q4 := (HLE.out.cell 4).trans (show _ = some (Value.int .u64 (e.vl : Int)) from rfl); have ql := HLE.out.lt)
        go_wp2_with fail
        exact hK.out _ _ ⟨_, rfl, hS, rfl, AllP.same _⟩
      refine RelySteps.cons (RelyStep.mk [5, 6, 3] [0, 3] rfl rfl rfl (fun xv wS hS hV bq hb K hK => ?_)) ?_
      · obtain ⟨h5, h6, h3, _⟩ := hV
        have h5 : xv 5 = _ := h5
        have h6 : xv 6 = _ := h6
        have h3 : xv 3 = _ := h3
        simp only [putsOf, List.foldl_cons, List.foldl_nil, List.getD_cons_zero, List.getD_cons_succ, List.getD_nil, cond_true, cond_false, Act.put, List.setIfInBounds_toArray, List.set_cons_zero, List.set_cons_succ, h5, h6, h3] at hb
        clear h5
        clear h6
        clear h3
        subst hb
        rw [if_pos (by rfl)]
        have HSS := Lib.hid hS
        clear hS
        go_wp2_with fail
        refine (HFI.out _).mono ?_
        rintro e w' ⟨rfl, hbm⟩
        exact hK.out _ _ ⟨_, rfl, HSS.out.trans (hbm.mono HSS.out.size), rfl, AllP.of _ (fun j _ u h => rgV_mono (fun _ => trivial) h)⟩
      refine RelySteps.cons (RelyStep.mk [3, 7] [0, 3] rfl rfl rfl (fun xv wS hS hV bq hb K hK => ?_)) ?_
      · obtain ⟨h3, h7, _⟩ := hV
        have h3 : xv 3 = _ := h3
        have h7 : xv 7 = _ := h7
        simp only [putsOf, List.foldl_cons, List.foldl_nil, List.getD_cons_zero, List.getD_cons_succ, List.getD_nil, cond_true, cond_false, Act.put, List.setIfInBounds_toArray, List.set_cons_zero, List.set_cons_succ, h3, h7] at hb
        clear h3
        clear h7
        subst hb
        rw [if_pos (by rfl)]
        go_wp2_with fail
        exact hK.out _ _ ⟨_, rfl, hS, rfl, AllP.same _⟩
      refine RelySteps.cons (RelyStep.mk [8] [] rfl rfl rfl (fun xv wS hS hV bq hb K hK => ?_)) ?_
      · obtain ⟨h8, _⟩ := hV
        have h8 : xv 8 = _ := h8
        simp only [putsOf, List.foldl_cons, List.foldl_nil, List.getD_cons_zero, List.getD_cons_succ, List.getD_nil, cond_true, cond_false, Act.put, List.setIfInBounds_toArray, List.set_cons_zero, List.set_cons_succ, h8] at hb
        clear h8
        subst hb
        rw [if_pos (by rfl)]
        go_wp2_with fail
        exact hK.out _ _ ⟨_, rfl, hS, rfl, AllP.same _⟩
      exact RelySteps.nil
    case rE =>
      intro xv wE hS hV
      have h9 := hV 9 (by decide) (by decide)
      clear hV
      simp only [putsOf, List.foldl_cons, List.foldl_nil, List.getD_cons_zero, List.getD_cons_succ, List.getD_nil, cond_true, cond_false, Act.put, List.setIfInBounds_toArray, List.set_cons_zero, List.set_cons_succ]
      have h9 : xv 9 = _ := h9
      rw [h9]; clear h9
      generalize xv 0 = y0 at *
      generalize xv 1 = y1 at *
      generalize xv 2 = y2 at *
      generalize xv 3 = y3 at *
      generalize xv 4 = y4 at *
      generalize xv 5 = y5 at *
      generalize xv 6 = y6 at *
      generalize xv 7 = y7 at *
      generalize xv 8 = y8 at *
      have hgb := HG.out.below hS HG.out.lt
      have st3 := (hgb.cell 3).trans (show _ = some (Value.int .i64 s.x.st) from rfl)
      have stl := hgb.lt
      have HBZ := Lib.hid (HB.out.trans (hS.mono HB.out.size))
      have hsb : (s.x.st == 0) = true := by rw [beq_iff_eq]; first | exact HFS.out rfl | exact HFS.out trivial
      clear hS hgb j0
      go_wp2
      go_ret
      exact ⟨rfl, HBZ.out⟩
end Go.Proofs.Ytiegmpjoiekekaa
