import Derived.Test.YtdffpbfebgcmaaaGreatZz2
namespace Go.Proofs.YtdffpbfebgcmaaaGreat
open Go.RowKit
set_option linter.unusedVariables false
set_option linter.unusedSimpArgs false
set_option maxHeartbeats 8000000 in
set_option maxRecDepth 100000 in
theorem do16k1 (l : List In) (A : Option Addr) (c : Nat) (x : Th) (S : Option Addr) (cs : Nat) (e : Ev) (v : Nat) (w : World) (h : InsAt w A c l) (hok : ∀ i ∈ l, inOk i) (hx : thOk x) (hs : SeqS w 1 (.slice S x.sn.length cs) x.sn.length (cells64 x.sn)) (hl : x.sn.length ≤ 1000000) (hr : thB l x = true) (hre : rightE e = true) (hf : fitB (reqA l (nxT l x)) e = true) (hk : e.kd = 1) :
  Calls Tryz.prog 73 #[.slice A l.length c, .agg (thC x (.slice S x.sn.length cs)), .agg (evC e), .int .u64 (v : Int)] w fun q w' => ∃ A' c', q = .returned (.tuple #[.agg (thC (behT (atT l (nxT l x)) (nxT l x) e v) (.slice A' (behT (atT l (nxT l x)) (nxT l x) e v).sn.length c')), .int .i64 0]) ∧ w'.ownsRow w.heap.size 37 1 (.slice A' (behT (atT l (nxT l x)) (nxT l x) e v).sn.length c') (behT (atT l (nxT l x)) (nxT l x) e v).sn.length (cells64 (behT (atT l (nxT l x)) (nxT l x) e v).sn) ∧ Below w.heap.size w w' := by
 obtain ⟨hc1, hc2⟩ := seq_form h
 have hb3 : Below w.heap.size w (((w.alloc (.cells (thC x (.slice S x.sn.length cs)) 73)).alloc (.cells (evC e) 43)).alloc (.cells thZ 73)) := (((Below.refl _ _).alloc (Nat.le_refl _) _).alloc (by simp) _).alloc (by simp; omega) _
 have l1 := ((Lies.made w 73 (thC x (.slice S x.sn.length cs))).alloc (.cells (evC e) 43)).alloc (.cells thZ 73)
 have l2 := (Lies.made (w.alloc (.cells (thC x (.slice S x.sn.length cs)) 73)) 43 (evC e)).alloc (.cells thZ 73)
 have l3 := Lies.made ((w.alloc (.cells (thC x (.slice S x.sn.length cs)) 73)).alloc (.cells (evC e) 43)) 73 thZ
 rw [show (w.alloc (.cells (thC x (.slice S x.sn.length cs)) 73)).heap.size = w.heap.size + 1 by simp] at l2
 rw [show ((w.alloc (.cells (thC x (.slice S x.sn.length cs)) 73)).alloc (.cells (evC e) 43)).heap.size = w.heap.size + 1 + 1 by simp] at l3
 have HB := Lib.hid hb3
 have HG := Lib.hid l1
 have HE := Lib.hid l2
 have H4 := Lib.hid l3
 have HH := Lib.hid (fun (q : World) (hq : Below w.heap.size w q) => h.later hq)
 clear hb3 l1 l2 l3
 have hnf := nxT_facts hr hx hok
 have HNX := Lib.hid (fun q hq hs => next16 l A c x S cs q hq hok hx hs hl hr)
 have HSQ := Lib.hid (fun (q : World) (hq : Below w.heap.size w q) => hs.later hq)
 have HRI := Lib.hid (fun q => right15 e q)
 rw [hre] at HRI
 have HMT := Lib.hid (fun q => matches16 (reqA l (nxT l x)) e q)
 rw [hf] at HMT
 have HKD := Lib.hid hk
 clear hk
 clear hre hf
 obtain ⟨n, hn⟩ : ∃ n, x.sn.length = n := ⟨_, rfl⟩
 have HNE : Hid ((nxT l x).sn.length = n) := by show _ = _; rw [hnf.2.2, hn]
 have HSE : Hid (cells64 x.sn = cells64 (nxT l x).sn) := by show _ = _; rw [hnf.2.2]
 have HIV := Lib.hid hnf.1
 have HCD := Lib.hid (thB_parts hr).1
 have hlen := (codeB_parts HCD.out).1
 have HOK := Lib.hid hok
 have hn6 : n ≤ 1000000 := by omega
 have HNN := Lib.hid hn
 clear h hs hl hr hx hok hnf hn
 go_enter Tryz.func73, Tryz.ntmps73
 go_upto_region 1 with (fail)
 generalize (((w.alloc (.cells (thC x (.slice S x.sn.length cs)) 73)).alloc (.cells (evC e) 43)).alloc (.cells thZ 73)) = w1 at *
 have c0 := (HG.out.cell 0).trans (show _ = some (Value.int .i64 x.at_) from rfl)
 have c1 := (HG.out.cell 1).trans (show _ = some (Value.int .i64 x.ph) from rfl)
 have c2 := (HG.out.cell 2).trans (show _ = some (Value.int .i64 x.rg) from rfl)
 have c3 := (HG.out.cell 3).trans (show _ = some (Value.int .i64 x.st) from rfl)
 have c4 := (HG.out.cell 4).trans (show _ = some (Value.int .u64 (x.tk : Int)) from rfl)
 have c5 := (HG.out.cell 5).trans (show _ = some (Value.int .u64 (x.r 0 : Int)) from rfl)
 have c6 := (HG.out.cell 6).trans (show _ = some (Value.int .u64 (x.r 1 : Int)) from rfl)
 have c7 := (HG.out.cell 7).trans (show _ = some (Value.int .u64 (x.r 2 : Int)) from rfl)
 have c8 := (HG.out.cell 8).trans (show _ = some (Value.int .u64 (x.r 3 : Int)) from rfl)
 have c9 := (HG.out.cell 9).trans (show _ = some (Value.int .u64 (x.r 4 : Int)) from rfl)
 have c10 := (HG.out.cell 10).trans (show _ = some (Value.int .u64 (x.r 5 : Int)) from rfl)
 have c11 := (HG.out.cell 11).trans (show _ = some (Value.int .u64 (x.r 6 : Int)) from rfl)
 have c12 := (HG.out.cell 12).trans (show _ = some (Value.int .u64 (x.r 7 : Int)) from rfl)
 have c13 := (HG.out.cell 13).trans (show _ = some ((.slice S x.sn.length cs)) from rfl)
 have cl := HG.out.lt
 go_wp2_with fail
 refine (HNX.out _ (HH.out _ HB.out) (HSQ.out _ HB.out)).mono ?_
 rintro e1 w2 ⟨A', c', rfl, ho, hbm⟩
 have HN2 : Hid (w.heap.size + 1 + 1 < w2.heap.size) := Nat.lt_of_lt_of_le H4.out.lt hbm.size
 have HO0 := owns_mono ho HB.out.size
 rw [HSE.out] at HO0
 rw [HNN.out] at HO0 ⊢
 have HO := Lib.hid HO0
 replace HG := Lib.hid (HG.out.below hbm HG.out.lt)
 replace HE := Lib.hid (HE.out.below hbm HE.out.lt)
 replace H4 := Lib.hid (H4.out.below hbm H4.out.lt)
 replace HB := Lib.hid (HB.out.trans (hbm.mono HB.out.size))
 clear hbm HNX HSQ ho HO0 HSE
 generalize hyy : nxT l x = y at *
 have HYE := Lib.hid hyy
 clear hyy
 generalize hzz : reqA l y = z at *
 have HZE := Lib.hid hzz
 clear hzz
 clear c0 c1 c2 c3 c4 c5 c6 c7 c8 c9 c10 c11 c12 c13 cl
 have hba := (Below.refl w2.heap.size w2).alloc (Nat.le_refl _) (.cells akZ 63)
 have H5 := Lib.hid (Lies.made w2 63 akZ)
 replace HG := Lib.hid (HG.out.below hba HG.out.lt)
 replace HE := Lib.hid (HE.out.below hba HE.out.lt)
 replace H4 := Lib.hid (H4.out.below hba H4.out.lt)
 replace HB := Lib.hid (HB.out.trans (hba.mono HB.out.size))
 replace HO := Lib.hid (owned_below HO.out hba)
 have hn5 : w.heap.size + 1 + 1 < w2.heap.size := HN2.out
 clear hba HN2
 generalize hw3 : w2.alloc (.cells akZ 63) = w3 at *
 generalize hn5e : w2.heap.size = n5 at *
 have hk4 := kept_rowT (w := w3) (g := w.heap.size) (thC y (.slice A' n c'))
 have HO2 := Lib.hid (owns_kept HO.out hk4 (fun r cur hr hl (e : r = w.heap.size) => by subst e; exact absurd (hl.same HG.out).1 (by decide)))
 have HG2 := Lib.hid (lies_row HG.out (thC y (.slice A' n c')))
 have HE2 := Lib.hid (HE.out.kept hk4 (fun (e : w.heap.size + 1 = w.heap.size) => by omega))
 have H42 := Lib.hid (H4.out.kept hk4 (fun (e : w.heap.size + 1 + 1 = w.heap.size) => by omega))
 have H5B := Lib.hid (H5.out.kept hk4 (fun (e : n5 = w.heap.size) => by omega))
 have HB2 := Lib.hid (HB.out.trans (hk4.below HB.out.size (fun k hk (e : k = w.heap.size) => by omega)))
 clear hk4
 go_upto_region 2 with (first | refine wpList_store_row rfl 73 _ _ rfl (w.heap.size) (thC y (.slice A' n c')) rfl rfl 73 (thC x (.slice S x.sn.length cs)) HG.out infoTh rfl (thC_one _ rfl) ?_ | refine wpList_store_row rfl 63 _ _ rfl n5 (akC z) rfl rfl 63 akZ H5B.out infoAk rfl (akC_one _) ?_)
 clear HG HE H4 H5 HB HO
 generalize w3.setRow (w.heap.size) (thC y (.slice A' n c')) = w4 at *
 have hk5 := kept_rowT (w := w4) (g := n5) (akC z)
 have HO := Lib.hid (owns_kept HO2.out hk5 (fun r cur hr hl (e : r = n5) => by subst e; exact absurd (hl.same H5B.out).1 (by decide)))
 clear HO2
 have HG := Lib.hid (HG2.out.kept hk5 (fun (e : w.heap.size = n5) => by omega))
 have HE := Lib.hid (HE2.out.kept hk5 (fun (e : w.heap.size + 1 = n5) => by omega))
 have H4 := Lib.hid (H42.out.kept hk5 (fun (e : w.heap.size + 1 + 1 = n5) => by omega))
 have H5 := Lib.hid (lies_row H5B.out (akC z))
 have HB := Lib.hid (HB2.out.trans (hk5.below HB2.out.size (fun k hk (e : k = n5) => by omega)))
 clear hk5 HG2 HE2 H42 H5B HB2
 generalize w4.setRow n5 (akC z) = wq at *
 have q0 := (HE.out.cell 0).trans (show _ = some (Value.int .i64 e.th) from rfl)
 have q1 := (HE.out.cell 1).trans (show _ = some (Value.int .i64 e.kd) from rfl)
 have q2 := (HE.out.cell 2).trans (show _ = some (Value.int .i64 e.rg) from rfl)
 have q3 := (HE.out.cell 3).trans (show _ = some (Value.int .u64 (e.tk : Int)) from rfl)
 have q4 := (HE.out.cell 4).trans (show _ = some (Value.int .u64 (e.vl : Int)) from rfl)
 have ql := HE.out.lt
 go_wp2_with fail
 refine (HRI.out _).mono ?_
 rintro e1 w5 ⟨rfl, hbm⟩
 clear q0 q1 q2 q3 q4 ql
 replace H5 := Lib.hid (H5.out.below hbm H5.out.lt)
 replace HO := Lib.hid (owned_below HO.out hbm)
 replace HG := Lib.hid (HG.out.below hbm HG.out.lt)
 replace HE := Lib.hid (HE.out.below hbm HE.out.lt)
 replace H4 := Lib.hid (H4.out.below hbm H4.out.lt)
 replace HB := Lib.hid (HB.out.trans (hbm.mono HB.out.size))
 clear hbm HRI
 clear wq
 have q0 := (HE.out.cell 0).trans (show _ = some (Value.int .i64 e.th) from rfl)
 have q1 := (HE.out.cell 1).trans (show _ = some (Value.int .i64 e.kd) from rfl)
 have q2 := (HE.out.cell 2).trans (show _ = some (Value.int .i64 e.rg) from rfl)
 have q3 := (HE.out.cell 3).trans (show _ = some (Value.int .u64 (e.tk : Int)) from rfl)
 have q4 := (HE.out.cell 4).trans (show _ = some (Value.int .u64 (e.vl : Int)) from rfl)
 have ql := HE.out.lt
 have k0 := (H5.out.cell 0).trans (show _ = some (.int .i64 z.kd) from rfl)
 have k1 := (H5.out.cell 1).trans (show _ = some (.int .i64 z.rg) from rfl)
 have k2 := (H5.out.cell 2).trans (show _ = some (.int .i64 z.md) from rfl)
 have k3 := (H5.out.cell 3).trans (show _ = some (.int .i64 z.rd) from rfl)
 have k4 := (H5.out.cell 4).trans (show _ = some (.int .u64 (z.tk : Int)) from rfl)
 have k5 := (H5.out.cell 5).trans (show _ = some (.int .u64 (z.vl : Int)) from rfl)
 have kl := H5.out.lt
 go_wp2_with fail
 refine (HMT.out _).mono ?_
 rintro e1 wq ⟨rfl, hbm⟩
 clear q0 q1 q2 q3 q4 ql
 clear k0 k1 k2 k3 k4 k5 kl
 replace HO := Lib.hid (owned_below HO.out hbm)
 replace HG := Lib.hid (HG.out.below hbm HG.out.lt)
 replace HE := Lib.hid (HE.out.below hbm HE.out.lt)
 replace H4 := Lib.hid (H4.out.below hbm H4.out.lt)
 replace HB := Lib.hid (HB.out.trans (hbm.mono HB.out.size))
 clear hbm HMT H5 w5
 have q0 := (HE.out.cell 0).trans (show _ = some (Value.int .i64 e.th) from rfl)
 have q1 := (HE.out.cell 1).trans (show _ = some (Value.int .i64 e.kd) from rfl)
 have q2 := (HE.out.cell 2).trans (show _ = some (Value.int .i64 e.rg) from rfl)
 have q3 := (HE.out.cell 3).trans (show _ = some (Value.int .u64 (e.tk : Int)) from rfl)
 have q4 := (HE.out.cell 4).trans (show _ = some (Value.int .u64 (e.vl : Int)) from rfl)
 have ql := HE.out.lt
 rw [HKD.out] at q1
 go_wp2_with fail
 clear q0 q1 q2 q3 q4 ql
 have HEK := Lib.hid (fun (q : World) (hq : Kept (oneRow (w.heap.size)) wq q) => HE.out.kept hq (fun (e : w.heap.size + 1 = w.heap.size) => by omega))
 refine wp_region_rely (fun q => Kept (oneRow (w.heap.size)) wq q) (rgV [some (.pointer (some ⟨w.heap.size + 1, 2, none⟩)), some (.int .i64 e.rg), some (.pointer (some ⟨w.heap.size + 1, 3, none⟩)), some (.int .u64 (e.tk : Int)), some (.pointer (some ⟨w.heap.size, 1, none⟩)), none, some (.pointer (some ⟨w.heap.size, 2, none⟩)), none, some (.pointer (some ⟨w.heap.size, 4, none⟩)), none, none] (fun j q => match j with | 5 => Lies q (w.heap.size) 73 (thC ({ y with ph := 1 } : Th) (.slice A' n c')) | 7 => Lies q (w.heap.size) 73 (thC ({ y with ph := 1, rg := e.rg } : Th) (.slice A' n c')) | 9 => Lies q (w.heap.size) 73 (thC ({ y with ph := 1, rg := e.rg, tk := e.tk } : Th) (.slice A' n c')) | 10 => Lies q (w.heap.size) 73 (thC y (.slice A' n c')) | _ => True)) [some 44, some 45, some 46, some 47, some 48, none, some 49, none, some 50, none] [[], [0], [], [2], [], [4, 10], [], [6, 1, 5], [], [8, 3, 7]] [[], [0], [], [2], [], [4, 10], [0, 4, 10], [0, 1, 4, 5, 6, 10], [0, 1, 2, 4, 5, 6, 10], [0, 1, 2, 3, 4, 5, 6, 7, 8, 10]] [[2, 3, 4, 5, 10], [2, 3, 4, 5, 10], [0, 1, 4, 5, 6, 7, 10], [0, 1, 4, 5, 6, 7, 10], [0, 1, 2, 3, 10], [0, 1, 2, 3], [1, 2, 3, 5], [2, 3], [3, 7], []] [0, 1, 2, 3, 4, 5, 6, 7, 8, 9] 11 (by kernel_rfl) (by kernel_rfl) (by kernel_rfl) (by kernel_rfl) ?rS ?rI ?rT ?rE
 case rS => exact Kept.drew _ _
 case rI =>
  intro j h1 h2
  have h1 : j < 11 := h1
  have h2 : 10 ≤ j := h2
  obtain rfl : j = 10 := by omega
  exact HG.out.drewN 1
 case rT =>
  refine RelySteps.cons (RelyStep.mk [] [2, 3, 4, 5, 10] rfl rfl rfl (fun xv wS hS hV bq hb K hK => ?_)) ?_
  ·clear hV
   simp only [putsOf, List.foldl_cons, List.foldl_nil, List.getD_cons_zero, List.getD_cons_succ, List.getD_nil, cond_true, cond_false, Act.put, List.setIfInBounds_toArray, List.set_cons_zero, List.set_cons_succ] at hb
   subst hb
   rw [if_pos (by rfl)]
   go_wp2_with fail
   exact hK.out _ _ ⟨_, rfl, hS, rfl, AllP.same _⟩
  refine RelySteps.cons (RelyStep.mk [0] [2, 3, 4, 5, 10] rfl rfl rfl (fun xv wS hS hV bq hb K hK => ?_)) ?_
  ·obtain ⟨h0, _⟩ := hV
   have h0 : xv 0 = _ := h0
   simp only [putsOf, List.foldl_cons, List.foldl_nil, List.getD_cons_zero, List.getD_cons_succ, List.getD_nil, cond_true, cond_false, Act.put, List.setIfInBounds_toArray, List.set_cons_zero, List.set_cons_succ, h0] at hb
   clear h0
   subst hb
   rw [if_pos (by rfl)]
   (have HZ := Lib.hid (HEK.out _ hS); have c9 := (HZ.out.cell 2).trans (show _ = some _ from rfl); have c8 := HZ.out.lt)
   go_wp2_with fail
   exact hK.out _ _ ⟨_, rfl, hS, rfl, AllP.same _⟩
  refine RelySteps.cons (RelyStep.mk [] [0, 1, 4, 5, 6, 7, 10] rfl rfl rfl (fun xv wS hS hV bq hb K hK => ?_)) ?_
  ·clear hV
   simp only [putsOf, List.foldl_cons, List.foldl_nil, List.getD_cons_zero, List.getD_cons_succ, List.getD_nil, cond_true, cond_false, Act.put, List.setIfInBounds_toArray, List.set_cons_zero, List.set_cons_succ] at hb
   subst hb
   rw [if_pos (by rfl)]
   go_wp2_with fail
   exact hK.out _ _ ⟨_, rfl, hS, rfl, AllP.same _⟩
  refine RelySteps.cons (RelyStep.mk [2] [0, 1, 4, 5, 6, 7, 10] rfl rfl rfl (fun xv wS hS hV bq hb K hK => ?_)) ?_
  ·obtain ⟨h2, _⟩ := hV
   have h2 : xv 2 = _ := h2
   simp only [putsOf, List.foldl_cons, List.foldl_nil, List.getD_cons_zero, List.getD_cons_succ, List.getD_nil, cond_true, cond_false, Act.put, List.setIfInBounds_toArray, List.set_cons_zero, List.set_cons_succ, h2] at hb
   clear h2
   subst hb
   rw [if_pos (by rfl)]
   (have HZ := Lib.hid (HEK.out _ hS); have c9 := (HZ.out.cell 3).trans (show _ = some _ from rfl); have c8 := HZ.out.lt)
   go_wp2_with fail
   exact hK.out _ _ ⟨_, rfl, hS, rfl, AllP.same _⟩
  refine RelySteps.cons (RelyStep.mk [] [0, 1, 2, 3, 10] rfl rfl rfl (fun xv wS hS hV bq hb K hK => ?_)) ?_
  ·clear hV
   simp only [putsOf, List.foldl_cons, List.foldl_nil, List.getD_cons_zero, List.getD_cons_succ, List.getD_nil, cond_true, cond_false, Act.put, List.setIfInBounds_toArray, List.set_cons_zero, List.set_cons_succ] at hb
   subst hb
   rw [if_pos (by rfl)]
   go_wp2_with fail
   exact hK.out _ _ ⟨_, rfl, hS, rfl, AllP.same _⟩
  refine RelySteps.cons (RelyStep.mk [4, 10] [0, 1, 2, 3] rfl rfl rfl (fun xv wS hS hV bq hb K hK => ?_)) ?_
  ·obtain ⟨h4, h10, _⟩ := hV
   have h4 : xv 4 = _ := h4
   simp only [putsOf, List.foldl_cons, List.foldl_nil, List.getD_cons_zero, List.getD_cons_succ, List.getD_nil, cond_true, cond_false, Act.put, List.setIfInBounds_toArray, List.set_cons_zero, List.set_cons_succ, h4] at hb
   clear h4
   generalize xv 10 = y10 at *
   subst hb
   rw [if_pos (by rfl)]
   have qq : Lies wS (w.heap.size) 73 (thC y (.slice A' n c')) := h10
   have HSS := Lib.hid hS
   have HQ := Lib.hid qq
   have c9 := qq.cell 1
   simp at c9
   have f9 := qq.free 1
   have c8 := qq.lt
   clear hS qq h10
   go_wp2_with fail
   exact hK.out _ _ ⟨undef, rfl, HSS.out.trans (Kept.put wS (w.heap.size) 1 _) (fun _ _ e => e), (show Lies _ _ _ _ from HQ.out.put 1 (.int .i64 1)), AllP.of _ (fun j hj u h => rgV_low (all_in (fun j => (List.getD ([some (.pointer (some ⟨w.heap.size + 1, 2, none⟩)), some (.int .i64 e.rg), some (.pointer (some ⟨w.heap.size + 1, 3, none⟩)), some (.int .u64 (e.tk : Int)), some (.pointer (some ⟨w.heap.size, 1, none⟩)), none, some (.pointer (some ⟨w.heap.size, 2, none⟩)), none, some (.pointer (some ⟨w.heap.size, 4, none⟩)), none, none] : List (Option Value)) j none).isSome) rfl hj) h)⟩
  refine RelySteps.cons (RelyStep.mk [] [1, 2, 3, 5] rfl rfl rfl (fun xv wS hS hV bq hb K hK => ?_)) ?_
  ·clear hV
   simp only [putsOf, List.foldl_cons, List.foldl_nil, List.getD_cons_zero, List.getD_cons_succ, List.getD_nil, cond_true, cond_false, Act.put, List.setIfInBounds_toArray, List.set_cons_zero, List.set_cons_succ] at hb
   subst hb
   rw [if_pos (by rfl)]
   go_wp2_with fail
   exact hK.out _ _ ⟨_, rfl, hS, rfl, AllP.same _⟩
  refine RelySteps.cons (RelyStep.mk [6, 1, 5] [2, 3] rfl rfl rfl (fun xv wS hS hV bq hb K hK => ?_)) ?_
  ·obtain ⟨h6, h1, h5, _⟩ := hV
   have h6 : xv 6 = _ := h6
   have h1 : xv 1 = _ := h1
   simp only [putsOf, List.foldl_cons, List.foldl_nil, List.getD_cons_zero, List.getD_cons_succ, List.getD_nil, cond_true, cond_false, Act.put, List.setIfInBounds_toArray, List.set_cons_zero, List.set_cons_succ, h6, h1] at hb
   clear h6
   clear h1
   generalize xv 5 = y5 at *
   subst hb
   rw [if_pos (by rfl)]
   have qq : Lies wS (w.heap.size) 73 (thC ({ y with ph := 1 } : Th) (.slice A' n c')) := h5
   have HSS := Lib.hid hS
   have HQ := Lib.hid qq
   have c9 := qq.cell 2
   simp at c9
   have f9 := qq.free 2
   have c8 := qq.lt
   clear hS qq h5
   go_wp2_with fail
   exact hK.out _ _ ⟨undef, rfl, HSS.out.trans (Kept.put wS (w.heap.size) 2 _) (fun _ _ e => e), (show Lies _ _ _ _ from HQ.out.put 2 (.int .i64 e.rg)), AllP.of _ (fun j hj u h => rgV_low (all_in (fun j => (List.getD ([some (.pointer (some ⟨w.heap.size + 1, 2, none⟩)), some (.int .i64 e.rg), some (.pointer (some ⟨w.heap.size + 1, 3, none⟩)), some (.int .u64 (e.tk : Int)), some (.pointer (some ⟨w.heap.size, 1, none⟩)), none, some (.pointer (some ⟨w.heap.size, 2, none⟩)), none, some (.pointer (some ⟨w.heap.size, 4, none⟩)), none, none] : List (Option Value)) j none).isSome) rfl hj) h)⟩
  refine RelySteps.cons (RelyStep.mk [] [3, 7] rfl rfl rfl (fun xv wS hS hV bq hb K hK => ?_)) ?_
  ·clear hV
   simp only [putsOf, List.foldl_cons, List.foldl_nil, List.getD_cons_zero, List.getD_cons_succ, List.getD_nil, cond_true, cond_false, Act.put, List.setIfInBounds_toArray, List.set_cons_zero, List.set_cons_succ] at hb
   subst hb
   rw [if_pos (by rfl)]
   go_wp2_with fail
   exact hK.out _ _ ⟨_, rfl, hS, rfl, AllP.same _⟩
  refine RelySteps.cons (RelyStep.mk [8, 3, 7] [] rfl rfl rfl (fun xv wS hS hV bq hb K hK => ?_)) ?_
  ·obtain ⟨h8, h3, h7, _⟩ := hV
   have h8 : xv 8 = _ := h8
   have h3 : xv 3 = _ := h3
   simp only [putsOf, List.foldl_cons, List.foldl_nil, List.getD_cons_zero, List.getD_cons_succ, List.getD_nil, cond_true, cond_false, Act.put, List.setIfInBounds_toArray, List.set_cons_zero, List.set_cons_succ, h8, h3] at hb
   clear h8
   clear h3
   generalize xv 7 = y7 at *
   subst hb
   rw [if_pos (by rfl)]
   have qq : Lies wS (w.heap.size) 73 (thC ({ y with ph := 1, rg := e.rg } : Th) (.slice A' n c')) := h7
   have HSS := Lib.hid hS
   have HQ := Lib.hid qq
   have c9 := qq.cell 4
   simp at c9
   have f9 := qq.free 4
   have c8 := qq.lt
   clear hS qq h7
   go_wp2_with fail
   exact hK.out _ _ ⟨undef, rfl, HSS.out.trans (Kept.put wS (w.heap.size) 4 _) (fun _ _ e => e), (show Lies _ _ _ _ from HQ.out.put 4 (.int .u64 (e.tk : Int))), AllP.of _ (fun j hj u h => rgV_low (all_in (fun j => (List.getD ([some (.pointer (some ⟨w.heap.size + 1, 2, none⟩)), some (.int .i64 e.rg), some (.pointer (some ⟨w.heap.size + 1, 3, none⟩)), some (.int .u64 (e.tk : Int)), some (.pointer (some ⟨w.heap.size, 1, none⟩)), none, some (.pointer (some ⟨w.heap.size, 2, none⟩)), none, some (.pointer (some ⟨w.heap.size, 4, none⟩)), none, none] : List (Option Value)) j none).isSome) rfl hj) h)⟩
  exact RelySteps.nil
 case rE =>
  intro xv wE hS hV
  have h9 := hV 9 (by decide) (by decide)
  clear hV
  simp only [putsOf, List.foldl_cons, List.foldl_nil, List.getD_cons_zero, List.getD_cons_succ, List.getD_nil, cond_true, cond_false, Act.put, List.setIfInBounds_toArray, List.set_cons_zero, List.set_cons_succ]
  generalize xv 0 = y0 at *
  generalize xv 1 = y1 at *
  generalize xv 2 = y2 at *
  generalize xv 3 = y3 at *
  generalize xv 4 = y4 at *
  generalize xv 5 = y5 at *
  generalize xv 6 = y6 at *
  generalize xv 7 = y7 at *
  generalize xv 8 = y8 at *
  generalize xv 9 = y9 at *
  replace H4 := Lib.hid (H4.out.kept hS (fun (e : w.heap.size + 1 + 1 = w.heap.size) => by omega))
  replace HO := Lib.hid (owns_kept HO.out hS (fun r cur hr hl (e : r = w.heap.size) => by subst e; exact absurd (hl.same HG.out).1 (by decide)))
  replace HB := Lib.hid (HB.out.trans (hS.below HB.out.size (fun k hk (e : k = w.heap.size) => by omega)))
  replace HG : Hid (Lies wE (w.heap.size) 73 (thC ({ y with ph := 1, rg := e.rg, tk := e.tk } : Th) (.slice A' n c'))) := h9
  clear hS h9 HEK HE HIV HCD HOK
  have HBE : Hid (behT (atT l y) y e v = ({ y with ph := 1, rg := e.rg, tk := e.tk } : Th)) := by show _ = _; unfold behT; rw [HKD.out]; simp
  replace HO : Hid (World.ownsRow wE w.heap.size 37 1 (.slice A' n c') n (cells64 (({ y with ph := 1, rg := e.rg, tk := e.tk } : Th)).sn)) := HO
  have HZN : Hid ((({ y with ph := 1, rg := e.rg, tk := e.tk } : Th)).sn.length = n) := HNE
  have c0 := (HG.out.cell 0).trans (show _ = some (Value.int .i64 ({ y with ph := 1, rg := e.rg, tk := e.tk } : Th).at_) from rfl)
  have c1 := (HG.out.cell 1).trans (show _ = some (Value.int .i64 ({ y with ph := 1, rg := e.rg, tk := e.tk } : Th).ph) from rfl)
  have c2 := (HG.out.cell 2).trans (show _ = some (Value.int .i64 ({ y with ph := 1, rg := e.rg, tk := e.tk } : Th).rg) from rfl)
  have c3 := (HG.out.cell 3).trans (show _ = some (Value.int .i64 ({ y with ph := 1, rg := e.rg, tk := e.tk } : Th).st) from rfl)
  have c4 := (HG.out.cell 4).trans (show _ = some (Value.int .u64 (({ y with ph := 1, rg := e.rg, tk := e.tk } : Th).tk : Int)) from rfl)
  have c5 := (HG.out.cell 5).trans (show _ = some (Value.int .u64 (({ y with ph := 1, rg := e.rg, tk := e.tk } : Th).r 0 : Int)) from rfl)
  have c6 := (HG.out.cell 6).trans (show _ = some (Value.int .u64 (({ y with ph := 1, rg := e.rg, tk := e.tk } : Th).r 1 : Int)) from rfl)
  have c7 := (HG.out.cell 7).trans (show _ = some (Value.int .u64 (({ y with ph := 1, rg := e.rg, tk := e.tk } : Th).r 2 : Int)) from rfl)
  have c8 := (HG.out.cell 8).trans (show _ = some (Value.int .u64 (({ y with ph := 1, rg := e.rg, tk := e.tk } : Th).r 3 : Int)) from rfl)
  have c9 := (HG.out.cell 9).trans (show _ = some (Value.int .u64 (({ y with ph := 1, rg := e.rg, tk := e.tk } : Th).r 4 : Int)) from rfl)
  have c10 := (HG.out.cell 10).trans (show _ = some (Value.int .u64 (({ y with ph := 1, rg := e.rg, tk := e.tk } : Th).r 5 : Int)) from rfl)
  have c11 := (HG.out.cell 11).trans (show _ = some (Value.int .u64 (({ y with ph := 1, rg := e.rg, tk := e.tk } : Th).r 6 : Int)) from rfl)
  have c12 := (HG.out.cell 12).trans (show _ = some (Value.int .u64 (({ y with ph := 1, rg := e.rg, tk := e.tk } : Th).r 7 : Int)) from rfl)
  have c13 := (HG.out.cell 13).trans (show _ = some ((.slice A' n c')) from rfl)
  have cl := HG.out.lt
  go_wp2_with (
   refine wpList_store_row rfl 73 _ _ rfl (w.heap.size + 1 + 1) (thC ({ y with ph := 1, rg := e.rg, tk := e.tk } : Th) (.slice A' n c')) rfl rfl 73 thZ H4.out infoTh rfl (thC_one _ rfl) ?_
   clear c0 c1 c2 c3 c4 c5 c6 c7 c8 c9 c10 c11 c12 c13 cl
   have hk9 := kept_rowT (w := wE) (g := w.heap.size + 1 + 1) (thC ({ y with ph := 1, rg := e.rg, tk := e.tk } : Th) (.slice A' n c'))
   have HBZ := Lib.hid (HB.out.trans (hk9.below HB.out.size (fun k hk (e : k = w.heap.size + 1 + 1) => by omega)))
   have Q4 := Lib.hid (lies_row H4.out (thC ({ y with ph := 1, rg := e.rg, tk := e.tk } : Th) (.slice A' n c')))
   have HOZ := Lib.hid (owns_kept HO.out hk9 (fun r cur hr hl (e : r = w.heap.size + 1 + 1) => by subst e; exact absurd (hl.same H4.out).1 (by decide)))
   clear hk9
   generalize wE.setRow (w.heap.size + 1 + 1) (thC ({ y with ph := 1, rg := e.rg, tk := e.tk } : Th) (.slice A' n c')) = wF at *
   clear HB H4 HG HO
   generalize hz9 : ({ y with ph := 1, rg := e.rg, tk := e.tk } : Th) = Z9 at *
   have z0 := (Q4.out.cell 0).trans (show _ = some (Value.int .i64 Z9.at_) from rfl)
   have z1 := (Q4.out.cell 1).trans (show _ = some (Value.int .i64 Z9.ph) from rfl)
   have z2 := (Q4.out.cell 2).trans (show _ = some (Value.int .i64 Z9.rg) from rfl)
   have z3 := (Q4.out.cell 3).trans (show _ = some (Value.int .i64 Z9.st) from rfl)
   have z4 := (Q4.out.cell 4).trans (show _ = some (Value.int .u64 (Z9.tk : Int)) from rfl)
   have z5 := (Q4.out.cell 5).trans (show _ = some (Value.int .u64 (Z9.r 0 : Int)) from rfl)
   have z6 := (Q4.out.cell 6).trans (show _ = some (Value.int .u64 (Z9.r 1 : Int)) from rfl)
   have z7 := (Q4.out.cell 7).trans (show _ = some (Value.int .u64 (Z9.r 2 : Int)) from rfl)
   have z8 := (Q4.out.cell 8).trans (show _ = some (Value.int .u64 (Z9.r 3 : Int)) from rfl)
   have z9 := (Q4.out.cell 9).trans (show _ = some (Value.int .u64 (Z9.r 4 : Int)) from rfl)
   have z10 := (Q4.out.cell 10).trans (show _ = some (Value.int .u64 (Z9.r 5 : Int)) from rfl)
   have z11 := (Q4.out.cell 11).trans (show _ = some (Value.int .u64 (Z9.r 6 : Int)) from rfl)
   have z12 := (Q4.out.cell 12).trans (show _ = some (Value.int .u64 (Z9.r 7 : Int)) from rfl)
   have z13 := (Q4.out.cell 13).trans (show _ = some ((.slice A' n c')) from rfl)
   have zl := Q4.out.lt
   go_wp2
   exact bodyPost_ret (v := .tuple #[.agg (thC Z9 (.slice A' n c')), .int .i64 0]) (by simp [results, Tryz.results73, go_sem, z0, z1, z2, z3, z4, z5, z6, z7, z8, z9, z10, z11, z12, z13]) rfl ⟨_, _, by rw [HYE.out, HBE.out, HZN.out], by rw [HYE.out, HBE.out, HZN.out]; exact HOZ.out, HBZ.out⟩)
set_option maxHeartbeats 8000000 in
set_option maxRecDepth 100000 in
theorem do16k3 (l : List In) (A : Option Addr) (c : Nat) (x : Th) (S : Option Addr) (cs : Nat) (e : Ev) (v : Nat) (w : World) (h : InsAt w A c l) (hok : ∀ i ∈ l, inOk i) (hx : thOk x) (hs : SeqS w 1 (.slice S x.sn.length cs) x.sn.length (cells64 x.sn)) (hl : x.sn.length ≤ 1000000) (hr : thB l x = true) (hre : rightE e = true) (hf : fitB (reqA l (nxT l x)) e = true) (hk : e.kd = 3) :
  Calls Tryz.prog 73 #[.slice A l.length c, .agg (thC x (.slice S x.sn.length cs)), .agg (evC e), .int .u64 (v : Int)] w fun q w' => ∃ A' c', q = .returned (.tuple #[.agg (thC (behT (atT l (nxT l x)) (nxT l x) e v) (.slice A' (behT (atT l (nxT l x)) (nxT l x) e v).sn.length c')), .int .i64 0]) ∧ w'.ownsRow w.heap.size 37 1 (.slice A' (behT (atT l (nxT l x)) (nxT l x) e v).sn.length c') (behT (atT l (nxT l x)) (nxT l x) e v).sn.length (cells64 (behT (atT l (nxT l x)) (nxT l x) e v).sn) ∧ Below w.heap.size w w' := by
 obtain ⟨hc1, hc2⟩ := seq_form h
 have hb3 : Below w.heap.size w (((w.alloc (.cells (thC x (.slice S x.sn.length cs)) 73)).alloc (.cells (evC e) 43)).alloc (.cells thZ 73)) := (((Below.refl _ _).alloc (Nat.le_refl _) _).alloc (by simp) _).alloc (by simp; omega) _
 have l1 := ((Lies.made w 73 (thC x (.slice S x.sn.length cs))).alloc (.cells (evC e) 43)).alloc (.cells thZ 73)
 have l2 := (Lies.made (w.alloc (.cells (thC x (.slice S x.sn.length cs)) 73)) 43 (evC e)).alloc (.cells thZ 73)
 have l3 := Lies.made ((w.alloc (.cells (thC x (.slice S x.sn.length cs)) 73)).alloc (.cells (evC e) 43)) 73 thZ
 rw [show (w.alloc (.cells (thC x (.slice S x.sn.length cs)) 73)).heap.size = w.heap.size + 1 by simp] at l2
 rw [show ((w.alloc (.cells (thC x (.slice S x.sn.length cs)) 73)).alloc (.cells (evC e) 43)).heap.size = w.heap.size + 1 + 1 by simp] at l3
 have HB := Lib.hid hb3
 have HG := Lib.hid l1
 have HE := Lib.hid l2
 have H4 := Lib.hid l3
 have HH := Lib.hid (fun (q : World) (hq : Below w.heap.size w q) => h.later hq)
 clear hb3 l1 l2 l3
 have hnf := nxT_facts hr hx hok
 have HNX := Lib.hid (fun q hq hs => next16 l A c x S cs q hq hok hx hs hl hr)
 have HSQ := Lib.hid (fun (q : World) (hq : Below w.heap.size w q) => hs.later hq)
 have HRI := Lib.hid (fun q => right15 e q)
 rw [hre] at HRI
 have HMT := Lib.hid (fun q => matches16 (reqA l (nxT l x)) e q)
 rw [hf] at HMT
 have HKD := Lib.hid hk
 clear hk
 clear hre hf
 obtain ⟨n, hn⟩ : ∃ n, x.sn.length = n := ⟨_, rfl⟩
 have HNE : Hid ((nxT l x).sn.length = n) := by show _ = _; rw [hnf.2.2, hn]
 have HSE : Hid (cells64 x.sn = cells64 (nxT l x).sn) := by show _ = _; rw [hnf.2.2]
 have HIV := Lib.hid hnf.1
 have HCD := Lib.hid (thB_parts hr).1
 have hlen := (codeB_parts HCD.out).1
 have HOK := Lib.hid hok
 have hn6 : n ≤ 1000000 := by omega
 have HNN := Lib.hid hn
 clear h hs hl hr hx hok hnf hn
 go_enter Tryz.func73, Tryz.ntmps73
 go_upto_region 1 with (fail)
 generalize (((w.alloc (.cells (thC x (.slice S x.sn.length cs)) 73)).alloc (.cells (evC e) 43)).alloc (.cells thZ 73)) = w1 at *
 have c0 := (HG.out.cell 0).trans (show _ = some (Value.int .i64 x.at_) from rfl)
 have c1 := (HG.out.cell 1).trans (show _ = some (Value.int .i64 x.ph) from rfl)
 have c2 := (HG.out.cell 2).trans (show _ = some (Value.int .i64 x.rg) from rfl)
 have c3 := (HG.out.cell 3).trans (show _ = some (Value.int .i64 x.st) from rfl)
 have c4 := (HG.out.cell 4).trans (show _ = some (Value.int .u64 (x.tk : Int)) from rfl)
 have c5 := (HG.out.cell 5).trans (show _ = some (Value.int .u64 (x.r 0 : Int)) from rfl)
 have c6 := (HG.out.cell 6).trans (show _ = some (Value.int .u64 (x.r 1 : Int)) from rfl)
 have c7 := (HG.out.cell 7).trans (show _ = some (Value.int .u64 (x.r 2 : Int)) from rfl)
 have c8 := (HG.out.cell 8).trans (show _ = some (Value.int .u64 (x.r 3 : Int)) from rfl)
 have c9 := (HG.out.cell 9).trans (show _ = some (Value.int .u64 (x.r 4 : Int)) from rfl)
 have c10 := (HG.out.cell 10).trans (show _ = some (Value.int .u64 (x.r 5 : Int)) from rfl)
 have c11 := (HG.out.cell 11).trans (show _ = some (Value.int .u64 (x.r 6 : Int)) from rfl)
 have c12 := (HG.out.cell 12).trans (show _ = some (Value.int .u64 (x.r 7 : Int)) from rfl)
 have c13 := (HG.out.cell 13).trans (show _ = some ((.slice S x.sn.length cs)) from rfl)
 have cl := HG.out.lt
 go_wp2_with fail
 refine (HNX.out _ (HH.out _ HB.out) (HSQ.out _ HB.out)).mono ?_
 rintro e1 w2 ⟨A', c', rfl, ho, hbm⟩
 have HN2 : Hid (w.heap.size + 1 + 1 < w2.heap.size) := Nat.lt_of_lt_of_le H4.out.lt hbm.size
 have HO0 := owns_mono ho HB.out.size
 rw [HSE.out] at HO0
 rw [HNN.out] at HO0 ⊢
 have HO := Lib.hid HO0
 replace HG := Lib.hid (HG.out.below hbm HG.out.lt)
 replace HE := Lib.hid (HE.out.below hbm HE.out.lt)
 replace H4 := Lib.hid (H4.out.below hbm H4.out.lt)
 replace HB := Lib.hid (HB.out.trans (hbm.mono HB.out.size))
 clear hbm HNX HSQ ho HO0 HSE
 generalize hyy : nxT l x = y at *
 have HYE := Lib.hid hyy
 clear hyy
 generalize hzz : reqA l y = z at *
 have HZE := Lib.hid hzz
 clear hzz
 clear c0 c1 c2 c3 c4 c5 c6 c7 c8 c9 c10 c11 c12 c13 cl
 have hba := (Below.refl w2.heap.size w2).alloc (Nat.le_refl _) (.cells akZ 63)
 have H5 := Lib.hid (Lies.made w2 63 akZ)
 replace HG := Lib.hid (HG.out.below hba HG.out.lt)
 replace HE := Lib.hid (HE.out.below hba HE.out.lt)
 replace H4 := Lib.hid (H4.out.below hba H4.out.lt)
 replace HB := Lib.hid (HB.out.trans (hba.mono HB.out.size))
 replace HO := Lib.hid (owned_below HO.out hba)
 have hn5 : w.heap.size + 1 + 1 < w2.heap.size := HN2.out
 clear hba HN2
 generalize hw3 : w2.alloc (.cells akZ 63) = w3 at *
 generalize hn5e : w2.heap.size = n5 at *
 have hk4 := kept_rowT (w := w3) (g := w.heap.size) (thC y (.slice A' n c'))
 have HO2 := Lib.hid (owns_kept HO.out hk4 (fun r cur hr hl (e : r = w.heap.size) => by subst e; exact absurd (hl.same HG.out).1 (by decide)))
 have HG2 := Lib.hid (lies_row HG.out (thC y (.slice A' n c')))
 have HE2 := Lib.hid (HE.out.kept hk4 (fun (e : w.heap.size + 1 = w.heap.size) => by omega))
 have H42 := Lib.hid (H4.out.kept hk4 (fun (e : w.heap.size + 1 + 1 = w.heap.size) => by omega))
 have H5B := Lib.hid (H5.out.kept hk4 (fun (e : n5 = w.heap.size) => by omega))
 have HB2 := Lib.hid (HB.out.trans (hk4.below HB.out.size (fun k hk (e : k = w.heap.size) => by omega)))
 clear hk4
 go_upto_region 2 with (first | refine wpList_store_row rfl 73 _ _ rfl (w.heap.size) (thC y (.slice A' n c')) rfl rfl 73 (thC x (.slice S x.sn.length cs)) HG.out infoTh rfl (thC_one _ rfl) ?_ | refine wpList_store_row rfl 63 _ _ rfl n5 (akC z) rfl rfl 63 akZ H5B.out infoAk rfl (akC_one _) ?_)
 clear HG HE H4 H5 HB HO
 generalize w3.setRow (w.heap.size) (thC y (.slice A' n c')) = w4 at *
 have hk5 := kept_rowT (w := w4) (g := n5) (akC z)
 have HO := Lib.hid (owns_kept HO2.out hk5 (fun r cur hr hl (e : r = n5) => by subst e; exact absurd (hl.same H5B.out).1 (by decide)))
 clear HO2
 have HG := Lib.hid (HG2.out.kept hk5 (fun (e : w.heap.size = n5) => by omega))
 have HE := Lib.hid (HE2.out.kept hk5 (fun (e : w.heap.size + 1 = n5) => by omega))
 have H4 := Lib.hid (H42.out.kept hk5 (fun (e : w.heap.size + 1 + 1 = n5) => by omega))
 have H5 := Lib.hid (lies_row H5B.out (akC z))
 have HB := Lib.hid (HB2.out.trans (hk5.below HB2.out.size (fun k hk (e : k = n5) => by omega)))
 clear hk5 HG2 HE2 H42 H5B HB2
 generalize w4.setRow n5 (akC z) = wq at *
 have q0 := (HE.out.cell 0).trans (show _ = some (Value.int .i64 e.th) from rfl)
 have q1 := (HE.out.cell 1).trans (show _ = some (Value.int .i64 e.kd) from rfl)
 have q2 := (HE.out.cell 2).trans (show _ = some (Value.int .i64 e.rg) from rfl)
 have q3 := (HE.out.cell 3).trans (show _ = some (Value.int .u64 (e.tk : Int)) from rfl)
 have q4 := (HE.out.cell 4).trans (show _ = some (Value.int .u64 (e.vl : Int)) from rfl)
 have ql := HE.out.lt
 go_wp2_with fail
 refine (HRI.out _).mono ?_
 rintro e1 w5 ⟨rfl, hbm⟩
 clear q0 q1 q2 q3 q4 ql
 replace H5 := Lib.hid (H5.out.below hbm H5.out.lt)
 replace HO := Lib.hid (owned_below HO.out hbm)
 replace HG := Lib.hid (HG.out.below hbm HG.out.lt)
 replace HE := Lib.hid (HE.out.below hbm HE.out.lt)
 replace H4 := Lib.hid (H4.out.below hbm H4.out.lt)
 replace HB := Lib.hid (HB.out.trans (hbm.mono HB.out.size))
 clear hbm HRI
 clear wq
 have q0 := (HE.out.cell 0).trans (show _ = some (Value.int .i64 e.th) from rfl)
 have q1 := (HE.out.cell 1).trans (show _ = some (Value.int .i64 e.kd) from rfl)
 have q2 := (HE.out.cell 2).trans (show _ = some (Value.int .i64 e.rg) from rfl)
 have q3 := (HE.out.cell 3).trans (show _ = some (Value.int .u64 (e.tk : Int)) from rfl)
 have q4 := (HE.out.cell 4).trans (show _ = some (Value.int .u64 (e.vl : Int)) from rfl)
 have ql := HE.out.lt
 have k0 := (H5.out.cell 0).trans (show _ = some (.int .i64 z.kd) from rfl)
 have k1 := (H5.out.cell 1).trans (show _ = some (.int .i64 z.rg) from rfl)
 have k2 := (H5.out.cell 2).trans (show _ = some (.int .i64 z.md) from rfl)
 have k3 := (H5.out.cell 3).trans (show _ = some (.int .i64 z.rd) from rfl)
 have k4 := (H5.out.cell 4).trans (show _ = some (.int .u64 (z.tk : Int)) from rfl)
 have k5 := (H5.out.cell 5).trans (show _ = some (.int .u64 (z.vl : Int)) from rfl)
 have kl := H5.out.lt
 go_wp2_with fail
 refine (HMT.out _).mono ?_
 rintro e1 wq ⟨rfl, hbm⟩
 clear q0 q1 q2 q3 q4 ql
 clear k0 k1 k2 k3 k4 k5 kl
 replace HO := Lib.hid (owned_below HO.out hbm)
 replace HG := Lib.hid (HG.out.below hbm HG.out.lt)
 replace HE := Lib.hid (HE.out.below hbm HE.out.lt)
 replace H4 := Lib.hid (H4.out.below hbm H4.out.lt)
 replace HB := Lib.hid (HB.out.trans (hbm.mono HB.out.size))
 clear hbm HMT H5 w5
 have q0 := (HE.out.cell 0).trans (show _ = some (Value.int .i64 e.th) from rfl)
 have q1 := (HE.out.cell 1).trans (show _ = some (Value.int .i64 e.kd) from rfl)
 have q2 := (HE.out.cell 2).trans (show _ = some (Value.int .i64 e.rg) from rfl)
 have q3 := (HE.out.cell 3).trans (show _ = some (Value.int .u64 (e.tk : Int)) from rfl)
 have q4 := (HE.out.cell 4).trans (show _ = some (Value.int .u64 (e.vl : Int)) from rfl)
 have ql := HE.out.lt
 rw [HKD.out] at q1
 go_wp2_with fail
 clear q0 q1 q2 q3 q4 ql
 have HEK := Lib.hid (fun (q : World) (hq : Kept (oneRow (w.heap.size)) wq q) => HE.out.kept hq (fun (e : w.heap.size + 1 = w.heap.size) => by omega))
 refine wp_region_rely (fun q => Kept (oneRow (w.heap.size)) wq q) (rgV [some (.pointer (some ⟨w.heap.size + 1, 2, none⟩)), some (.int .i64 e.rg), some (.pointer (some ⟨w.heap.size + 1, 3, none⟩)), some (.int .u64 (e.tk : Int)), some (.pointer (some ⟨w.heap.size, 1, none⟩)), none, some (.pointer (some ⟨w.heap.size, 2, none⟩)), none, some (.pointer (some ⟨w.heap.size, 4, none⟩)), none, none] (fun j q => match j with | 5 => Lies q (w.heap.size) 73 (thC ({ y with ph := 2 } : Th) (.slice A' n c')) | 7 => Lies q (w.heap.size) 73 (thC ({ y with ph := 2, rg := e.rg } : Th) (.slice A' n c')) | 9 => Lies q (w.heap.size) 73 (thC ({ y with ph := 2, rg := e.rg, tk := e.tk } : Th) (.slice A' n c')) | 10 => Lies q (w.heap.size) 73 (thC y (.slice A' n c')) | _ => True)) [some 53, some 54, some 55, some 56, some 57, none, some 58, none, some 59, none] [[], [0], [], [2], [], [4, 10], [], [6, 1, 5], [], [8, 3, 7]] [[], [0], [], [2], [], [4, 10], [0, 4, 10], [0, 1, 4, 5, 6, 10], [0, 1, 2, 4, 5, 6, 10], [0, 1, 2, 3, 4, 5, 6, 7, 8, 10]] [[2, 3, 4, 5, 10], [2, 3, 4, 5, 10], [0, 1, 4, 5, 6, 7, 10], [0, 1, 4, 5, 6, 7, 10], [0, 1, 2, 3, 10], [0, 1, 2, 3], [1, 2, 3, 5], [2, 3], [3, 7], []] [0, 1, 2, 3, 4, 5, 6, 7, 8, 9] 11 (by kernel_rfl) (by kernel_rfl) (by kernel_rfl) (by kernel_rfl) ?rS ?rI ?rT ?rE
 case rS => exact Kept.drew _ _
 case rI =>
  intro j h1 h2
  have h1 : j < 11 := h1
  have h2 : 10 ≤ j := h2
  obtain rfl : j = 10 := by omega
  exact HG.out.drewN 1
 case rT =>
  refine RelySteps.cons (RelyStep.mk [] [2, 3, 4, 5, 10] rfl rfl rfl (fun xv wS hS hV bq hb K hK => ?_)) ?_
  ·clear hV
   simp only [putsOf, List.foldl_cons, List.foldl_nil, List.getD_cons_zero, List.getD_cons_succ, List.getD_nil, cond_true, cond_false, Act.put, List.setIfInBounds_toArray, List.set_cons_zero, List.set_cons_succ] at hb
   subst hb
   rw [if_pos (by rfl)]
   go_wp2_with fail
   exact hK.out _ _ ⟨_, rfl, hS, rfl, AllP.same _⟩
  refine RelySteps.cons (RelyStep.mk [0] [2, 3, 4, 5, 10] rfl rfl rfl (fun xv wS hS hV bq hb K hK => ?_)) ?_
  ·obtain ⟨h0, _⟩ := hV
   have h0 : xv 0 = _ := h0
   simp only [putsOf, List.foldl_cons, List.foldl_nil, List.getD_cons_zero, List.getD_cons_succ, List.getD_nil, cond_true, cond_false, Act.put, List.setIfInBounds_toArray, List.set_cons_zero, List.set_cons_succ, h0] at hb
   clear h0
   subst hb
   rw [if_pos (by rfl)]
   (have HZ := Lib.hid (HEK.out _ hS); have c9 := (HZ.out.cell 2).trans (show _ = some _ from rfl); have c8 := HZ.out.lt)
   go_wp2_with fail
   exact hK.out _ _ ⟨_, rfl, hS, rfl, AllP.same _⟩
  refine RelySteps.cons (RelyStep.mk [] [0, 1, 4, 5, 6, 7, 10] rfl rfl rfl (fun xv wS hS hV bq hb K hK => ?_)) ?_
  ·clear hV
   simp only [putsOf, List.foldl_cons, List.foldl_nil, List.getD_cons_zero, List.getD_cons_succ, List.getD_nil, cond_true, cond_false, Act.put, List.setIfInBounds_toArray, List.set_cons_zero, List.set_cons_succ] at hb
   subst hb
   rw [if_pos (by rfl)]
   go_wp2_with fail
   exact hK.out _ _ ⟨_, rfl, hS, rfl, AllP.same _⟩
  refine RelySteps.cons (RelyStep.mk [2] [0, 1, 4, 5, 6, 7, 10] rfl rfl rfl (fun xv wS hS hV bq hb K hK => ?_)) ?_
  ·obtain ⟨h2, _⟩ := hV
   have h2 : xv 2 = _ := h2
   simp only [putsOf, List.foldl_cons, List.foldl_nil, List.getD_cons_zero, List.getD_cons_succ, List.getD_nil, cond_true, cond_false, Act.put, List.setIfInBounds_toArray, List.set_cons_zero, List.set_cons_succ, h2] at hb
   clear h2
   subst hb
   rw [if_pos (by rfl)]
   (have HZ := Lib.hid (HEK.out _ hS); have c9 := (HZ.out.cell 3).trans (show _ = some _ from rfl); have c8 := HZ.out.lt)
   go_wp2_with fail
   exact hK.out _ _ ⟨_, rfl, hS, rfl, AllP.same _⟩
  refine RelySteps.cons (RelyStep.mk [] [0, 1, 2, 3, 10] rfl rfl rfl (fun xv wS hS hV bq hb K hK => ?_)) ?_
  ·clear hV
   simp only [putsOf, List.foldl_cons, List.foldl_nil, List.getD_cons_zero, List.getD_cons_succ, List.getD_nil, cond_true, cond_false, Act.put, List.setIfInBounds_toArray, List.set_cons_zero, List.set_cons_succ] at hb
   subst hb
   rw [if_pos (by rfl)]
   go_wp2_with fail
   exact hK.out _ _ ⟨_, rfl, hS, rfl, AllP.same _⟩
  refine RelySteps.cons (RelyStep.mk [4, 10] [0, 1, 2, 3] rfl rfl rfl (fun xv wS hS hV bq hb K hK => ?_)) ?_
  ·obtain ⟨h4, h10, _⟩ := hV
   have h4 : xv 4 = _ := h4
   simp only [putsOf, List.foldl_cons, List.foldl_nil, List.getD_cons_zero, List.getD_cons_succ, List.getD_nil, cond_true, cond_false, Act.put, List.setIfInBounds_toArray, List.set_cons_zero, List.set_cons_succ, h4] at hb
   clear h4
   generalize xv 10 = y10 at *
   subst hb
   rw [if_pos (by rfl)]
   have qq : Lies wS (w.heap.size) 73 (thC y (.slice A' n c')) := h10
   have HSS := Lib.hid hS
   have HQ := Lib.hid qq
   have c9 := qq.cell 1
   simp at c9
   have f9 := qq.free 1
   have c8 := qq.lt
   clear hS qq h10
   go_wp2_with fail
   exact hK.out _ _ ⟨undef, rfl, HSS.out.trans (Kept.put wS (w.heap.size) 1 _) (fun _ _ e => e), (show Lies _ _ _ _ from HQ.out.put 1 (.int .i64 2)), AllP.of _ (fun j hj u h => rgV_low (all_in (fun j => (List.getD ([some (.pointer (some ⟨w.heap.size + 1, 2, none⟩)), some (.int .i64 e.rg), some (.pointer (some ⟨w.heap.size + 1, 3, none⟩)), some (.int .u64 (e.tk : Int)), some (.pointer (some ⟨w.heap.size, 1, none⟩)), none, some (.pointer (some ⟨w.heap.size, 2, none⟩)), none, some (.pointer (some ⟨w.heap.size, 4, none⟩)), none, none] : List (Option Value)) j none).isSome) rfl hj) h)⟩
  refine RelySteps.cons (RelyStep.mk [] [1, 2, 3, 5] rfl rfl rfl (fun xv wS hS hV bq hb K hK => ?_)) ?_
  ·clear hV
   simp only [putsOf, List.foldl_cons, List.foldl_nil, List.getD_cons_zero, List.getD_cons_succ, List.getD_nil, cond_true, cond_false, Act.put, List.setIfInBounds_toArray, List.set_cons_zero, List.set_cons_succ] at hb
   subst hb
   rw [if_pos (by rfl)]
   go_wp2_with fail
   exact hK.out _ _ ⟨_, rfl, hS, rfl, AllP.same _⟩
  refine RelySteps.cons (RelyStep.mk [6, 1, 5] [2, 3] rfl rfl rfl (fun xv wS hS hV bq hb K hK => ?_)) ?_
  ·obtain ⟨h6, h1, h5, _⟩ := hV
   have h6 : xv 6 = _ := h6
   have h1 : xv 1 = _ := h1
   simp only [putsOf, List.foldl_cons, List.foldl_nil, List.getD_cons_zero, List.getD_cons_succ, List.getD_nil, cond_true, cond_false, Act.put, List.setIfInBounds_toArray, List.set_cons_zero, List.set_cons_succ, h6, h1] at hb
   clear h6
   clear h1
   generalize xv 5 = y5 at *
   subst hb
   rw [if_pos (by rfl)]
   have qq : Lies wS (w.heap.size) 73 (thC ({ y with ph := 2 } : Th) (.slice A' n c')) := h5
   have HSS := Lib.hid hS
   have HQ := Lib.hid qq
   have c9 := qq.cell 2
   simp at c9
   have f9 := qq.free 2
   have c8 := qq.lt
   clear hS qq h5
   go_wp2_with fail
   exact hK.out _ _ ⟨undef, rfl, HSS.out.trans (Kept.put wS (w.heap.size) 2 _) (fun _ _ e => e), (show Lies _ _ _ _ from HQ.out.put 2 (.int .i64 e.rg)), AllP.of _ (fun j hj u h => rgV_low (all_in (fun j => (List.getD ([some (.pointer (some ⟨w.heap.size + 1, 2, none⟩)), some (.int .i64 e.rg), some (.pointer (some ⟨w.heap.size + 1, 3, none⟩)), some (.int .u64 (e.tk : Int)), some (.pointer (some ⟨w.heap.size, 1, none⟩)), none, some (.pointer (some ⟨w.heap.size, 2, none⟩)), none, some (.pointer (some ⟨w.heap.size, 4, none⟩)), none, none] : List (Option Value)) j none).isSome) rfl hj) h)⟩
  refine RelySteps.cons (RelyStep.mk [] [3, 7] rfl rfl rfl (fun xv wS hS hV bq hb K hK => ?_)) ?_
  ·clear hV
   simp only [putsOf, List.foldl_cons, List.foldl_nil, List.getD_cons_zero, List.getD_cons_succ, List.getD_nil, cond_true, cond_false, Act.put, List.setIfInBounds_toArray, List.set_cons_zero, List.set_cons_succ] at hb
   subst hb
   rw [if_pos (by rfl)]
   go_wp2_with fail
   exact hK.out _ _ ⟨_, rfl, hS, rfl, AllP.same _⟩
  refine RelySteps.cons (RelyStep.mk [8, 3, 7] [] rfl rfl rfl (fun xv wS hS hV bq hb K hK => ?_)) ?_
  ·obtain ⟨h8, h3, h7, _⟩ := hV
   have h8 : xv 8 = _ := h8
   have h3 : xv 3 = _ := h3
   simp only [putsOf, List.foldl_cons, List.foldl_nil, List.getD_cons_zero, List.getD_cons_succ, List.getD_nil, cond_true, cond_false, Act.put, List.setIfInBounds_toArray, List.set_cons_zero, List.set_cons_succ, h8, h3] at hb
   clear h8
   clear h3
   generalize xv 7 = y7 at *
   subst hb
   rw [if_pos (by rfl)]
   have qq : Lies wS (w.heap.size) 73 (thC ({ y with ph := 2, rg := e.rg } : Th) (.slice A' n c')) := h7
   have HSS := Lib.hid hS
   have HQ := Lib.hid qq
   have c9 := qq.cell 4
   simp at c9
   have f9 := qq.free 4
   have c8 := qq.lt
   clear hS qq h7
   go_wp2_with fail
   exact hK.out _ _ ⟨undef, rfl, HSS.out.trans (Kept.put wS (w.heap.size) 4 _) (fun _ _ e => e), (show Lies _ _ _ _ from HQ.out.put 4 (.int .u64 (e.tk : Int))), AllP.of _ (fun j hj u h => rgV_low (all_in (fun j => (List.getD ([some (.pointer (some ⟨w.heap.size + 1, 2, none⟩)), some (.int .i64 e.rg), some (.pointer (some ⟨w.heap.size + 1, 3, none⟩)), some (.int .u64 (e.tk : Int)), some (.pointer (some ⟨w.heap.size, 1, none⟩)), none, some (.pointer (some ⟨w.heap.size, 2, none⟩)), none, some (.pointer (some ⟨w.heap.size, 4, none⟩)), none, none] : List (Option Value)) j none).isSome) rfl hj) h)⟩
  exact RelySteps.nil
 case rE =>
  intro xv wE hS hV
  have h9 := hV 9 (by decide) (by decide)
  clear hV
  simp only [putsOf, List.foldl_cons, List.foldl_nil, List.getD_cons_zero, List.getD_cons_succ, List.getD_nil, cond_true, cond_false, Act.put, List.setIfInBounds_toArray, List.set_cons_zero, List.set_cons_succ]
  generalize xv 0 = y0 at *
  generalize xv 1 = y1 at *
  generalize xv 2 = y2 at *
  generalize xv 3 = y3 at *
  generalize xv 4 = y4 at *
  generalize xv 5 = y5 at *
  generalize xv 6 = y6 at *
  generalize xv 7 = y7 at *
  generalize xv 8 = y8 at *
  generalize xv 9 = y9 at *
  replace H4 := Lib.hid (H4.out.kept hS (fun (e : w.heap.size + 1 + 1 = w.heap.size) => by omega))
  replace HO := Lib.hid (owns_kept HO.out hS (fun r cur hr hl (e : r = w.heap.size) => by subst e; exact absurd (hl.same HG.out).1 (by decide)))
  replace HB := Lib.hid (HB.out.trans (hS.below HB.out.size (fun k hk (e : k = w.heap.size) => by omega)))
  replace HG : Hid (Lies wE (w.heap.size) 73 (thC ({ y with ph := 2, rg := e.rg, tk := e.tk } : Th) (.slice A' n c'))) := h9
  clear hS h9 HEK HE HIV HCD HOK
  have HBE : Hid (behT (atT l y) y e v = ({ y with ph := 2, rg := e.rg, tk := e.tk } : Th)) := by show _ = _; unfold behT; rw [HKD.out]; simp
  replace HO : Hid (World.ownsRow wE w.heap.size 37 1 (.slice A' n c') n (cells64 (({ y with ph := 2, rg := e.rg, tk := e.tk } : Th)).sn)) := HO
  have HZN : Hid ((({ y with ph := 2, rg := e.rg, tk := e.tk } : Th)).sn.length = n) := HNE
  have c0 := (HG.out.cell 0).trans (show _ = some (Value.int .i64 ({ y with ph := 2, rg := e.rg, tk := e.tk } : Th).at_) from rfl)
  have c1 := (HG.out.cell 1).trans (show _ = some (Value.int .i64 ({ y with ph := 2, rg := e.rg, tk := e.tk } : Th).ph) from rfl)
  have c2 := (HG.out.cell 2).trans (show _ = some (Value.int .i64 ({ y with ph := 2, rg := e.rg, tk := e.tk } : Th).rg) from rfl)
  have c3 := (HG.out.cell 3).trans (show _ = some (Value.int .i64 ({ y with ph := 2, rg := e.rg, tk := e.tk } : Th).st) from rfl)
  have c4 := (HG.out.cell 4).trans (show _ = some (Value.int .u64 (({ y with ph := 2, rg := e.rg, tk := e.tk } : Th).tk : Int)) from rfl)
  have c5 := (HG.out.cell 5).trans (show _ = some (Value.int .u64 (({ y with ph := 2, rg := e.rg, tk := e.tk } : Th).r 0 : Int)) from rfl)
  have c6 := (HG.out.cell 6).trans (show _ = some (Value.int .u64 (({ y with ph := 2, rg := e.rg, tk := e.tk } : Th).r 1 : Int)) from rfl)
  have c7 := (HG.out.cell 7).trans (show _ = some (Value.int .u64 (({ y with ph := 2, rg := e.rg, tk := e.tk } : Th).r 2 : Int)) from rfl)
  have c8 := (HG.out.cell 8).trans (show _ = some (Value.int .u64 (({ y with ph := 2, rg := e.rg, tk := e.tk } : Th).r 3 : Int)) from rfl)
  have c9 := (HG.out.cell 9).trans (show _ = some (Value.int .u64 (({ y with ph := 2, rg := e.rg, tk := e.tk } : Th).r 4 : Int)) from rfl)
  have c10 := (HG.out.cell 10).trans (show _ = some (Value.int .u64 (({ y with ph := 2, rg := e.rg, tk := e.tk } : Th).r 5 : Int)) from rfl)
  have c11 := (HG.out.cell 11).trans (show _ = some (Value.int .u64 (({ y with ph := 2, rg := e.rg, tk := e.tk } : Th).r 6 : Int)) from rfl)
  have c12 := (HG.out.cell 12).trans (show _ = some (Value.int .u64 (({ y with ph := 2, rg := e.rg, tk := e.tk } : Th).r 7 : Int)) from rfl)
  have c13 := (HG.out.cell 13).trans (show _ = some ((.slice A' n c')) from rfl)
  have cl := HG.out.lt
  go_wp2_with (
   refine wpList_store_row rfl 73 _ _ rfl (w.heap.size + 1 + 1) (thC ({ y with ph := 2, rg := e.rg, tk := e.tk } : Th) (.slice A' n c')) rfl rfl 73 thZ H4.out infoTh rfl (thC_one _ rfl) ?_
   clear c0 c1 c2 c3 c4 c5 c6 c7 c8 c9 c10 c11 c12 c13 cl
   have hk9 := kept_rowT (w := wE) (g := w.heap.size + 1 + 1) (thC ({ y with ph := 2, rg := e.rg, tk := e.tk } : Th) (.slice A' n c'))
   have HBZ := Lib.hid (HB.out.trans (hk9.below HB.out.size (fun k hk (e : k = w.heap.size + 1 + 1) => by omega)))
   have Q4 := Lib.hid (lies_row H4.out (thC ({ y with ph := 2, rg := e.rg, tk := e.tk } : Th) (.slice A' n c')))
   have HOZ := Lib.hid (owns_kept HO.out hk9 (fun r cur hr hl (e : r = w.heap.size + 1 + 1) => by subst e; exact absurd (hl.same H4.out).1 (by decide)))
   clear hk9
   generalize wE.setRow (w.heap.size + 1 + 1) (thC ({ y with ph := 2, rg := e.rg, tk := e.tk } : Th) (.slice A' n c')) = wF at *
   clear HB H4 HG HO
   generalize hz9 : ({ y with ph := 2, rg := e.rg, tk := e.tk } : Th) = Z9 at *
   have z0 := (Q4.out.cell 0).trans (show _ = some (Value.int .i64 Z9.at_) from rfl)
   have z1 := (Q4.out.cell 1).trans (show _ = some (Value.int .i64 Z9.ph) from rfl)
   have z2 := (Q4.out.cell 2).trans (show _ = some (Value.int .i64 Z9.rg) from rfl)
   have z3 := (Q4.out.cell 3).trans (show _ = some (Value.int .i64 Z9.st) from rfl)
   have z4 := (Q4.out.cell 4).trans (show _ = some (Value.int .u64 (Z9.tk : Int)) from rfl)
   have z5 := (Q4.out.cell 5).trans (show _ = some (Value.int .u64 (Z9.r 0 : Int)) from rfl)
   have z6 := (Q4.out.cell 6).trans (show _ = some (Value.int .u64 (Z9.r 1 : Int)) from rfl)
   have z7 := (Q4.out.cell 7).trans (show _ = some (Value.int .u64 (Z9.r 2 : Int)) from rfl)
   have z8 := (Q4.out.cell 8).trans (show _ = some (Value.int .u64 (Z9.r 3 : Int)) from rfl)
   have z9 := (Q4.out.cell 9).trans (show _ = some (Value.int .u64 (Z9.r 4 : Int)) from rfl)
   have z10 := (Q4.out.cell 10).trans (show _ = some (Value.int .u64 (Z9.r 5 : Int)) from rfl)
   have z11 := (Q4.out.cell 11).trans (show _ = some (Value.int .u64 (Z9.r 6 : Int)) from rfl)
   have z12 := (Q4.out.cell 12).trans (show _ = some (Value.int .u64 (Z9.r 7 : Int)) from rfl)
   have z13 := (Q4.out.cell 13).trans (show _ = some ((.slice A' n c')) from rfl)
   have zl := Q4.out.lt
   go_wp2
   exact bodyPost_ret (v := .tuple #[.agg (thC Z9 (.slice A' n c')), .int .i64 0]) (by simp [results, Tryz.results73, go_sem, z0, z1, z2, z3, z4, z5, z6, z7, z8, z9, z10, z11, z12, z13]) rfl ⟨_, _, by rw [HYE.out, HBE.out, HZN.out], by rw [HYE.out, HBE.out, HZN.out]; exact HOZ.out, HBZ.out⟩)
set_option maxHeartbeats 8000000 in
set_option maxRecDepth 100000 in
theorem do16k12 (l : List In) (A : Option Addr) (c : Nat) (x : Th) (S : Option Addr) (cs : Nat) (e : Ev) (v : Nat) (w : World) (h : InsAt w A c l) (hok : ∀ i ∈ l, inOk i) (hx : thOk x) (hs : SeqS w 1 (.slice S x.sn.length cs) x.sn.length (cells64 x.sn)) (hl : x.sn.length ≤ 1000000) (hr : thB l x = true) (hre : rightE e = true) (hf : fitB (reqA l (nxT l x)) e = true) (hk : e.kd = 12) :
  Calls Tryz.prog 73 #[.slice A l.length c, .agg (thC x (.slice S x.sn.length cs)), .agg (evC e), .int .u64 (v : Int)] w fun q w' => ∃ A' c', q = .returned (.tuple #[.agg (thC (behT (atT l (nxT l x)) (nxT l x) e v) (.slice A' (behT (atT l (nxT l x)) (nxT l x) e v).sn.length c')), .int .i64 0]) ∧ w'.ownsRow w.heap.size 37 1 (.slice A' (behT (atT l (nxT l x)) (nxT l x) e v).sn.length c') (behT (atT l (nxT l x)) (nxT l x) e v).sn.length (cells64 (behT (atT l (nxT l x)) (nxT l x) e v).sn) ∧ Below w.heap.size w w' := by
 obtain ⟨hc1, hc2⟩ := seq_form h
 have hb3 : Below w.heap.size w (((w.alloc (.cells (thC x (.slice S x.sn.length cs)) 73)).alloc (.cells (evC e) 43)).alloc (.cells thZ 73)) := (((Below.refl _ _).alloc (Nat.le_refl _) _).alloc (by simp) _).alloc (by simp; omega) _
 have l1 := ((Lies.made w 73 (thC x (.slice S x.sn.length cs))).alloc (.cells (evC e) 43)).alloc (.cells thZ 73)
 have l2 := (Lies.made (w.alloc (.cells (thC x (.slice S x.sn.length cs)) 73)) 43 (evC e)).alloc (.cells thZ 73)
 have l3 := Lies.made ((w.alloc (.cells (thC x (.slice S x.sn.length cs)) 73)).alloc (.cells (evC e) 43)) 73 thZ
 rw [show (w.alloc (.cells (thC x (.slice S x.sn.length cs)) 73)).heap.size = w.heap.size + 1 by simp] at l2
 rw [show ((w.alloc (.cells (thC x (.slice S x.sn.length cs)) 73)).alloc (.cells (evC e) 43)).heap.size = w.heap.size + 1 + 1 by simp] at l3
 have HB := Lib.hid hb3
 have HG := Lib.hid l1
 have HE := Lib.hid l2
 have H4 := Lib.hid l3
 have HH := Lib.hid (fun (q : World) (hq : Below w.heap.size w q) => h.later hq)
 clear hb3 l1 l2 l3
 have hnf := nxT_facts hr hx hok
 have HNX := Lib.hid (fun q hq hs => next16 l A c x S cs q hq hok hx hs hl hr)
 have HSQ := Lib.hid (fun (q : World) (hq : Below w.heap.size w q) => hs.later hq)
 have HRI := Lib.hid (fun q => right15 e q)
 rw [hre] at HRI
 have HMT := Lib.hid (fun q => matches16 (reqA l (nxT l x)) e q)
 rw [hf] at HMT
 have HKD := Lib.hid hk
 clear hk
 have HF := Lib.hid hf
 clear hre hf
 obtain ⟨n, hn⟩ : ∃ n, x.sn.length = n := ⟨_, rfl⟩
 have HNE : Hid ((nxT l x).sn.length = n) := by show _ = _; rw [hnf.2.2, hn]
 have HSE : Hid (cells64 x.sn = cells64 (nxT l x).sn) := by show _ = _; rw [hnf.2.2]
 have HIV := Lib.hid hnf.1
 have HCD := Lib.hid (thB_parts hr).1
 have hlen := (codeB_parts HCD.out).1
 have HOK := Lib.hid hok
 have hn6 : n ≤ 1000000 := by omega
 have HNN := Lib.hid hn
 clear h hs hl hr hx hok hnf hn
 go_enter Tryz.func73, Tryz.ntmps73
 go_upto_region 1 with (fail)
 generalize (((w.alloc (.cells (thC x (.slice S x.sn.length cs)) 73)).alloc (.cells (evC e) 43)).alloc (.cells thZ 73)) = w1 at *
 have c0 := (HG.out.cell 0).trans (show _ = some (Value.int .i64 x.at_) from rfl)
 have c1 := (HG.out.cell 1).trans (show _ = some (Value.int .i64 x.ph) from rfl)
 have c2 := (HG.out.cell 2).trans (show _ = some (Value.int .i64 x.rg) from rfl)
 have c3 := (HG.out.cell 3).trans (show _ = some (Value.int .i64 x.st) from rfl)
 have c4 := (HG.out.cell 4).trans (show _ = some (Value.int .u64 (x.tk : Int)) from rfl)
 have c5 := (HG.out.cell 5).trans (show _ = some (Value.int .u64 (x.r 0 : Int)) from rfl)
 have c6 := (HG.out.cell 6).trans (show _ = some (Value.int .u64 (x.r 1 : Int)) from rfl)
 have c7 := (HG.out.cell 7).trans (show _ = some (Value.int .u64 (x.r 2 : Int)) from rfl)
 have c8 := (HG.out.cell 8).trans (show _ = some (Value.int .u64 (x.r 3 : Int)) from rfl)
 have c9 := (HG.out.cell 9).trans (show _ = some (Value.int .u64 (x.r 4 : Int)) from rfl)
 have c10 := (HG.out.cell 10).trans (show _ = some (Value.int .u64 (x.r 5 : Int)) from rfl)
 have c11 := (HG.out.cell 11).trans (show _ = some (Value.int .u64 (x.r 6 : Int)) from rfl)
 have c12 := (HG.out.cell 12).trans (show _ = some (Value.int .u64 (x.r 7 : Int)) from rfl)
 have c13 := (HG.out.cell 13).trans (show _ = some ((.slice S x.sn.length cs)) from rfl)
 have cl := HG.out.lt
 go_wp2_with fail
 refine (HNX.out _ (HH.out _ HB.out) (HSQ.out _ HB.out)).mono ?_
 rintro e1 w2 ⟨A', c', rfl, ho, hbm⟩
 have HN2 : Hid (w.heap.size + 1 + 1 < w2.heap.size) := Nat.lt_of_lt_of_le H4.out.lt hbm.size
 have HO0 := owns_mono ho HB.out.size
 rw [HSE.out] at HO0
 rw [HNN.out] at HO0 ⊢
 have HO := Lib.hid HO0
 replace HG := Lib.hid (HG.out.below hbm HG.out.lt)
 replace HE := Lib.hid (HE.out.below hbm HE.out.lt)
 replace H4 := Lib.hid (H4.out.below hbm H4.out.lt)
 replace HB := Lib.hid (HB.out.trans (hbm.mono HB.out.size))
 clear hbm HNX HSQ ho HO0 HSE
 generalize hyy : nxT l x = y at *
 have HYE := Lib.hid hyy
 clear hyy
 have HMT2 := HMT
 clear HMT
 clear c0 c1 c2 c3 c4 c5 c6 c7 c8 c9 c10 c11 c12 c13 cl
 have hba := (Below.refl w2.heap.size w2).alloc (Nat.le_refl _) (.cells akZ 63)
 have H5 := Lib.hid (Lies.made w2 63 akZ)
 replace HG := Lib.hid (HG.out.below hba HG.out.lt)
 replace HE := Lib.hid (HE.out.below hba HE.out.lt)
 replace H4 := Lib.hid (H4.out.below hba H4.out.lt)
 replace HB := Lib.hid (HB.out.trans (hba.mono HB.out.size))
 replace HO := Lib.hid (owned_below HO.out hba)
 have hn5 : w.heap.size + 1 + 1 < w2.heap.size := HN2.out
 clear hba HN2
 generalize hw3 : w2.alloc (.cells akZ 63) = w3 at *
 generalize hn5e : w2.heap.size = n5 at *
 have hk4 := kept_rowT (w := w3) (g := w.heap.size) (thC y (.slice A' n c'))
 have HO2 := Lib.hid (owns_kept HO.out hk4 (fun r cur hr hl (e : r = w.heap.size) => by subst e; exact absurd (hl.same HG.out).1 (by decide)))
 have HG2 := Lib.hid (lies_row HG.out (thC y (.slice A' n c')))
 have HE2 := Lib.hid (HE.out.kept hk4 (fun (e : w.heap.size + 1 = w.heap.size) => by omega))
 have H42 := Lib.hid (H4.out.kept hk4 (fun (e : w.heap.size + 1 + 1 = w.heap.size) => by omega))
 have H5B := Lib.hid (H5.out.kept hk4 (fun (e : n5 = w.heap.size) => by omega))
 have HB2 := Lib.hid (HB.out.trans (hk4.below HB.out.size (fun k hk (e : k = w.heap.size) => by omega)))
 clear hk4
 go_upto_region 2 with (first | refine wpList_store_row rfl 73 _ _ rfl (w.heap.size) (thC y (.slice A' n c')) rfl rfl 73 (thC x (.slice S x.sn.length cs)) HG.out infoTh rfl (thC_one _ rfl) ?_ | refine wpList_store_row rfl 63 _ _ rfl n5 (akC (reqA l y)) rfl rfl 63 akZ H5B.out infoAk rfl (akC_one _) ?_)
 clear HG HE H4 H5 HB HO
 generalize w3.setRow (w.heap.size) (thC y (.slice A' n c')) = w4 at *
 have hk5 := kept_rowT (w := w4) (g := n5) (akC (reqA l y))
 have HO := Lib.hid (owns_kept HO2.out hk5 (fun r cur hr hl (e : r = n5) => by subst e; exact absurd (hl.same H5B.out).1 (by decide)))
 clear HO2
 have HG := Lib.hid (HG2.out.kept hk5 (fun (e : w.heap.size = n5) => by omega))
 have HE := Lib.hid (HE2.out.kept hk5 (fun (e : w.heap.size + 1 = n5) => by omega))
 have H4 := Lib.hid (H42.out.kept hk5 (fun (e : w.heap.size + 1 + 1 = n5) => by omega))
 have H5 := Lib.hid (lies_row H5B.out (akC (reqA l y)))
 have HB := Lib.hid (HB2.out.trans (hk5.below HB2.out.size (fun k hk (e : k = n5) => by omega)))
 clear hk5 HG2 HE2 H42 H5B HB2
 generalize w4.setRow n5 (akC (reqA l y)) = wq at *
 have q0 := (HE.out.cell 0).trans (show _ = some (Value.int .i64 e.th) from rfl)
 have q1 := (HE.out.cell 1).trans (show _ = some (Value.int .i64 e.kd) from rfl)
 have q2 := (HE.out.cell 2).trans (show _ = some (Value.int .i64 e.rg) from rfl)
 have q3 := (HE.out.cell 3).trans (show _ = some (Value.int .u64 (e.tk : Int)) from rfl)
 have q4 := (HE.out.cell 4).trans (show _ = some (Value.int .u64 (e.vl : Int)) from rfl)
 have ql := HE.out.lt
 go_wp2_with fail
 refine (HRI.out _).mono ?_
 rintro e1 w5 ⟨rfl, hbm⟩
 clear q0 q1 q2 q3 q4 ql
 replace H5 := Lib.hid (H5.out.below hbm H5.out.lt)
 replace HO := Lib.hid (owned_below HO.out hbm)
 replace HG := Lib.hid (HG.out.below hbm HG.out.lt)
 replace HE := Lib.hid (HE.out.below hbm HE.out.lt)
 replace H4 := Lib.hid (H4.out.below hbm H4.out.lt)
 replace HB := Lib.hid (HB.out.trans (hbm.mono HB.out.size))
 clear hbm HRI
 clear wq
 have q0 := (HE.out.cell 0).trans (show _ = some (Value.int .i64 e.th) from rfl)
 have q1 := (HE.out.cell 1).trans (show _ = some (Value.int .i64 e.kd) from rfl)
 have q2 := (HE.out.cell 2).trans (show _ = some (Value.int .i64 e.rg) from rfl)
 have q3 := (HE.out.cell 3).trans (show _ = some (Value.int .u64 (e.tk : Int)) from rfl)
 have q4 := (HE.out.cell 4).trans (show _ = some (Value.int .u64 (e.vl : Int)) from rfl)
 have ql := HE.out.lt
 have k0 := (H5.out.cell 0).trans (show _ = some (.int .i64 (reqA l y).kd) from rfl)
 have k1 := (H5.out.cell 1).trans (show _ = some (.int .i64 (reqA l y).rg) from rfl)
 have k2 := (H5.out.cell 2).trans (show _ = some (.int .i64 (reqA l y).md) from rfl)
 have k3 := (H5.out.cell 3).trans (show _ = some (.int .i64 (reqA l y).rd) from rfl)
 have k4 := (H5.out.cell 4).trans (show _ = some (.int .u64 ((reqA l y).tk : Int)) from rfl)
 have k5 := (H5.out.cell 5).trans (show _ = some (.int .u64 ((reqA l y).vl : Int)) from rfl)
 have kl := H5.out.lt
 go_wp2_with fail
 refine (HMT2.out _).mono ?_
 rintro e1 wq ⟨rfl, hbm⟩
 clear q0 q1 q2 q3 q4 ql
 clear k0 k1 k2 k3 k4 k5 kl
 replace HO := Lib.hid (owned_below HO.out hbm)
 replace HG := Lib.hid (HG.out.below hbm HG.out.lt)
 replace HE := Lib.hid (HE.out.below hbm HE.out.lt)
 replace H4 := Lib.hid (H4.out.below hbm H4.out.lt)
 replace HB := Lib.hid (HB.out.trans (hbm.mono HB.out.size))
 clear hbm HMT2 H5 w5
 have hmt := HF.out
 obtain ⟨hys, hat⟩ := fit_at hmt (by rw [HKD.out]; decide)
 obtain ⟨an, han⟩ : ∃ n : Nat, y.at_ = n := ⟨y.at_.toNat, by have := HIV.out.1; omega⟩
 have han2 : (an : Int) < (l.length : Int) := by have := HIV.out.2.1; omega
 obtain ⟨i, hi⟩ : ∃ i, l[an]? = some i := ⟨_, List.getElem?_eq_getElem (by omega)⟩
 have hgt := atT_get han hi
 have HR := ((codeB_parts HCD.out).2 i (List.mem_of_getElem? hi)).1
 have hih := HH.out _ HB.out
 obtain ⟨b, off, rfl, hbl, hg⟩ := InsAt.at_ hih hi
 have HGI := Lib.hid (fun (q : World) (hq : Below wq.heap.size wq q) (j : Nat) (u : Value) (hj : j < 6) (hu : (inF i)[j]? = some u) => cell_later (hg j u hj hu) hq)
 have hal : (an : Int) < (l.length : Int) := han2
 have HAN := Lib.hid han
 have hab := right_ab HR
 have hy256 : y.at_ ≤ 256 := by omega
 have hy0 : 0 ≤ y.at_ := by omega
 have HFN := Lib.hid (fun q hl ho hb => fin12 i y e v A' c' (w.heap.size) (w.heap.size) q hl ho (by rw [HNE.out]; exact hn6) hy0 hy256 HKD.out (Nat.le_refl _) hb)
 rw [HNE.out] at HFN
 have hKx := HKD.out
 have j1 : (e.kd == 1) = false := by rw [beq_eq_false_iff_ne]; omega
 have j3 : (e.kd == 3) = false := by rw [beq_eq_false_iff_ne]; omega
 have j14 : (e.kd == 14) = false := by rw [beq_eq_false_iff_ne]; omega
 have j15 : (e.kd == 15) = false := by rw [beq_eq_false_iff_ne]; omega
 clear hKx
 have HBE : Hid (behT (atT l y) y e v = (endT (seeT y e.vl))) := by show _ = _; rw [hgt]; unfold behT; rw [HKD.out]; simp
 clear hmt hys hat hi hgt HR hih hbl hg hab hy256 hy0 han HF HIV HCD HOK
 have q0 := (HE.out.cell 0).trans (show _ = some (Value.int .i64 e.th) from rfl)
 have q1 := (HE.out.cell 1).trans (show _ = some (Value.int .i64 e.kd) from rfl)
 have q2 := (HE.out.cell 2).trans (show _ = some (Value.int .i64 e.rg) from rfl)
 have q3 := (HE.out.cell 3).trans (show _ = some (Value.int .u64 (e.tk : Int)) from rfl)
 have q4 := (HE.out.cell 4).trans (show _ = some (Value.int .u64 (e.vl : Int)) from rfl)
 have ql := HE.out.lt
 have g0 := HGI.out wq (Below.refl _ _) 0 _ (by decide) rfl
 have g1 := HGI.out wq (Below.refl _ _) 1 _ (by decide) rfl
 have g2 := HGI.out wq (Below.refl _ _) 2 _ (by decide) rfl
 have g3 := HGI.out wq (Below.refl _ _) 3 _ (by decide) rfl
 have g4 := HGI.out wq (Below.refl _ _) 4 _ (by decide) rfl
 have g5 := HGI.out wq (Below.refl _ _) 5 _ (by decide) rfl
 rw [Nat.add_zero] at g0
 have c0 := (HG.out.cell 0).trans (show _ = some (Value.int .i64 y.at_) from rfl)
 rw [HAN.out] at c0
 have cl := HG.out.lt
 go_wp2_with fail
 go_still_tail 7, (by kernel_rfl)
 clear q0 q1 q2 q3 q4 ql
 clear g0 g1 g2 g3 g4 g5 c0 cl
 clear j1 j3 j14 j15
 replace HG := Lib.hid HG.out.drew
 replace H4 := Lib.hid H4.out.drew
 replace HO := Lib.hid (owns_drew HO.out)
 replace HB := Lib.hid HB.out.drew
 generalize hw9 : wq.drew = w9 at *
 go_wp2_with fail
 refine (HFN.out _ HG.out HO.out HB.out.size).mono ?_
 rintro e1 wE ⟨rfl, A2, k2, hl2, ho2, hb2, hk2⟩
 replace H4 := Lib.hid (H4.out.kept hk2 (fun e => by
  rcases e with e | e
  ·omega
  ·exact own_ne HO.out H4.out (by decide) e))
 replace HB := Lib.hid (HB.out.trans hb2)
 replace HG := Lib.hid hl2
 replace HO := Lib.hid ho2
 clear hl2 ho2 hb2 hk2 HE HGI HFN
 replace HO : Hid (World.ownsRow wE w.heap.size 37 1 (.slice A2 (n + 1) k2) (n + 1) (cells64 ((endT (seeT y e.vl))).sn)) := HO
 have HZN : Hid (((endT (seeT y e.vl))).sn.length = (n + 1)) := by show (y.sn ++ [e.vl]).length = _; rw [List.length_append, HNE.out]; rfl
 have c0 := (HG.out.cell 0).trans (show _ = some (Value.int .i64 (endT (seeT y e.vl)).at_) from rfl)
 have c1 := (HG.out.cell 1).trans (show _ = some (Value.int .i64 (endT (seeT y e.vl)).ph) from rfl)
 have c2 := (HG.out.cell 2).trans (show _ = some (Value.int .i64 (endT (seeT y e.vl)).rg) from rfl)
 have c3 := (HG.out.cell 3).trans (show _ = some (Value.int .i64 (endT (seeT y e.vl)).st) from rfl)
 have c4 := (HG.out.cell 4).trans (show _ = some (Value.int .u64 ((endT (seeT y e.vl)).tk : Int)) from rfl)
 have c5 := (HG.out.cell 5).trans (show _ = some (Value.int .u64 ((endT (seeT y e.vl)).r 0 : Int)) from rfl)
 have c6 := (HG.out.cell 6).trans (show _ = some (Value.int .u64 ((endT (seeT y e.vl)).r 1 : Int)) from rfl)
 have c7 := (HG.out.cell 7).trans (show _ = some (Value.int .u64 ((endT (seeT y e.vl)).r 2 : Int)) from rfl)
 have c8 := (HG.out.cell 8).trans (show _ = some (Value.int .u64 ((endT (seeT y e.vl)).r 3 : Int)) from rfl)
 have c9 := (HG.out.cell 9).trans (show _ = some (Value.int .u64 ((endT (seeT y e.vl)).r 4 : Int)) from rfl)
 have c10 := (HG.out.cell 10).trans (show _ = some (Value.int .u64 ((endT (seeT y e.vl)).r 5 : Int)) from rfl)
 have c11 := (HG.out.cell 11).trans (show _ = some (Value.int .u64 ((endT (seeT y e.vl)).r 6 : Int)) from rfl)
 have c12 := (HG.out.cell 12).trans (show _ = some (Value.int .u64 ((endT (seeT y e.vl)).r 7 : Int)) from rfl)
 have c13 := (HG.out.cell 13).trans (show _ = some ((.slice A2 (n + 1) k2)) from rfl)
 have cl := HG.out.lt
 go_wp2_with (
  refine wpList_store_row rfl 73 _ _ rfl (w.heap.size + 1 + 1) (thC (endT (seeT y e.vl)) (.slice A2 (n + 1) k2)) rfl rfl 73 thZ H4.out infoTh rfl (thC_one _ rfl) ?_
  clear c0 c1 c2 c3 c4 c5 c6 c7 c8 c9 c10 c11 c12 c13 cl
  have hk9 := kept_rowT (w := wE) (g := w.heap.size + 1 + 1) (thC (endT (seeT y e.vl)) (.slice A2 (n + 1) k2))
  have HBZ := Lib.hid (HB.out.trans (hk9.below HB.out.size (fun k hk (e : k = w.heap.size + 1 + 1) => by omega)))
  have Q4 := Lib.hid (lies_row H4.out (thC (endT (seeT y e.vl)) (.slice A2 (n + 1) k2)))
  have HOZ := Lib.hid (owns_kept HO.out hk9 (fun r cur hr hl (e : r = w.heap.size + 1 + 1) => by subst e; exact absurd (hl.same H4.out).1 (by decide)))
  clear hk9
  generalize wE.setRow (w.heap.size + 1 + 1) (thC (endT (seeT y e.vl)) (.slice A2 (n + 1) k2)) = wF at *
  clear HB H4 HG HO
  generalize hz9 : (endT (seeT y e.vl)) = Z9 at *
  have z0 := (Q4.out.cell 0).trans (show _ = some (Value.int .i64 Z9.at_) from rfl)
  have z1 := (Q4.out.cell 1).trans (show _ = some (Value.int .i64 Z9.ph) from rfl)
  have z2 := (Q4.out.cell 2).trans (show _ = some (Value.int .i64 Z9.rg) from rfl)
  have z3 := (Q4.out.cell 3).trans (show _ = some (Value.int .i64 Z9.st) from rfl)
  have z4 := (Q4.out.cell 4).trans (show _ = some (Value.int .u64 (Z9.tk : Int)) from rfl)
  have z5 := (Q4.out.cell 5).trans (show _ = some (Value.int .u64 (Z9.r 0 : Int)) from rfl)
  have z6 := (Q4.out.cell 6).trans (show _ = some (Value.int .u64 (Z9.r 1 : Int)) from rfl)
  have z7 := (Q4.out.cell 7).trans (show _ = some (Value.int .u64 (Z9.r 2 : Int)) from rfl)
  have z8 := (Q4.out.cell 8).trans (show _ = some (Value.int .u64 (Z9.r 3 : Int)) from rfl)
  have z9 := (Q4.out.cell 9).trans (show _ = some (Value.int .u64 (Z9.r 4 : Int)) from rfl)
  have z10 := (Q4.out.cell 10).trans (show _ = some (Value.int .u64 (Z9.r 5 : Int)) from rfl)
  have z11 := (Q4.out.cell 11).trans (show _ = some (Value.int .u64 (Z9.r 6 : Int)) from rfl)
  have z12 := (Q4.out.cell 12).trans (show _ = some (Value.int .u64 (Z9.r 7 : Int)) from rfl)
  have z13 := (Q4.out.cell 13).trans (show _ = some ((.slice A2 (n + 1) k2)) from rfl)
  have zl := Q4.out.lt
  go_wp2
  exact bodyPost_ret (v := .tuple #[.agg (thC Z9 (.slice A2 (n + 1) k2)), .int .i64 0]) (by simp [results, Tryz.results73, go_sem, z0, z1, z2, z3, z4, z5, z6, z7, z8, z9, z10, z11, z12, z13]) rfl ⟨_, _, by rw [HYE.out, HBE.out, HZN.out], by rw [HYE.out, HBE.out, HZN.out]; exact HOZ.out, HBZ.out⟩)
set_option maxHeartbeats 8000000 in
set_option maxRecDepth 100000 in
theorem do16kF (l : List In) (A : Option Addr) (c : Nat) (x : Th) (S : Option Addr) (cs : Nat) (e : Ev) (v : Nat) (w : World) (h : InsAt w A c l) (hok : ∀ i ∈ l, inOk i) (hx : thOk x) (hs : SeqS w 1 (.slice S x.sn.length cs) x.sn.length (cells64 x.sn)) (hl : x.sn.length ≤ 1000000) (hr : thB l x = true) (hre : rightE e = true) (hf : fitB (reqA l (nxT l x)) e = true) (hk : e.kd ≠ 1 ∧ e.kd ≠ 3 ∧ e.kd ≠ 14 ∧ e.kd ≠ 15 ∧ e.kd ≠ 12) (hkk : 1 ≤ e.kd ∧ e.kd ≤ 15) :
  Calls Tryz.prog 73 #[.slice A l.length c, .agg (thC x (.slice S x.sn.length cs)), .agg (evC e), .int .u64 (v : Int)] w fun q w' => ∃ A' c', q = .returned (.tuple #[.agg (thC (behT (atT l (nxT l x)) (nxT l x) e v) (.slice A' (behT (atT l (nxT l x)) (nxT l x) e v).sn.length c')), .int .i64 0]) ∧ w'.ownsRow w.heap.size 37 1 (.slice A' (behT (atT l (nxT l x)) (nxT l x) e v).sn.length c') (behT (atT l (nxT l x)) (nxT l x) e v).sn.length (cells64 (behT (atT l (nxT l x)) (nxT l x) e v).sn) ∧ Below w.heap.size w w' := by
 obtain ⟨hc1, hc2⟩ := seq_form h
 have hb3 : Below w.heap.size w (((w.alloc (.cells (thC x (.slice S x.sn.length cs)) 73)).alloc (.cells (evC e) 43)).alloc (.cells thZ 73)) := (((Below.refl _ _).alloc (Nat.le_refl _) _).alloc (by simp) _).alloc (by simp; omega) _
 have l1 := ((Lies.made w 73 (thC x (.slice S x.sn.length cs))).alloc (.cells (evC e) 43)).alloc (.cells thZ 73)
 have l2 := (Lies.made (w.alloc (.cells (thC x (.slice S x.sn.length cs)) 73)) 43 (evC e)).alloc (.cells thZ 73)
 have l3 := Lies.made ((w.alloc (.cells (thC x (.slice S x.sn.length cs)) 73)).alloc (.cells (evC e) 43)) 73 thZ
 rw [show (w.alloc (.cells (thC x (.slice S x.sn.length cs)) 73)).heap.size = w.heap.size + 1 by simp] at l2
 rw [show ((w.alloc (.cells (thC x (.slice S x.sn.length cs)) 73)).alloc (.cells (evC e) 43)).heap.size = w.heap.size + 1 + 1 by simp] at l3
 have HB := Lib.hid hb3
 have HG := Lib.hid l1
 have HE := Lib.hid l2
 have H4 := Lib.hid l3
 have HH := Lib.hid (fun (q : World) (hq : Below w.heap.size w q) => h.later hq)
 clear hb3 l1 l2 l3
 have hnf := nxT_facts hr hx hok
 have HNX := Lib.hid (fun q hq hs => next16 l A c x S cs q hq hok hx hs hl hr)
 have HSQ := Lib.hid (fun (q : World) (hq : Below w.heap.size w q) => hs.later hq)
 have HRI := Lib.hid (fun q => right15 e q)
 rw [hre] at HRI
 have HMT := Lib.hid (fun q => matches16 (reqA l (nxT l x)) e q)
 rw [hf] at HMT
 have HKD := Lib.hid hk
 clear hk
 have HKR := Lib.hid hkk
 clear hkk
 have HF := Lib.hid hf
 clear hre hf
 obtain ⟨n, hn⟩ : ∃ n, x.sn.length = n := ⟨_, rfl⟩
 have HNE : Hid ((nxT l x).sn.length = n) := by show _ = _; rw [hnf.2.2, hn]
 have HSE : Hid (cells64 x.sn = cells64 (nxT l x).sn) := by show _ = _; rw [hnf.2.2]
 have HIV := Lib.hid hnf.1
 have HCD := Lib.hid (thB_parts hr).1
 have hlen := (codeB_parts HCD.out).1
 have HOK := Lib.hid hok
 have hn6 : n ≤ 1000000 := by omega
 have HNN := Lib.hid hn
 clear h hs hl hr hx hok hnf hn
 go_enter Tryz.func73, Tryz.ntmps73
 go_upto_region 1 with (fail)
 generalize (((w.alloc (.cells (thC x (.slice S x.sn.length cs)) 73)).alloc (.cells (evC e) 43)).alloc (.cells thZ 73)) = w1 at *
 have c0 := (HG.out.cell 0).trans (show _ = some (Value.int .i64 x.at_) from rfl)
 have c1 := (HG.out.cell 1).trans (show _ = some (Value.int .i64 x.ph) from rfl)
 have c2 := (HG.out.cell 2).trans (show _ = some (Value.int .i64 x.rg) from rfl)
 have c3 := (HG.out.cell 3).trans (show _ = some (Value.int .i64 x.st) from rfl)
 have c4 := (HG.out.cell 4).trans (show _ = some (Value.int .u64 (x.tk : Int)) from rfl)
 have c5 := (HG.out.cell 5).trans (show _ = some (Value.int .u64 (x.r 0 : Int)) from rfl)
 have c6 := (HG.out.cell 6).trans (show _ = some (Value.int .u64 (x.r 1 : Int)) from rfl)
 have c7 := (HG.out.cell 7).trans (show _ = some (Value.int .u64 (x.r 2 : Int)) from rfl)
 have c8 := (HG.out.cell 8).trans (show _ = some (Value.int .u64 (x.r 3 : Int)) from rfl)
 have c9 := (HG.out.cell 9).trans (show _ = some (Value.int .u64 (x.r 4 : Int)) from rfl)
 have c10 := (HG.out.cell 10).trans (show _ = some (Value.int .u64 (x.r 5 : Int)) from rfl)
 have c11 := (HG.out.cell 11).trans (show _ = some (Value.int .u64 (x.r 6 : Int)) from rfl)
 have c12 := (HG.out.cell 12).trans (show _ = some (Value.int .u64 (x.r 7 : Int)) from rfl)
 have c13 := (HG.out.cell 13).trans (show _ = some ((.slice S x.sn.length cs)) from rfl)
 have cl := HG.out.lt
 go_wp2_with fail
 refine (HNX.out _ (HH.out _ HB.out) (HSQ.out _ HB.out)).mono ?_
 rintro e1 w2 ⟨A', c', rfl, ho, hbm⟩
 have HN2 : Hid (w.heap.size + 1 + 1 < w2.heap.size) := Nat.lt_of_lt_of_le H4.out.lt hbm.size
 have HO0 := owns_mono ho HB.out.size
 rw [HSE.out] at HO0
 rw [HNN.out] at HO0 ⊢
 have HO := Lib.hid HO0
 replace HG := Lib.hid (HG.out.below hbm HG.out.lt)
 replace HE := Lib.hid (HE.out.below hbm HE.out.lt)
 replace H4 := Lib.hid (H4.out.below hbm H4.out.lt)
 replace HB := Lib.hid (HB.out.trans (hbm.mono HB.out.size))
 clear hbm HNX HSQ ho HO0 HSE
 generalize hyy : nxT l x = y at *
 have HYE := Lib.hid hyy
 clear hyy
 have HMT2 := HMT
 clear HMT
 clear c0 c1 c2 c3 c4 c5 c6 c7 c8 c9 c10 c11 c12 c13 cl
 have hba := (Below.refl w2.heap.size w2).alloc (Nat.le_refl _) (.cells akZ 63)
 have H5 := Lib.hid (Lies.made w2 63 akZ)
 replace HG := Lib.hid (HG.out.below hba HG.out.lt)
 replace HE := Lib.hid (HE.out.below hba HE.out.lt)
 replace H4 := Lib.hid (H4.out.below hba H4.out.lt)
 replace HB := Lib.hid (HB.out.trans (hba.mono HB.out.size))
 replace HO := Lib.hid (owned_below HO.out hba)
 have hn5 : w.heap.size + 1 + 1 < w2.heap.size := HN2.out
 clear hba HN2
 generalize hw3 : w2.alloc (.cells akZ 63) = w3 at *
 generalize hn5e : w2.heap.size = n5 at *
 have hk4 := kept_rowT (w := w3) (g := w.heap.size) (thC y (.slice A' n c'))
 have HO2 := Lib.hid (owns_kept HO.out hk4 (fun r cur hr hl (e : r = w.heap.size) => by subst e; exact absurd (hl.same HG.out).1 (by decide)))
 have HG2 := Lib.hid (lies_row HG.out (thC y (.slice A' n c')))
 have HE2 := Lib.hid (HE.out.kept hk4 (fun (e : w.heap.size + 1 = w.heap.size) => by omega))
 have H42 := Lib.hid (H4.out.kept hk4 (fun (e : w.heap.size + 1 + 1 = w.heap.size) => by omega))
 have H5B := Lib.hid (H5.out.kept hk4 (fun (e : n5 = w.heap.size) => by omega))
 have HB2 := Lib.hid (HB.out.trans (hk4.below HB.out.size (fun k hk (e : k = w.heap.size) => by omega)))
 clear hk4
 go_upto_region 2 with (first | refine wpList_store_row rfl 73 _ _ rfl (w.heap.size) (thC y (.slice A' n c')) rfl rfl 73 (thC x (.slice S x.sn.length cs)) HG.out infoTh rfl (thC_one _ rfl) ?_ | refine wpList_store_row rfl 63 _ _ rfl n5 (akC (reqA l y)) rfl rfl 63 akZ H5B.out infoAk rfl (akC_one _) ?_)
 clear HG HE H4 H5 HB HO
 generalize w3.setRow (w.heap.size) (thC y (.slice A' n c')) = w4 at *
 have hk5 := kept_rowT (w := w4) (g := n5) (akC (reqA l y))
 have HO := Lib.hid (owns_kept HO2.out hk5 (fun r cur hr hl (e : r = n5) => by subst e; exact absurd (hl.same H5B.out).1 (by decide)))
 clear HO2
 have HG := Lib.hid (HG2.out.kept hk5 (fun (e : w.heap.size = n5) => by omega))
 have HE := Lib.hid (HE2.out.kept hk5 (fun (e : w.heap.size + 1 = n5) => by omega))
 have H4 := Lib.hid (H42.out.kept hk5 (fun (e : w.heap.size + 1 + 1 = n5) => by omega))
 have H5 := Lib.hid (lies_row H5B.out (akC (reqA l y)))
 have HB := Lib.hid (HB2.out.trans (hk5.below HB2.out.size (fun k hk (e : k = n5) => by omega)))
 clear hk5 HG2 HE2 H42 H5B HB2
 generalize w4.setRow n5 (akC (reqA l y)) = wq at *
 have q0 := (HE.out.cell 0).trans (show _ = some (Value.int .i64 e.th) from rfl)
 have q1 := (HE.out.cell 1).trans (show _ = some (Value.int .i64 e.kd) from rfl)
 have q2 := (HE.out.cell 2).trans (show _ = some (Value.int .i64 e.rg) from rfl)
 have q3 := (HE.out.cell 3).trans (show _ = some (Value.int .u64 (e.tk : Int)) from rfl)
 have q4 := (HE.out.cell 4).trans (show _ = some (Value.int .u64 (e.vl : Int)) from rfl)
 have ql := HE.out.lt
 go_wp2_with fail
 refine (HRI.out _).mono ?_
 rintro e1 w5 ⟨rfl, hbm⟩
 clear q0 q1 q2 q3 q4 ql
 replace H5 := Lib.hid (H5.out.below hbm H5.out.lt)
 replace HO := Lib.hid (owned_below HO.out hbm)
 replace HG := Lib.hid (HG.out.below hbm HG.out.lt)
 replace HE := Lib.hid (HE.out.below hbm HE.out.lt)
 replace H4 := Lib.hid (H4.out.below hbm H4.out.lt)
 replace HB := Lib.hid (HB.out.trans (hbm.mono HB.out.size))
 clear hbm HRI
 clear wq
 have q0 := (HE.out.cell 0).trans (show _ = some (Value.int .i64 e.th) from rfl)
 have q1 := (HE.out.cell 1).trans (show _ = some (Value.int .i64 e.kd) from rfl)
 have q2 := (HE.out.cell 2).trans (show _ = some (Value.int .i64 e.rg) from rfl)
 have q3 := (HE.out.cell 3).trans (show _ = some (Value.int .u64 (e.tk : Int)) from rfl)
 have q4 := (HE.out.cell 4).trans (show _ = some (Value.int .u64 (e.vl : Int)) from rfl)
 have ql := HE.out.lt
 have k0 := (H5.out.cell 0).trans (show _ = some (.int .i64 (reqA l y).kd) from rfl)
 have k1 := (H5.out.cell 1).trans (show _ = some (.int .i64 (reqA l y).rg) from rfl)
 have k2 := (H5.out.cell 2).trans (show _ = some (.int .i64 (reqA l y).md) from rfl)
 have k3 := (H5.out.cell 3).trans (show _ = some (.int .i64 (reqA l y).rd) from rfl)
 have k4 := (H5.out.cell 4).trans (show _ = some (.int .u64 ((reqA l y).tk : Int)) from rfl)
 have k5 := (H5.out.cell 5).trans (show _ = some (.int .u64 ((reqA l y).vl : Int)) from rfl)
 have kl := H5.out.lt
 go_wp2_with fail
 refine (HMT2.out _).mono ?_
 rintro e1 wq ⟨rfl, hbm⟩
 clear q0 q1 q2 q3 q4 ql
 clear k0 k1 k2 k3 k4 k5 kl
 replace HO := Lib.hid (owned_below HO.out hbm)
 replace HG := Lib.hid (HG.out.below hbm HG.out.lt)
 replace HE := Lib.hid (HE.out.below hbm HE.out.lt)
 replace H4 := Lib.hid (H4.out.below hbm H4.out.lt)
 replace HB := Lib.hid (HB.out.trans (hbm.mono HB.out.size))
 clear hbm HMT2 H5 w5
 have hmt := HF.out
 obtain ⟨hys, hat⟩ := fit_at hmt (HKD.out.2.2.1)
 obtain ⟨an, han⟩ : ∃ n : Nat, y.at_ = n := ⟨y.at_.toNat, by have := HIV.out.1; omega⟩
 have han2 : (an : Int) < (l.length : Int) := by have := HIV.out.2.1; omega
 obtain ⟨i, hi⟩ : ∃ i, l[an]? = some i := ⟨_, List.getElem?_eq_getElem (by omega)⟩
 have hgt := atT_get han hi
 have HR := ((codeB_parts HCD.out).2 i (List.mem_of_getElem? hi)).1
 have hih := HH.out _ HB.out
 obtain ⟨b, off, rfl, hbl, hg⟩ := InsAt.at_ hih hi
 have HGI := Lib.hid (fun (q : World) (hq : Below wq.heap.size wq q) (j : Nat) (u : Value) (hj : j < 6) (hu : (inF i)[j]? = some u) => cell_later (hg j u hj hu) hq)
 have hal : (an : Int) < (l.length : Int) := han2
 have HAN := Lib.hid han
 have hab := right_ab HR
 have hy256 : y.at_ ≤ 256 := by omega
 have hy0 : 0 ≤ y.at_ := by omega
 have hkx := HKD.out
 have hkr := HKR.out
 have HFN := Lib.hid (fun q hl => finish16 i y e v (.slice A' n c') (w.heap.size) q hl hy0 hy256 (fun _ => hab.1) (fun _ => hab.2) (by omega))
 have HBE : Hid (behT (atT l y) y e v = (endT (regT i y e v))) := by show _ = _; rw [hgt]; unfold behT; rw [if_neg hkx.1, if_neg hkx.2.1, if_neg hkx.2.2.1, if_neg hkx.2.2.2.1, if_neg hkx.2.2.2.2]
 have j1 : (e.kd == 1) = false := by rw [beq_eq_false_iff_ne]; exact hkx.1
 have j3 : (e.kd == 3) = false := by rw [beq_eq_false_iff_ne]; exact hkx.2.1
 have j14 : (e.kd == 14) = false := by rw [beq_eq_false_iff_ne]; exact hkx.2.2.1
 have j15 : (e.kd == 15) = false := by rw [beq_eq_false_iff_ne]; exact hkx.2.2.2.1
 clear hkx hkr
 clear hmt hys hat hi hgt HR hih hbl hg hab hy256 hy0 han HF HIV HCD HOK
 have q0 := (HE.out.cell 0).trans (show _ = some (Value.int .i64 e.th) from rfl)
 have q1 := (HE.out.cell 1).trans (show _ = some (Value.int .i64 e.kd) from rfl)
 have q2 := (HE.out.cell 2).trans (show _ = some (Value.int .i64 e.rg) from rfl)
 have q3 := (HE.out.cell 3).trans (show _ = some (Value.int .u64 (e.tk : Int)) from rfl)
 have q4 := (HE.out.cell 4).trans (show _ = some (Value.int .u64 (e.vl : Int)) from rfl)
 have ql := HE.out.lt
 have g0 := HGI.out wq (Below.refl _ _) 0 _ (by decide) rfl
 have g1 := HGI.out wq (Below.refl _ _) 1 _ (by decide) rfl
 have g2 := HGI.out wq (Below.refl _ _) 2 _ (by decide) rfl
 have g3 := HGI.out wq (Below.refl _ _) 3 _ (by decide) rfl
 have g4 := HGI.out wq (Below.refl _ _) 4 _ (by decide) rfl
 have g5 := HGI.out wq (Below.refl _ _) 5 _ (by decide) rfl
 rw [Nat.add_zero] at g0
 have c0 := (HG.out.cell 0).trans (show _ = some (Value.int .i64 y.at_) from rfl)
 rw [HAN.out] at c0
 have cl := HG.out.lt
 go_wp2_with fail
 go_still_tail 7, (by kernel_rfl)
 clear q0 q1 q2 q3 q4 ql
 clear g0 g1 g2 g3 g4 g5 c0 cl
 clear j1 j3 j14 j15
 replace HG := Lib.hid HG.out.drew
 replace H4 := Lib.hid H4.out.drew
 replace HO := Lib.hid (owns_drew HO.out)
 replace HB := Lib.hid HB.out.drew
 generalize hw9 : wq.drew = w9 at *
 go_wp2_with fail
 refine (HFN.out _ HG.out).mono ?_
 rintro e1 wE ⟨rfl, hl2, hk2⟩
 replace H4 := Lib.hid (H4.out.kept hk2 (fun (e : w.heap.size + 1 + 1 = w.heap.size) => by omega))
 replace HO := Lib.hid (owns_kept HO.out hk2 (fun r cur hr hl (e : r = w.heap.size) => by subst e; exact absurd (hl.same HG.out).1 (by decide)))
 replace HB := Lib.hid (HB.out.trans (hk2.below HB.out.size (fun k hk (e : k = w.heap.size) => by omega)))
 replace HG := Lib.hid hl2
 have HRSN : Hid ((endT (regT i y e v)).sn = y.sn) := regT_sn i y e v
 clear hl2 hk2 HE HGI HFN
 replace HO : Hid (World.ownsRow wE w.heap.size 37 1 (.slice A' n c') n (cells64 ((endT (regT i y e v))).sn)) := by show World.ownsRow _ _ _ _ _ _ _; rw [HRSN.out]; exact HO.out
 have HZN : Hid (((endT (regT i y e v))).sn.length = n) := by show _ = _; rw [HRSN.out]; exact HNE.out
 have c0 := (HG.out.cell 0).trans (show _ = some (Value.int .i64 (endT (regT i y e v)).at_) from rfl)
 have c1 := (HG.out.cell 1).trans (show _ = some (Value.int .i64 (endT (regT i y e v)).ph) from rfl)
 have c2 := (HG.out.cell 2).trans (show _ = some (Value.int .i64 (endT (regT i y e v)).rg) from rfl)
 have c3 := (HG.out.cell 3).trans (show _ = some (Value.int .i64 (endT (regT i y e v)).st) from rfl)
 have c4 := (HG.out.cell 4).trans (show _ = some (Value.int .u64 ((endT (regT i y e v)).tk : Int)) from rfl)
 have c5 := (HG.out.cell 5).trans (show _ = some (Value.int .u64 ((endT (regT i y e v)).r 0 : Int)) from rfl)
 have c6 := (HG.out.cell 6).trans (show _ = some (Value.int .u64 ((endT (regT i y e v)).r 1 : Int)) from rfl)
 have c7 := (HG.out.cell 7).trans (show _ = some (Value.int .u64 ((endT (regT i y e v)).r 2 : Int)) from rfl)
 have c8 := (HG.out.cell 8).trans (show _ = some (Value.int .u64 ((endT (regT i y e v)).r 3 : Int)) from rfl)
 have c9 := (HG.out.cell 9).trans (show _ = some (Value.int .u64 ((endT (regT i y e v)).r 4 : Int)) from rfl)
 have c10 := (HG.out.cell 10).trans (show _ = some (Value.int .u64 ((endT (regT i y e v)).r 5 : Int)) from rfl)
 have c11 := (HG.out.cell 11).trans (show _ = some (Value.int .u64 ((endT (regT i y e v)).r 6 : Int)) from rfl)
 have c12 := (HG.out.cell 12).trans (show _ = some (Value.int .u64 ((endT (regT i y e v)).r 7 : Int)) from rfl)
 have c13 := (HG.out.cell 13).trans (show _ = some ((.slice A' n c')) from rfl)
 have cl := HG.out.lt
 go_wp2_with (
  refine wpList_store_row rfl 73 _ _ rfl (w.heap.size + 1 + 1) (thC (endT (regT i y e v)) (.slice A' n c')) rfl rfl 73 thZ H4.out infoTh rfl (thC_one _ rfl) ?_
  clear c0 c1 c2 c3 c4 c5 c6 c7 c8 c9 c10 c11 c12 c13 cl
  have hk9 := kept_rowT (w := wE) (g := w.heap.size + 1 + 1) (thC (endT (regT i y e v)) (.slice A' n c'))
  have HBZ := Lib.hid (HB.out.trans (hk9.below HB.out.size (fun k hk (e : k = w.heap.size + 1 + 1) => by omega)))
  have Q4 := Lib.hid (lies_row H4.out (thC (endT (regT i y e v)) (.slice A' n c')))
  have HOZ := Lib.hid (owns_kept HO.out hk9 (fun r cur hr hl (e : r = w.heap.size + 1 + 1) => by subst e; exact absurd (hl.same H4.out).1 (by decide)))
  clear hk9
  generalize wE.setRow (w.heap.size + 1 + 1) (thC (endT (regT i y e v)) (.slice A' n c')) = wF at *
  clear HB H4 HG HO
  clear HRSN
  generalize hz9 : (endT (regT i y e v)) = Z9 at *
  have z0 := (Q4.out.cell 0).trans (show _ = some (Value.int .i64 Z9.at_) from rfl)
  have z1 := (Q4.out.cell 1).trans (show _ = some (Value.int .i64 Z9.ph) from rfl)
  have z2 := (Q4.out.cell 2).trans (show _ = some (Value.int .i64 Z9.rg) from rfl)
  have z3 := (Q4.out.cell 3).trans (show _ = some (Value.int .i64 Z9.st) from rfl)
  have z4 := (Q4.out.cell 4).trans (show _ = some (Value.int .u64 (Z9.tk : Int)) from rfl)
  have z5 := (Q4.out.cell 5).trans (show _ = some (Value.int .u64 (Z9.r 0 : Int)) from rfl)
  have z6 := (Q4.out.cell 6).trans (show _ = some (Value.int .u64 (Z9.r 1 : Int)) from rfl)
  have z7 := (Q4.out.cell 7).trans (show _ = some (Value.int .u64 (Z9.r 2 : Int)) from rfl)
  have z8 := (Q4.out.cell 8).trans (show _ = some (Value.int .u64 (Z9.r 3 : Int)) from rfl)
  have z9 := (Q4.out.cell 9).trans (show _ = some (Value.int .u64 (Z9.r 4 : Int)) from rfl)
  have z10 := (Q4.out.cell 10).trans (show _ = some (Value.int .u64 (Z9.r 5 : Int)) from rfl)
  have z11 := (Q4.out.cell 11).trans (show _ = some (Value.int .u64 (Z9.r 6 : Int)) from rfl)
  have z12 := (Q4.out.cell 12).trans (show _ = some (Value.int .u64 (Z9.r 7 : Int)) from rfl)
  have z13 := (Q4.out.cell 13).trans (show _ = some ((.slice A' n c')) from rfl)
  have zl := Q4.out.lt
  go_wp2
  exact bodyPost_ret (v := .tuple #[.agg (thC Z9 (.slice A' n c')), .int .i64 0]) (by simp [results, Tryz.results73, go_sem, z0, z1, z2, z3, z4, z5, z6, z7, z8, z9, z10, z11, z12, z13]) rfl ⟨_, _, by rw [HYE.out, HBE.out, HZN.out], by rw [HYE.out, HBE.out, HZN.out]; exact HOZ.out, HBZ.out⟩)
theorem right_kind {e : Ev} (h : rightE e = true) : 1 ≤ e.kd ∧ e.kd ≤ 15 := by
 unfold rightE at h
 rw [Bool.and_eq_true] at h
 have h1 := h.1
 unfold kindB at h1
 rw [Bool.and_eq_true, decide_eq_true_eq, decide_eq_true_eq] at h1
 exact h1
theorem do16ok (l : List In) (A : Option Addr) (c : Nat) (x : Th) (S : Option Addr) (cs : Nat) (e : Ev) (v : Nat) (w : World) (h : InsAt w A c l) (hok : ∀ i ∈ l, inOk i) (hx : thOk x) (hs : SeqS w 1 (.slice S x.sn.length cs) x.sn.length (cells64 x.sn)) (hl : x.sn.length ≤ 1000000) (hr : thB l x = true) (hre : rightE e = true) (hf : fitB (reqA l (nxT l x)) e = true) :
  Calls Tryz.prog 73 #[.slice A l.length c, .agg (thC x (.slice S x.sn.length cs)), .agg (evC e), .int .u64 (v : Int)] w fun q w' => ∃ A' c', q = .returned (.tuple #[.agg (thC (behT (atT l (nxT l x)) (nxT l x) e v) (.slice A' (behT (atT l (nxT l x)) (nxT l x) e v).sn.length c')), .int .i64 0]) ∧ w'.ownsRow w.heap.size 37 1 (.slice A' (behT (atT l (nxT l x)) (nxT l x) e v).sn.length c') (behT (atT l (nxT l x)) (nxT l x) e v).sn.length (cells64 (behT (atT l (nxT l x)) (nxT l x) e v).sn) ∧ Below w.heap.size w w' := by
 have hkk := right_kind hre
 by_cases k1 : e.kd = 1
 ·exact do16k1 l A c x S cs e v w h hok hx hs hl hr hre hf k1
 by_cases k3 : e.kd = 3
 ·exact do16k3 l A c x S cs e v w h hok hx hs hl hr hre hf k3
 by_cases k14 : e.kd = 14
 ·exact do16k14 l A c x S cs e v w h hok hx hs hl hr hre hf k14
 by_cases k15 : e.kd = 15
 ·exact do16k15 l A c x S cs e v w h hok hx hs hl hr hre hf k15
 by_cases k12 : e.kd = 12
 ·exact do16k12 l A c x S cs e v w h hok hx hs hl hr hre hf k12
 exact do16kF l A c x S cs e v w h hok hx hs hl hr hre hf ⟨k1, k3, k14, k15, k12⟩ hkk
def thO : Th := ⟨0, 0, 0, 0, 0, fun _ => 0, []⟩
def nxZ (l : List In) (x : Th) : Th × Ak × Int := if thB l x = true then (nxT l x, reqA l (nxT l x), 0) else (thO, noneA 0, 1)
def doZ (l : List In) (x : Th) (e : Ev) (v : Nat) : Th × Int :=
 if thB l x = true then if rightE e = true then if fitB (reqA l (nxT l x)) e = true then (behT (atT l (nxT l x)) (nxT l x) e v, 0) else (thO, 11) else (thO, 3) else (thO, 1)
def OwnTh (w : World) (B : Nat) (z : Th) (u : Value) : Prop := ∃ A c, u = .agg (thC z (.slice A z.sn.length c)) ∧ w.ownsRow B 37 1 (.slice A z.sn.length c) z.sn.length (cells64 z.sn)
def NxPost (z : Th × Ak × Int) (w : World) (q : Ending) (w' : World) : Prop := ∃ u, q = .returned (.tuple #[u, .agg (akC z.2.1), .int .i64 z.2.2]) ∧ OwnTh w' w.heap.size z.1 u ∧ Below w.heap.size w w'
def DoPost (z : Th × Int) (w : World) (q : Ending) (w' : World) : Prop := ∃ u, q = .returned (.tuple #[u, .int .i64 z.2]) ∧ OwnTh w' w.heap.size z.1 u ∧ Below w.heap.size w w'
theorem ownO (w : World) (B : Nat) : OwnTh w B thO (.agg thZ) := ⟨none, 0, rfl, World.ownsRow_nil _ _ _ _⟩
theorem nextU (l : List In) (A : Option Addr) (c : Nat) (x : Th) (S : Option Addr) (cs : Nat) (w : World) (h : InsAt w A c l) (hok : ∀ i ∈ l, inOk i) (hx : thOk x) (hs : SeqS w 1 (.slice S x.sn.length cs) x.sn.length (cells64 x.sn)) (hl : x.sn.length ≤ 1000000) :
  Calls Tryz.prog 76 #[.slice A l.length c, .agg (thC x (.slice S x.sn.length cs))] w (NxPost (nxZ l x) w) := by
 by_cases hr : thB l x = true
 ·have hz : nxZ l x = (nxT l x, reqA l (nxT l x), 0) := by unfold nxZ; rw [if_pos hr]
  refine (next16 l A c x S cs w h hok hx hs hl hr).mono ?_
  rintro q w' ⟨A', c', h1, h2, h3⟩
  have hsn := (nxT_facts hr hx hok).2.2
  rw [hz]
  rw [← hsn] at h1 h2
  exact ⟨_, h1, ⟨A', c', rfl, h2⟩, h3⟩
 ·have hz : nxZ l x = (thO, noneA 0, 1) := by unfold nxZ; rw [if_neg hr]
  refine (next16no l A c x _ w h (by rw [Bool.eq_false_iff]; exact hr)).mono ?_
  rintro q w' ⟨h1, h3⟩
  rw [hz]
  exact ⟨_, h1, ownO _ _, h3⟩
theorem doU (l : List In) (A : Option Addr) (c : Nat) (x : Th) (S : Option Addr) (cs : Nat) (e : Ev) (v : Nat) (w : World) (h : InsAt w A c l) (hok : ∀ i ∈ l, inOk i) (hx : thOk x) (hs : SeqS w 1 (.slice S x.sn.length cs) x.sn.length (cells64 x.sn)) (hl : x.sn.length ≤ 1000000) :
  Calls Tryz.prog 73 #[.slice A l.length c, .agg (thC x (.slice S x.sn.length cs)), .agg (evC e), .int .u64 (v : Int)] w (DoPost (doZ l x e v) w) := by
 by_cases hr : thB l x = true
 case neg =>
  have hz : doZ l x e v = (thO, 1) := by unfold doZ; rw [if_neg hr]
  refine (do16bad l A c x S cs e v w h (by rw [Bool.eq_false_iff]; exact hr)).mono ?_
  rintro q w' ⟨h1, h3⟩
  rw [hz]
  exact ⟨_, h1, ownO _ _, h3⟩
 by_cases he : rightE e = true
 case neg =>
  have hz : doZ l x e v = (thO, 3) := by unfold doZ; rw [if_pos hr, if_neg he]
  refine (do16form l A c x S cs e v w h hok hx hs hl hr (by rw [Bool.eq_false_iff]; exact he)).mono ?_
  rintro q w' ⟨h1, h3⟩
  rw [hz]
  exact ⟨_, h1, ownO _ _, h3⟩
 by_cases hf : fitB (reqA l (nxT l x)) e = true
 case neg =>
  have hz : doZ l x e v = (thO, 11) := by unfold doZ; rw [if_pos hr, if_pos he, if_neg hf]
  refine (do16order l A c x S cs e v w h hok hx hs hl hr he (by rw [Bool.eq_false_iff]; exact hf)).mono ?_
  rintro q w' ⟨h1, h3⟩
  rw [hz]
  exact ⟨_, h1, ownO _ _, h3⟩
 have hz : doZ l x e v = (behT (atT l (nxT l x)) (nxT l x) e v, 0) := by unfold doZ; rw [if_pos hr, if_pos he, if_pos hf]
 refine (do16ok l A c x S cs e v w h hok hx hs hl hr he hf).mono ?_
 rintro q w' ⟨A', c', h1, h2, h3⟩
 rw [hz]
 exact ⟨_, h1, ⟨A', c', rfl, h2⟩, h3⟩
section
variable {P : Program} {ops : Array Oper}
def updX (x : Nat → Value) (i : Nat) (v : Value) : Nat → Value := fun j => if j = i then v else x j
def updL (L : Nat → Bool) (i : Nat) : Nat → Bool := fun j => (j == i) || L j
theorem updL_set {listed : Array Bool} {i : Nat} (hi : i < listed.size) : updL (fun k => listed.getD k false) i = fun k => (listed.setIfInBounds i true).getD k false := by
 funext k
 unfold updL
 rw [Bool.eq_iff_iff, Bool.or_eq_true, beq_iff_eq, set_getD hi]
theorem none_listed {n : Nat} : (fun k => (Array.replicate n false).getD k false) = fun _ => false := by
 funext k
 by_cases h : k < n
 ·simp [h]
 ·simp [h]
def AllPX (V : Nat → Value → World → Prop) (x : Nat → Value) (L : Nat → Bool) (w w' : World) : List Nat → Prop
 | [] => True
 | j :: l => ((j < ops.size → L j = true) → V j (x j) w → V j (x j) w') ∧ AllPX V x L w w' l
theorem AllPX.get {V : Nat → Value → World → Prop} {x : Nat → Value} {L : Nat → Bool} {w w' : World} : ∀ {l : List Nat}, AllPX (ops := ops) V x L w w' l → ∀ j ∈ l, (j < ops.size → L j = true) → V j (x j) w → V j (x j) w'
 | [], _, _, h => by cases h
 | k :: l, h, j, hj => by
  rcases List.mem_cons.1 hj with rfl | hj
  ·exact h.1
  ·exact h.2.get j hj
theorem AllPX.same {V : Nat → Value → World → Prop} {x : Nat → Value} {L : Nat → Bool} {w : World} : ∀ (l : List Nat), AllPX (ops := ops) V x L w w l
 | [] => trivial
 | _ :: l => ⟨fun _ h => h, AllPX.same l⟩
theorem AllPX.of {V : Nat → Value → World → Prop} {x : Nat → Value} {L : Nat → Bool} {w w' : World} : ∀ (l : List Nat), (∀ j ∈ l, (j < ops.size → L j = true) → V j (x j) w → V j (x j) w') → AllPX (ops := ops) V x L w w' l
 | [], _ => trivial
 | k :: l, h => ⟨h k List.mem_cons_self, AllPX.of l (fun j hj => h j (List.mem_cons_of_mem _ hj))⟩
theorem wpAny_relyx {ds : List (Option Tmp)} {js es ps : List (List Nat)} {N : Nat} {Q : Exit → Act → World → Prop} {a0 : Act} {S : (Nat → Value) → (Nat → Bool) → World → Prop} {V : Nat → Value → World → Prop} (hok : Rely ops ds js es ps N)
  (hjs : ∀ i j, i < ops.size → j ∈ js.getD i [] → j < N) (hstep : ∀ i, i < ops.size → ∀ (x : Nat → Value) (L : Nat → Bool) (w : World), S x L w → L i = false → AllV V x w (js.getD i []) → (∀ e ∈ dirs ops i, L e = true) →
   StepV P ops i (putsOf ds x a0 (js.getD i [])) w (fun v w' => S (updX x i v) (updL L i) w' ∧ V i v w' ∧ AllPX (ops := ops) V x L w w' (ps.getD i [])))
  (hend : ∀ (x : Nat → Value) (L : Nat → Bool) (w : World), S x L w → (∀ j, j < ops.size → L j = true) → (∀ j, j < N → (∀ i, i < ops.size → j ∉ es.getD i []) → V j (x j) w) → Q .normal (putsOf ds x a0 (List.range ops.size)) w) :
  ∀ (fuel : Nat) (listed : Array Bool) (a : Act) (x : Nat → Value) (w : World), listed.size = ops.size → (∀ j, j < ops.size → listed.getD j false = true → ∀ e ∈ dirs ops j, listed.getD e false = true) → unl listed ≤ fuel → S x (fun k => listed.getD k false) w →
   (∀ j, j < N → (j < ops.size → listed.getD j false = true) → (∀ i, i < ops.size → listed.getD i false = true → j ∉ es.getD i []) → V j (x j) w) → FrV ops ds a0 x listed a → wpAny P .any ops Q fuel listed a w := by
 have hfin : ∀ (listed : Array Bool) (a : Act) (x : Nat → Value) (w : World), S x (fun k => listed.getD k false) w → (∀ j, j < ops.size → listed.getD j false = true) →
   (∀ j, j < N → (j < ops.size → listed.getD j false = true) → (∀ i, i < ops.size → listed.getD i false = true → j ∉ es.getD i []) → V j (x j) w) → FrV ops ds a0 x listed a → Q .normal a w := by
  intro listed a x w hS hall hV hF
  rw [hF.full hok hall]
  exact hend x _ w hS hall (fun j hj hn => hV j hj (hall j) (fun i hi _ => hn i hi))
 intro fuel
 induction fuel with
 | zero =>
  intro listed a x w hsz hdc hu hS hV hF
  have hall : ∀ j, j < ops.size → listed.getD j false = true := fun j hj => unl_zero (by omega) j (by omega)
  refine ⟨?_, hfin listed a x w hS hall hV hF⟩
  cases hr : Region.ready .any ops listed with
  | nil => rfl
  | cons i rs =>
   exfalso
   have hm : i ∈ Region.ready .any ops listed := by rw [hr]; exact List.mem_cons_self
   obtain ⟨h0, o, ho, _⟩ := mem_ready.1 hm
   have hi := (Array.getElem?_eq_some_iff.1 ho).1
   have := hall i hi
   rw [getD_tf (by omega) false true, h0] at this
   cases this
 | succ fuel ih =>
  intro listed a x w hsz hdc hu hS hV hF
  refine ⟨fun hr => hfin listed a x w hS ?_ hV hF, fun i hi => ?_⟩
  ·intro j
   induction j using Nat.strongRecOn with
   | ind j ihj =>
    intro hj
    cases hl : listed.getD j false with
    | true => rfl
    | false =>
     exfalso
     have hm : j ∈ Region.ready .any ops listed := by
      refine mem_ready.2 ⟨by rw [getD_tf (by omega) true false]; exact hl, ops[j], Array.getElem?_eq_getElem hj, fun e he hb => ?_⟩
      have hd := (dirs_mem (Array.getElem?_eq_getElem hj)).2 ⟨e, he, hb, rfl⟩
      have hlt := hok.back j e.on hj hd
      exact ihj e.on hlt (by omega)
     rw [hr] at hm
     cases hm
  ·obtain ⟨h0, o, ho, hall⟩ := mem_ready.1 hi
   have hin := (Array.getElem?_eq_some_iff.1 ho).1
   have hun : listed.getD i false = false := by rw [getD_tf (by omega) false true]; exact h0
   have hdi : ∀ e ∈ dirs ops i, listed.getD e false = true := fun e he => by
    obtain ⟨g, h1, h2, h3⟩ := (dirs_mem ho).1 he
    rw [← h3]; exact hall g h1 h2
   have hdl : ∀ e ∈ dirs ops i, e < ops.size := fun e he => Nat.lt_trans (hok.back i e hin he) hin
   have hds : o.dst = ds.getD i none := by
    rw [hok.ds_, List.getD_eq_getElem?_getD, List.getElem?_map, Array.getElem?_toList, ho]; rfl
   have hpre : ∀ j ∈ js.getD i [], V j (x j) w := fun j hj => by
    have hjd := hok.sub i j hin hj
    refine hV j (hjs i j hin hj) (fun hjn => hdi j (hjd.resolve_right (by omega))) (fun k hk hkl hjk => ?_)
    rcases hok.eats i k j hin hk hjk hj with e | e
    ·subst e
     rw [hun] at hkl; cases hkl
    ·have := hdc k hk hkl i e
     rw [hun] at this; cases this
   have hst := hstep i hin x _ w hS hun (AllV.of _ hpre) hdi
   have hz := putsOf_size ds x (js.getD i []) a0
   have hmv := StepV.move (Q := Q) (a := a) ho (Region.noSelect_spec hok.sel i o · · ho) (hF.size.trans hz.1.symm) (fun t ht => ?_) hst
   ·refine wpOp_mono (fun a' w' h => ?_) hmv
    obtain ⟨v, rfl, hS', hVi, hpr⟩ := h
    rw [hds]
    refine ih (listed.setIfInBounds i true) _ (fun j => if j = i then v else x j) w' (by simpa using hsz) ?_ ?_ (by rw [updL_set (by omega)] at hS'; exact hS') ?_ (hF.step hok hin hsz hun)
    ·intro j hj hl e he
     refine (set_getD (by omega)).2 (.inr ?_)
     rcases (set_getD (by omega)).1 hl with e2 | e2
     ·subst e2; exact hdi e he
     ·exact hdc j hj e2 e he
    ·have := unl_set (by omega) hun
     omega
    ·intro j hjN hl hn
     by_cases e : j = i
     ·subst e
      simpa using hVi
     ·simp only [if_neg e]
      have hps : j ∈ ps.getD i [] := by
       rcases hok.pres i j hin hjN with e2 | e2 | e2 | e2 | ⟨k, hk, e2⟩
       ·exact absurd e2.symm e
       ·exact e2
       ·exact absurd e2 (hn i hin ((set_getD (by omega)).2 (.inl rfl)))
       ·exfalso
        by_cases hjn : j < ops.size
        ·have := hdc j hjn (((set_getD (by omega)).1 (hl hjn)).resolve_left e) i e2
         rw [hun] at this; cases this
        ·unfold dirs at e2
         rw [Array.getElem?_eq_none (by omega)] at e2
         cases e2
       ·exact absurd e2 (hn k (hdl k hk) ((set_getD (by omega)).2 (.inr (hdi k hk))))
      refine hpr.get j hps (fun hjo => ?_) ?_
      ·exact ((set_getD (by omega)).1 (hl hjo)).resolve_left e
      exact hV j hjN (fun hj => ((set_getD (by omega)).1 (hl hj)).resolve_left e) (fun k hk hkl => hn k hk ((set_getD (by omega)).2 (.inr hkl)))
   ·have hnone : ∀ k, ops.size ≤ k → ds.getD k none = none := fun k hk => by
     rw [List.getD_eq_getElem?_getD, List.getElem?_eq_none (by rw [hok.ds_]; simpa using hk)]; rfl
    have hget : (ops.getD i default) = o := by
     rw [Array.getD_eq_getD_getElem?, ho]; rfl
    by_cases hsz2 : t < a0.tmps.size
    ·by_cases hex : ∃ j, j < ops.size ∧ listed.getD j false = true ∧ ds.getD j none = some t
     ·obtain ⟨j, hj, hl, hd⟩ := hex
      rw [hF.put j t hj hl hd hsz2]
      rcases hok.looks i j t hin hj hd (by rw [hget]; exact ht) with e | e | e
      ·subst e; rw [hun] at hl; cases hl
      ·refine (putsOf_new ds x t j _ a0 (fun k hk e2 => ?_) e hd hsz2).symm
       rcases hok.sub i k hin hk with e3 | e3
       ·exact hok.one k j t (hdl k e3) hj hd e2
       ·rw [hnone k e3] at e2; cases e2
      ·have := hdc j hj hl i e
       rw [hun] at this; cases this
     ·rw [hF.old t (fun j hj hl e => hex ⟨j, hj, hl, e⟩)]
      refine (putsOf_old ds x t _ a0 (fun j hj e => ?_)).symm
      rcases hok.sub i j hin hj with e3 | e3
      ·exact hex ⟨j, hdl j e3, hdi j e3, e⟩
      ·rw [hnone j e3] at e; cases e
    ·rw [Array.getElem?_eq_none (by rw [hF.size]; exact Nat.le_of_not_lt hsz2), Array.getElem?_eq_none (by rw [hz.1]; exact Nat.le_of_not_lt hsz2)]
def RelyStepX (P : Program) (ops : Array Oper) (ds : List (Option Tmp)) (js ps : List (List Nat)) (a0 : Act) (S : (Nat → Value) → (Nat → Bool) → World → Prop) (V : Nat → Value → World → Prop) (i : Nat) : Prop :=
 ∀ (x : Nat → Value) (L : Nat → Bool) (w : World), S x L w → L i = false → AllV V x w (js.getD i []) → (∀ e ∈ dirs ops i, L e = true) → StepV P ops i (putsOf ds x a0 (js.getD i [])) w (fun v w' => S (updX x i v) (updL L i) w' ∧ V i v w' ∧ AllPX (ops := ops) V x L w w' (ps.getD i []))
def RelyStepsX (P : Program) (ops : Array Oper) (ds : List (Option Tmp)) (js ps : List (List Nat)) (a0 : Act) (S : (Nat → Value) → (Nat → Bool) → World → Prop) (V : Nat → Value → World → Prop) (is : List Nat) : Prop :=
 ∀ i ∈ is, RelyStepX P ops ds js ps a0 S V i
theorem RelyStepsX.nil {ds : List (Option Tmp)} {js ps : List (List Nat)} {a0 : Act} {S : (Nat → Value) → (Nat → Bool) → World → Prop} {V : Nat → Value → World → Prop} : RelyStepsX P ops ds js ps a0 S V [] := fun _ h => by cases h
theorem RelyStepsX.cons {ds : List (Option Tmp)} {js ps : List (List Nat)} {a0 : Act} {S : (Nat → Value) → (Nat → Bool) → World → Prop} {V : Nat → Value → World → Prop} {i : Nat} {is : List Nat} (h : RelyStepX P ops ds js ps a0 S V i)
  (hs : RelyStepsX P ops ds js ps a0 S V is) : RelyStepsX P ops ds js ps a0 S V (i :: is) := fun k hk => by
 rcases List.mem_cons.1 hk with rfl | hk
 ·exact h
 ·exact hs k hk
theorem RelyStepX.mk {ds : List (Option Tmp)} {js ps : List (List Nat)} {a0 : Act} {S : (Nat → Value) → (Nat → Bool) → World → Prop} {V : Nat → Value → World → Prop} {i : Nat} {o : Oper} (J K : List Nat) (ho : ops[i]? = some o) (hJ : js.getD i [] = J) (hK : ps.getD i [] = K)
  (h : ∀ (x : Nat → Value) (L : Nat → Bool) (w : World), S x L w → L i = false → (∀ e ∈ dirs ops i, L e = true) → AllV V x w J → ∀ (b : Act), b = putsOf ds x a0 J → ∀ K' : Act → World → Prop, Shut (∀ a' w', (∃ v, a' = b.put o.dst v ∧ S (updX x i v) (updL L i) w' ∧ V i v w' ∧ AllPX (ops := ops) V x L w w' K) → K' a' w') →
   if Region.wanted o (yielded ops b.tmps) = true then Oper.wp P o b w K' QF else K' (b.put o.dst undef) w) : RelyStepX P ops ds js ps a0 S V i := by
 intro x L w hS hL hV hd
 rw [hJ] at hV ⊢
 rw [hK]
 exact StepV.mk ho (fun K' hK' => h x L w hS hL hd hV _ rfl K' hK')
theorem wp_region_relyx {id : Nat} {a0 : Act} {w : World} {Q : Exit → Act → World → Prop} (S : (Nat → Value) → (Nat → Bool) → World → Prop) (V : Nat → Value → World → Prop) (ds : List (Option Tmp)) (js es ps : List (List Nat)) (is : List Nat) (N : Nat) (hm : P.follows .mixedOrders = true)
  (hok : relyB ops ds js es ps N = true) (hjs : js.all (fun l => l.all (fun j => decide (j < N))) = true) (his : List.range ops.size = is) (hS : S (fun _ => undef) (fun _ => false) w.drew) (hI : ∀ j, j < N → ops.size ≤ j → V j undef w.drew) (hsteps : RelyStepsX P ops ds js ps a0 S V is)
  (hend : ∀ (x : Nat → Value) (L : Nat → Bool) (w : World), S x L w → (∀ j, j < ops.size → L j = true) → (∀ j, j < N → (is.all fun i => !(es.getD i []).contains j) = true → V j (x j) w) → Q .normal (putsOf ds x a0 is) w) : (Code.region id ops true).wp P Q a0 w := by
 subst his
 have hjs2 : ∀ i j, i < ops.size → j ∈ js.getD i [] → j < N := fun i j _ hj => by
  rw [List.getD_eq_getElem?_getD] at hj
  cases hg : js[i]? with
  | none => rw [hg] at hj; cases hj
  | some l =>
   rw [hg] at hj
   have := List.all_eq_true.1 (List.all_eq_true.1 hjs l (List.mem_of_getElem? hg)) j hj
   simpa using this
 refine wp_region_any hm (wpAny_relyx (Rely.of hok) hjs2 (fun i hi => hsteps i (List.mem_range.2 hi)) (fun x L w h1 hL h2 => hend x L w h1 hL (fun j hj hn => h2 j hj (fun i hi hc => ?_))) ops.size _ a0 (fun _ => undef) _ (by simp) (fun j hj h => ?_) ?_ (by rw [none_listed]; exact hS) (fun j hj h hn => ?_) ⟨rfl, rfl, fun j t hj h => ?_, fun _ _ => rfl⟩)
 ·have := List.all_eq_true.1 hn i (List.mem_range.2 hi)
  rw [List.contains_iff_mem.2 hc] at this
  cases this
 ·simp [hj] at h
 ·unfold unl
  refine Nat.le_trans List.countP_le_length (by simp)
 ·refine hI j hj (Nat.le_of_not_lt fun hj => ?_)
  have := h hj
  simp [hj] at this
 ·simp [hj] at h
end
def BkS (T : TypeId) (i k m : Nat) (z0 : Array Value) (N : Nat) (x : Nat → Value) (L : Nat → Bool) (q : World) : Prop :=
 (L k = true → L i = true ∧ L m = true) ∧ (L i = true → ∃ g a, x i = .pointer (some ⟨g, 0, none⟩) ∧ N ≤ g ∧ Lies q g T a ∧ (L k = false → a = z0) ∧ (L k = true → x m = .agg a))
section
variable {T : TypeId} {i k m : Nat} {z0 : Array Value} {N : Nat} {x : Nat → Value} {L : Nat → Bool} {q q' : World}
theorem updL_ne {j a : Nat} (h : j ≠ a) : updL L a j = L j := by
 unfold updL
 rw [show (j == a) = false by rw [beq_eq_false_iff_ne]; exact h, Bool.false_or]
theorem updX_ne {j a : Nat} {v : Value} (h : j ≠ a) : updX x a v j = x j := by unfold updX; rw [if_neg h]
theorem updL_at {a : Nat} : updL L a a = true := by simp [updL]
theorem updX_at {a : Nat} {v : Value} : updX x a v a = v := by simp [updX]
theorem bk_none : BkS T i k m z0 N x (fun _ => false) q := ⟨(fun h => by cases h), fun h => by cases h⟩
theorem bk_kept {S : Nat → Prop} (h : BkS T i k m z0 N x L q) (hk : Kept S q q') (hS : ∀ g a, Lies q g T a → ¬ S g) : BkS T i k m z0 N x L q' := by
 refine ⟨h.1, fun hi => ?_⟩
 obtain ⟨g, a, h1, h2, h3, h4, h5⟩ := h.2 hi
 exact ⟨g, a, h1, h2, h3.kept hk (hS g a h3), h4, h5⟩
theorem bk_below (h : BkS T i k m z0 N x L q) (hb : Below q.heap.size q q') : BkS T i k m z0 N x L q' := bk_kept h (Kept.of_below hb) (fun _ _ _ e => e)
theorem bk_pure {j : Nat} {v : Value} (h : BkS T i k m z0 N x L q) (hj : (j != i && j != k) = true) (hL : L j = false) : BkS T i k m z0 N (updX x j v) (updL L j) q := by
 rw [Bool.and_eq_true, bne_iff_ne, bne_iff_ne] at hj
 unfold BkS
 rw [updL_ne (Ne.symm hj.1), updL_ne (Ne.symm hj.2), updX_ne (Ne.symm hj.1)]
 by_cases hm : m = j
 ·subst hm
  refine ⟨fun hk => ⟨(h.1 hk).1, updL_at⟩, fun hi => ?_⟩
  obtain ⟨g, a, h1, h2, h3, h4, h5⟩ := h.2 hi
  exact ⟨g, a, h1, h2, h3, h4, fun hk => by have := (h.1 hk).2; rw [hL] at this; cases this⟩
 ·rw [updL_ne hm, updX_ne hm]
  exact h
theorem bk_made (h : BkS T i k m z0 N x L q) (hL : L i = false) (hki : k ≠ i) (hmi : m ≠ i) (hN : N ≤ q.heap.size) : BkS T i k m z0 N (updX x i (.pointer (some ⟨q.heap.size, 0, none⟩))) (updL L i) (q.alloc (.cells z0 T)) := by
 unfold BkS
 rw [updL_at, updX_at, updL_ne hki, updL_ne hmi, updX_ne hmi]
 have hk : L k = false := by
  cases hk : L k with
  | false => rfl
  | true => have := (h.1 hk).1; rw [hL] at this; cases this
 rw [hk]
 exact ⟨(fun h => by cases h), fun _ => ⟨_, z0, rfl, hN, Lies.made _ _ _, fun _ => rfl, fun h => by cases h⟩⟩
theorem bk_open (h : BkS T i k m z0 N x L q) (hi : L i = true) (hk : L k = false) : ∃ g, x i = .pointer (some ⟨g, 0, none⟩) ∧ N ≤ g ∧ Lies q g T z0 := by
 obtain ⟨g, a, h1, h2, h3, h4, _⟩ := h.2 hi
 obtain rfl := h4 hk
 exact ⟨g, h1, h2, h3⟩
theorem bk_store {v : Value} {g : Nat} {a : Array Value} (hi : L i = true) (hm : L m = true) (hki : k ≠ i) (hmk : k ≠ m) (h1 : x i = .pointer (some ⟨g, 0, none⟩)) (h2 : N ≤ g) (h3 : Lies q g T z0) (hv : x m = .agg a) : BkS T i k m z0 N (updX x k v) (updL L k) (q.setRow g a) := by
 unfold BkS
 rw [updL_at, updL_ne (Ne.symm hki), updX_ne (Ne.symm hki), updL_ne (Ne.symm hmk), updX_ne (Ne.symm hmk)]
 exact ⟨fun _ => ⟨hi, hm⟩, fun _ => ⟨g, a, h1, h2, lies_row h3 a, (fun h => by cases h), fun _ => hv⟩⟩
theorem bk_done (h : BkS T i k m z0 N x L q) (hi : L i = true) (hk : L k = true) : ∃ g a, x i = .pointer (some ⟨g, 0, none⟩) ∧ N ≤ g ∧ Lies q g T a ∧ x m = .agg a := by
 obtain ⟨g, a, h1, h2, h3, _, h5⟩ := h.2 hi
 exact ⟨g, a, h1, h2, h3, h5 hk⟩
end
inductive Fk where
 | eq (v : Value)
 | row (e : TypeId) (sz n : Nat) (xs : List Value)
 | st (z : Th)
 | tup (z : Th) (rest : List Value)
 | any
def Fk.holds (N : Nat) (f : Fk) (u : Value) (q : World) : Prop :=
 match f with
 | .eq v => u = v
 | .row e sz n xs => q.ownsRow N e sz u n xs
 | .st z => OwnTh q N z u
 | .tup z rest => ∃ u1, u = .tuple (u1 :: rest).toArray ∧ OwnTh q N z u1
 | .any => True
def Fk.typ (f : Fk) : Option TypeId :=
 match f with
 | .row e _ _ _ => some e
 | .st _ => some 37
 | .tup _ _ => some 37
 | _ => none
def fkV (N : Nat) (fs : List Fk) (j : Nat) (u : Value) (q : World) : Prop := (fs.getD j .any).holds N u q
section
variable {N : Nat} {f : Fk} {fs : List Fk} {j : Nat} {u : Value} {q q' : World}
theorem ownTh_kept {S : Nat → Prop} {B : Nat} {z : Th} (h : OwnTh q B z u) (k : Kept S q q') (hS : ∀ r a, Lies q r 37 a → ¬ S r) : OwnTh q' B z u := by
 obtain ⟨A, c, h1, h2⟩ := h
 exact ⟨A, c, h1, owns_kept h2 k (fun r cur _ hl => hS r cur hl)⟩
theorem ownTh_mono {B B' : Nat} {z : Th} (h : OwnTh q B z u) (hB : B' ≤ B) : OwnTh q B' z u := by
 obtain ⟨A, c, h1, h2⟩ := h
 exact ⟨A, c, h1, owns_mono h2 hB⟩
theorem fk_kept {S : Nat → Prop} (k : Kept S q q') (h : ∀ e, f.typ = some e → ∀ r a, Lies q r e a → ¬ S r) (hh : f.holds N u q) : f.holds N u q' := by
 cases f with
 | eq v => exact hh
 | row e sz n xs => exact owns_kept hh k (fun r cur _ hl => h e rfl r cur hl)
 | st z => exact ownTh_kept hh k (h _ rfl)
 | tup z rest =>
  obtain ⟨u1, h1, h2⟩ := hh
  exact ⟨u1, h1, ownTh_kept h2 k (h _ rfl)⟩
 | any => trivial
theorem fkV_below (hb : Below q.heap.size q q') (h : fkV N fs j u q) : fkV N fs j u q' := fk_kept (Kept.of_below hb) (fun _ _ _ _ _ e => e) h
theorem fkV_row {g : Nat} {T : TypeId} {old : Array Value} (cs : Array Value) (hl : Lies q g T old) (hT : (fs.getD j .any).typ ≠ some T) (h : fkV N fs j u q) : fkV N fs j u (q.setRow g cs) :=
 fk_kept (kept_rowS (S := fun k => k = g) cs rfl) (fun e he r a hr (e2 : r = g) => by subst e2; exact hT (by rw [he, (hr.same hl).1])) h
theorem all_typ {l : List Nat} {E : TypeId} (h : l.all (fun j => (fs.getD j .any).typ != some E) = true) (hj : j ∈ l) : (fs.getD j .any).typ ≠ some E := by
 have := List.all_eq_true.1 h j hj
 exact bne_iff_ne.1 this
end
def lwS (w9 : World) (T U : TypeId) (i k m : Nat) (z : Array Value) (i2 k2 m2 : Nat) (z2 : Array Value) (x : Nat → Value) (L : Nat → Bool) (q : World) : Prop :=
 Below w9.heap.size w9 q ∧ BkS T i k m z w9.heap.size x L q ∧ BkS U i2 k2 m2 z2 w9.heap.size x L q
section
variable {w9 : World} {T U : TypeId} {i k m : Nat} {z : Array Value} {i2 k2 m2 : Nat} {z2 : Array Value} {x : Nat → Value} {L : Nat → Bool} {q q' : World} {j : Nat} {v : Value}
theorem lw_start : lwS w9 T U i k m z i2 k2 m2 z2 x (fun _ => false) (w9.drewN 1) := ⟨below_drewN (Below.refl _ _) 1, bk_none, bk_none⟩
theorem lw_le (h : lwS w9 T U i k m z i2 k2 m2 z2 x L q) : w9.heap.size ≤ q.heap.size := h.1.size
theorem lw_pure (hj : (j != i && j != k && (j != i2 && j != k2)) = true) (h : lwS w9 T U i k m z i2 k2 m2 z2 x L q) (hL : L j = false := by assumption) : lwS w9 T U i k m z i2 k2 m2 z2 (updX x j v) (updL L j) q := by
 rw [Bool.and_eq_true] at hj
 exact ⟨h.1, bk_pure h.2.1 hj.1 hL, bk_pure h.2.2 hj.2 hL⟩
theorem lw_below (hj : (j != i && j != k && (j != i2 && j != k2)) = true) (h : lwS w9 T U i k m z i2 k2 m2 z2 x L q) (hb : Below q.heap.size q q') (hL : L j = false := by assumption) : lwS w9 T U i k m z i2 k2 m2 z2 (updX x j v) (updL L j) q' :=
 lw_pure hj ⟨h.1.trans (hb.mono h.1.size), bk_below h.2.1 hb, bk_below h.2.2 hb⟩ hL
theorem lw_made1 (hd : (k != i && m != i && (i != i2 && i != k2)) = true) (h : lwS w9 T U i k m z i2 k2 m2 z2 x L q) (hL : L i = false := by assumption) : lwS w9 T U i k m z i2 k2 m2 z2 (updX x i (.pointer (some ⟨q.heap.size, 0, none⟩))) (updL L i) (q.alloc (.cells z T)) := by
 simp only [Bool.and_eq_true, bne_iff_ne] at hd
 have hb : Below q.heap.size q (q.alloc (.cells z T)) := (Below.refl _ _).alloc (Nat.le_refl _) _
 exact ⟨h.1.trans (hb.mono h.1.size), bk_made h.2.1 hL hd.1.1 hd.1.2 h.1.size, bk_pure (bk_below h.2.2 hb) (by simp only [Bool.and_eq_true, bne_iff_ne]; exact hd.2) hL⟩
theorem lw_made2 (hd : (k2 != i2 && m2 != i2 && (i2 != i && i2 != k)) = true) (h : lwS w9 T U i k m z i2 k2 m2 z2 x L q) (hL : L i2 = false := by assumption) : lwS w9 T U i k m z i2 k2 m2 z2 (updX x i2 (.pointer (some ⟨q.heap.size, 0, none⟩))) (updL L i2) (q.alloc (.cells z2 U)) := by
 simp only [Bool.and_eq_true, bne_iff_ne] at hd
 have hb : Below q.heap.size q (q.alloc (.cells z2 U)) := (Below.refl _ _).alloc (Nat.le_refl _) _
 exact ⟨h.1.trans (hb.mono h.1.size), bk_pure (bk_below h.2.1 hb) (by simp only [Bool.and_eq_true, bne_iff_ne]; exact hd.2) hL, bk_made h.2.2 hL hd.1.1 hd.1.2 h.1.size⟩
theorem lw_store1 {g : Nat} {a : Array Value} (hd : (k != i && k != m && (k != i2 && k != k2)) = true) (h : lwS w9 T U i k m z i2 k2 m2 z2 x L q) (hi : L i = true) (hm : L m = true) (h1 : x i = .pointer (some ⟨g, 0, none⟩)) (h2 : w9.heap.size ≤ g) (h3 : Lies q g T z) (hv : x m = .agg a) (hTU : U ≠ T) (hL : L k = false := by assumption) : lwS w9 T U i k m z i2 k2 m2 z2 (updX x k v) (updL L k) (q.setRow g a) := by
 simp only [Bool.and_eq_true, bne_iff_ne] at hd
 have hk := kept_rowS (w := q) (g := g) (S := fun i => i = g) a rfl
 exact ⟨h.1.trans (hk.below h.1.size (fun i hi (e : i = g) => by omega)), bk_store hi hm hd.1.1 hd.1.2 h1 h2 h3 hv, bk_pure (bk_kept h.2.2 hk (fun g2 a2 hl (e : g2 = g) => by subst e; exact hTU (hl.same h3).1)) (by simp only [Bool.and_eq_true, bne_iff_ne]; exact hd.2) hL⟩
theorem lw_store2 {g : Nat} {a : Array Value} (hd : (k2 != i2 && k2 != m2 && (k2 != i && k2 != k)) = true) (h : lwS w9 T U i k m z i2 k2 m2 z2 x L q) (hi : L i2 = true) (hm : L m2 = true) (h1 : x i2 = .pointer (some ⟨g, 0, none⟩)) (h2 : w9.heap.size ≤ g) (h3 : Lies q g U z2) (hv : x m2 = .agg a) (hTU : T ≠ U) (hL : L k2 = false := by assumption) : lwS w9 T U i k m z i2 k2 m2 z2 (updX x k2 v) (updL L k2) (q.setRow g a) := by
 simp only [Bool.and_eq_true, bne_iff_ne] at hd
 have hk := kept_rowS (w := q) (g := g) (S := fun i => i = g) a rfl
 exact ⟨h.1.trans (hk.below h.1.size (fun i hi (e : i = g) => by omega)), bk_pure (bk_kept h.2.1 hk (fun g2 a2 hl (e : g2 = g) => by subst e; exact hTU (hl.same h3).1)) (by simp only [Bool.and_eq_true, bne_iff_ne]; exact hd.2) hL, bk_store hi hm hd.1.1 hd.1.2 h1 h2 h3 hv⟩
end
theorem lw_op {w9 : World} {T U : TypeId} {ia k m : Nat} {z : Array Value} {i2 k2 m2 : Nat} {z2 : Array Value} {x : Nat → Value} {L : Nat → Bool} {q : World} {i : Nat} {v : Value} (hj : (i != ia && i != k && (i != i2 && i != k2)) = true) (h : lwS w9 T U ia k m z i2 k2 m2 z2 x L q) (hL : L i = false := by assumption) : lwS w9 T U ia k m z i2 k2 m2 z2 (updX x i v) (updL L i) q := lw_pure hj h hL
theorem seqS_nil (w : World) (x : Th) (h : x.sn = []) : SeqS w 1 (.slice none x.sn.length 0) x.sn.length (cells64 x.sn) := by
 rw [h]; exact SeqS.of_owns (World.ownsRow_nil w 0 37 1)
def askF (f : Fb) (t : Nat) : Ak := (nxZ (codeN f t) (thrN f t)).2.1
structure ThrC (w : World) (F qb qo T n d ct : Nat) (A : Option Addr) (c t : Nat) (l : List In) (x : Th) : Prop where
 c1 : w.cell? ⟨F, 1, none⟩ = some (.slice (some ⟨qb, qo, none⟩) n d)
 c2 : w.cell? ⟨F, 2, none⟩ = some (.slice (some ⟨T, 0, none⟩) n ct)
 cq : w.cell? ⟨qb, qo + t, none⟩ = some (.slice A l.length c)
 ins : InsAt w A c l
 cx : ∀ (j : Nat) (u : Value), j < 14 → (thN x)[j]? = some u → w.cell? ⟨T, t * 14 + j, none⟩ = some u
section
variable {w w' : World} {B F : Nat} {f : Fb} {z : Fv}
theorem FabAt.thrC (h : FabAt w B F f z) (ok : FbOk f) {t : Nat} (ht : t < f.p.ts.length) : ∃ qb qo A c T ct, f.p.ts.length ≤ ct ∧ ct ≤ 9223372036854775807 ∧ f.p.ts.length ≤ z.d ∧ z.d ≤ 9223372036854775807 ∧
  ∀ w2, Below w.heap.size w w2 → ThrC w2 F qb qo T f.p.ts.length z.d ct A c t (codeN f t) (thrN f t) := by
 obtain ⟨qb, qo, A, c, T, ct, e1, e2, a1, a2, a3, a4, hT, hB, HC⟩ := h.thr ok ht
 refine ⟨qb, qo, A, c, T, ct, a1, a2, a3, a4, fun w2 hb => ?_⟩
 obtain ⟨g1, g2, g3⟩ := HC w2 hb
 obtain ⟨c0, c1, c2, _⟩ := (h.later hb).cells
 rw [e1] at c1
 rw [e2] at c2
 exact ⟨c1, c2, g1, g2, g3⟩
set_option maxHeartbeats 8000000 in
set_option maxRecDepth 100000 in
theorem fbAsk (t : Nat) (ht : t < f.p.ts.length) (h : FabAt w B F f z) (ok : FbOk f) : Calls Tryz.prog 48 #[.pointer (some ⟨F, 0, none⟩), .int .i64 (t : Int)] w fun q w' => q = .returned (.agg (akC (askF f t))) ∧ Below w.heap.size w w' := by
 have hb := (Below.refl w.heap.size w).alloc (Nat.le_refl _) (.cells akZ 63)
 have lb := Lies.made w 63 akZ
 have h1 := h.later hb
 obtain ⟨qb, qo, A, c, T, ct, a1, a2, a3, a4, hC⟩ := h1.thrC ok ht
 obtain ⟨k1, k2, k3, k4, k5⟩ := thr_get ok ht
 obtain ⟨l, hl⟩ : ∃ l, codeN f t = l := ⟨_, rfl⟩
 obtain ⟨x, hx⟩ : ∃ x, thrN f t = x := ⟨_, rfl⟩
 obtain ⟨n, hn⟩ : ∃ n, f.p.ts.length = n := ⟨_, rfl⟩
 obtain ⟨d, hd⟩ : ∃ d, z.d = d := ⟨_, rfl⟩
 rw [hl, hx, hn, hd] at hC
 rw [hn] at a1 a3 ht
 rw [hd] at a3 a4
 rw [hx] at k3 k4
 rw [hl] at k5
 have HC := Lib.hid hC
 have KX := Lib.hid (And.intro k3 k4)
 have KI := Lib.hid k5
 have HAF : Hid (askF f t = (nxZ l x).2.1) := by show (nxZ (codeN f t) (thrN f t)).2.1 = _; rw [hl, hx]
 have HB := Lib.hid hb
 have LB := Lib.hid lb
 have hti : (t : Int) < (n : Int) := by omega
 have hlf := h1.lt
 have hF : F ≠ w.heap.size := by have := h.lt; omega
 clear hC k1 k2 k3 k4 k5 hl hx hn hd hb lb h1 h ok
 go_enter Tryz.func48, Tryz.ntmps48
 go_upto_region 1 with (fail)
 generalize w.alloc (.cells akZ 63) = w1 at *
 obtain ⟨zt, hzt⟩ : ∃ u, (nxZ l x).1 = u := ⟨_, rfl⟩
 obtain ⟨za, hza⟩ : ∃ u, (nxZ l x).2.1 = u := ⟨_, rfl⟩
 obtain ⟨er, her⟩ : ∃ u, (nxZ l x).2.2 = u := ⟨_, rfl⟩
 have hnz : nxZ l x = (zt, za, er) := by rw [← hzt, ← hza, ← her]
 have DOC : Hid (∀ q, Below w1.heap.size w1 q → Calls Tryz.prog 76 #[.slice A l.length c, .agg (thC x (.slice none 0 0))] q (NxPost (zt, za, er) q)) := fun q hq => by
  rw [← hnz]
  have := nextU l A c x none 0 q (HC.out q hq).ins KI.out KX.out.1 (seqS_nil q x KX.out.2) (by rw [KX.out.2]; decide)
  rw [KX.out.2] at this
  exact this
 rw [hza] at HAF
 clear hzt hza her hnz
 refine wp_region_relyx (lwS w1 73 63 20 22 17 thZ 21 23 18 akZ) (fkV w1.heap.size [.eq (.pointer (some ⟨F, 0, none⟩)), .eq (.pointer (some ⟨F, 0, none⟩)), .eq (.pointer (some ⟨F, 0, none⟩)), .eq (.pointer (some ⟨F, 1, none⟩)), .eq (.slice (some ⟨qb, qo, none⟩) n d), .eq (.int .i64 (t : Int)), .eq (.pointer (some ⟨qb, qo + t, none⟩)), .eq (.slice A l.length c), .eq (.pointer (some ⟨F, 0, none⟩)), .eq (.pointer (some ⟨F, 0, none⟩)), .eq (.pointer (some ⟨F, 2, none⟩)), .eq (.slice (some ⟨T, 0, none⟩) n ct), .eq (.int .i64 (t : Int)), .eq (.pointer (some ⟨T, t * 14, none⟩)), .eq (.agg (thC x (.slice none 0 0))), .tup zt [.agg (akC za), .int .i64 er], .tup zt [.agg (akC za), .int .i64 er], .st zt, .eq (.agg (akC za)), .eq (.int .i64 er), .any, .any, .any, .any, .eq (.int .i64 er)]) [some 9, some 10, some 11, some 12, some 13, some 14, some 15, some 16, some 17, some 18, some 19, some 20, some 21, some 22, some 23, some 24, some 8, some 25, some 26, some 27, some 5, some 6, none, none, some 7] [[], [0], [1], [2], [3], [], [4, 5], [6], [], [8], [9], [10], [], [11, 12], [13], [7, 14], [15], [16], [16], [16], [], [], [20, 17], [21, 18], [19]] [[], [0], [0, 1], [1, 2], [2, 3], [], [3, 4, 5], [4, 5, 6], [], [8], [8, 9], [9, 10], [], [10, 11, 12], [11, 12, 13], [6, 7, 13, 14], [7, 14, 15], [15], [15, 22], [15, 22, 23], [], [], [0, 1, 2, 3, 4, 5, 6, 7, 8, 9, 10, 11, 12, 13, 14, 15, 20], [0, 1, 2, 3, 4, 5, 6, 7, 8, 9, 10, 11, 12, 13, 14, 15, 20, 21, 22], [0, 1, 2, 3, 4, 5, 6, 7, 8, 9, 10, 11, 12, 13, 14, 15, 16, 19, 20, 21, 22, 23]] [[2, 3, 4, 5, 6, 7, 8, 9, 10, 11, 12, 13, 14, 15, 16, 17, 18, 19, 20, 21], [3, 4, 5, 6, 7, 8, 9, 10, 11, 12, 13, 14, 15, 16, 17, 18, 19, 20, 21], [4, 5, 6, 7, 8, 9, 10, 11, 12, 13, 14, 15, 16, 17, 18, 19, 20, 21], [5, 6, 7, 8, 9, 10, 11, 12, 13, 14, 15, 16, 17, 18, 19, 20, 21], [0, 5, 7, 8, 9, 10, 11, 12, 13, 14, 15, 16, 17, 18, 19, 20, 21], [0, 1, 2, 3, 4, 7, 8, 9, 10, 11, 12, 13, 14, 15, 16, 17, 18, 19, 20, 21], [0, 1, 8, 9, 10, 11, 12, 13, 14, 15, 16, 17, 18, 19, 20, 21], [0, 1, 2, 8, 9, 10, 11, 12, 13, 14, 16, 17, 18, 19, 20, 21], [0, 1, 2, 3, 4, 5, 6, 7, 10, 11, 12, 13, 14, 15, 16, 17, 18, 19, 20, 21], [0, 1, 2, 3, 4, 5, 6, 7, 11, 12, 13, 14, 15, 16, 17, 18, 19, 20, 21], [0, 1, 2, 3, 4, 5, 6, 7, 12, 13, 14, 15, 16, 17, 18, 19, 20, 21], [0, 1, 2, 3, 4, 5, 6, 7, 12, 14, 15, 16, 17, 18, 19, 20, 21], [0, 1, 2, 3, 4, 5, 6, 7, 8, 9, 10, 11, 14, 15, 16, 17, 18, 19, 20, 21], [0, 1, 2, 3, 4, 5, 6, 7, 8, 15, 16, 17, 18, 19, 20, 21], [0, 1, 2, 3, 4, 5, 6, 7, 8, 9, 16, 17, 18, 19, 20, 21], [0, 1, 2, 3, 8, 9, 10, 17, 18, 19, 20, 21], [0, 1, 2, 3, 4, 5, 8, 9, 10, 11, 12, 20, 21], [0, 1, 2, 3, 4, 5, 6, 8, 9, 10, 11, 12, 13, 16, 18, 19, 20, 21], [0, 1, 2, 3, 4, 5, 6, 8, 9, 10, 11, 12, 13, 16, 17, 19, 20, 21], [0, 1, 2, 3, 4, 5, 6, 8, 9, 10, 11, 12, 13, 16, 17, 18, 20, 21], [0, 1, 2, 3, 4, 5, 6, 7, 8, 9, 10, 11, 12, 13, 14, 15, 16, 17, 18, 19, 21], [0, 1, 2, 3, 4, 5, 6, 7, 8, 9, 10, 11, 12, 13, 14, 15, 16, 17, 18, 19, 20], [16, 17, 18, 19, 21], [16, 17, 18, 19], [17, 18]] [0, 1, 2, 3, 4, 5, 6, 7, 8, 9, 10, 11, 12, 13, 14, 15, 16, 17, 18, 19, 20, 21, 22, 23, 24] 25 (by kernel_rfl) (by kernel_rfl) (by kernel_rfl) (by kernel_rfl) ?rS (fun j h1 h2 => absurd (Nat.lt_of_lt_of_le h1 (Nat.le_trans (by decide) h2)) (Nat.lt_irrefl _)) ?rT ?rE
 case rS => exact lw_start
 case rT =>
  refine RelyStepsX.cons (RelyStepX.mk [] [2, 3, 4, 5, 6, 7, 8, 9, 10, 11, 12, 13, 14, 15, 16, 17, 18, 19, 20, 21] rfl rfl rfl (fun xv Lv wS hS hL hLd hV bq hb K hK => ?_)) ?_
  ·clear hV
   simp only [putsOf, List.foldl_cons, List.foldl_nil, List.getD_cons_zero, List.getD_cons_succ, List.getD_nil, cond_true, cond_false, Act.put, List.setIfInBounds_toArray, List.set_cons_zero, List.set_cons_succ] at hb
   subst hb
   rw [if_pos (by rfl)]
   go_wp2_with fail
   exact hK.out _ _ ⟨_, rfl, lw_op (i := 0) rfl hS, rfl, AllPX.same _⟩
  refine RelyStepsX.cons (RelyStepX.mk [0] [3, 4, 5, 6, 7, 8, 9, 10, 11, 12, 13, 14, 15, 16, 17, 18, 19, 20, 21] rfl rfl rfl (fun xv Lv wS hS hL hLd hV bq hb K hK => ?_)) ?_
  ·obtain ⟨h0, _⟩ := hV
   have h0 : xv 0 = _ := h0
   simp only [putsOf, List.foldl_cons, List.foldl_nil, List.getD_cons_zero, List.getD_cons_succ, List.getD_nil, cond_true, cond_false, Act.put, List.setIfInBounds_toArray, List.set_cons_zero, List.set_cons_succ, h0] at hb
   clear h0
   subst hb
   rw [if_pos (by rfl)]
   go_wp2_with fail
   exact hK.out _ _ ⟨_, rfl, lw_op (i := 1) rfl hS, rfl, AllPX.same _⟩
  refine RelyStepsX.cons (RelyStepX.mk [1] [4, 5, 6, 7, 8, 9, 10, 11, 12, 13, 14, 15, 16, 17, 18, 19, 20, 21] rfl rfl rfl (fun xv Lv wS hS hL hLd hV bq hb K hK => ?_)) ?_
  ·obtain ⟨h1, _⟩ := hV
   have h1 : xv 1 = _ := h1
   simp only [putsOf, List.foldl_cons, List.foldl_nil, List.getD_cons_zero, List.getD_cons_succ, List.getD_nil, cond_true, cond_false, Act.put, List.setIfInBounds_toArray, List.set_cons_zero, List.set_cons_succ, h1] at hb
   clear h1
   subst hb
   rw [if_pos (by rfl)]
   go_wp2_with fail
   exact hK.out _ _ ⟨_, rfl, lw_op (i := 2) rfl hS, rfl, AllPX.same _⟩
  refine RelyStepsX.cons (RelyStepX.mk [2] [5, 6, 7, 8, 9, 10, 11, 12, 13, 14, 15, 16, 17, 18, 19, 20, 21] rfl rfl rfl (fun xv Lv wS hS hL hLd hV bq hb K hK => ?_)) ?_
  ·obtain ⟨h2, _⟩ := hV
   have h2 : xv 2 = _ := h2
   simp only [putsOf, List.foldl_cons, List.foldl_nil, List.getD_cons_zero, List.getD_cons_succ, List.getD_nil, cond_true, cond_false, Act.put, List.setIfInBounds_toArray, List.set_cons_zero, List.set_cons_succ, h2] at hb
   clear h2
   subst hb
   rw [if_pos (by rfl)]
   go_wp2_with fail
   exact hK.out _ _ ⟨_, rfl, lw_op (i := 3) rfl hS, rfl, AllPX.same _⟩
  refine RelyStepsX.cons (RelyStepX.mk [3] [0, 5, 7, 8, 9, 10, 11, 12, 13, 14, 15, 16, 17, 18, 19, 20, 21] rfl rfl rfl (fun xv Lv wS hS hL hLd hV bq hb K hK => ?_)) ?_
  ·obtain ⟨h3, _⟩ := hV
   have h3 : xv 3 = _ := h3
   simp only [putsOf, List.foldl_cons, List.foldl_nil, List.getD_cons_zero, List.getD_cons_succ, List.getD_nil, cond_true, cond_false, Act.put, List.setIfInBounds_toArray, List.set_cons_zero, List.set_cons_succ, h3] at hb
   clear h3
   subst hb
   rw [if_pos (by rfl)]
   (have X4 := (HC.out _ hS.1).c1)
   go_wp2_with fail
   exact hK.out _ _ ⟨_, rfl, lw_op (i := 4) rfl hS, rfl, AllPX.same _⟩
  refine RelyStepsX.cons (RelyStepX.mk [] [0, 1, 2, 3, 4, 7, 8, 9, 10, 11, 12, 13, 14, 15, 16, 17, 18, 19, 20, 21] rfl rfl rfl (fun xv Lv wS hS hL hLd hV bq hb K hK => ?_)) ?_
  ·clear hV
   simp only [putsOf, List.foldl_cons, List.foldl_nil, List.getD_cons_zero, List.getD_cons_succ, List.getD_nil, cond_true, cond_false, Act.put, List.setIfInBounds_toArray, List.set_cons_zero, List.set_cons_succ] at hb
   subst hb
   rw [if_pos (by rfl)]
   go_wp2_with fail
   exact hK.out _ _ ⟨_, rfl, lw_op (i := 5) rfl hS, rfl, AllPX.same _⟩
  refine RelyStepsX.cons (RelyStepX.mk [4, 5] [0, 1, 8, 9, 10, 11, 12, 13, 14, 15, 16, 17, 18, 19, 20, 21] rfl rfl rfl (fun xv Lv wS hS hL hLd hV bq hb K hK => ?_)) ?_
  ·obtain ⟨h4, h5, _⟩ := hV
   have h4 : xv 4 = _ := h4
   have h5 : xv 5 = _ := h5
   simp only [putsOf, List.foldl_cons, List.foldl_nil, List.getD_cons_zero, List.getD_cons_succ, List.getD_nil, cond_true, cond_false, Act.put, List.setIfInBounds_toArray, List.set_cons_zero, List.set_cons_succ, h4, h5] at hb
   clear h4
   clear h5
   subst hb
   rw [if_pos (by rfl)]
   go_wp2_with fail
   exact hK.out _ _ ⟨_, rfl, lw_op (i := 6) rfl hS, rfl, AllPX.same _⟩
  refine RelyStepsX.cons (RelyStepX.mk [6] [0, 1, 2, 8, 9, 10, 11, 12, 13, 14, 16, 17, 18, 19, 20, 21] rfl rfl rfl (fun xv Lv wS hS hL hLd hV bq hb K hK => ?_)) ?_
  ·obtain ⟨h6, _⟩ := hV
   have h6 : xv 6 = _ := h6
   simp only [putsOf, List.foldl_cons, List.foldl_nil, List.getD_cons_zero, List.getD_cons_succ, List.getD_nil, cond_true, cond_false, Act.put, List.setIfInBounds_toArray, List.set_cons_zero, List.set_cons_succ, h6] at hb
   clear h6
   subst hb
   rw [if_pos (by rfl)]
   (have X7 := (HC.out _ hS.1).cq)
   go_wp2_with fail
   exact hK.out _ _ ⟨_, rfl, lw_op (i := 7) rfl hS, rfl, AllPX.same _⟩
  refine RelyStepsX.cons (RelyStepX.mk [] [0, 1, 2, 3, 4, 5, 6, 7, 10, 11, 12, 13, 14, 15, 16, 17, 18, 19, 20, 21] rfl rfl rfl (fun xv Lv wS hS hL hLd hV bq hb K hK => ?_)) ?_
  ·clear hV
   simp only [putsOf, List.foldl_cons, List.foldl_nil, List.getD_cons_zero, List.getD_cons_succ, List.getD_nil, cond_true, cond_false, Act.put, List.setIfInBounds_toArray, List.set_cons_zero, List.set_cons_succ] at hb
   subst hb
   rw [if_pos (by rfl)]
   go_wp2_with fail
   exact hK.out _ _ ⟨_, rfl, lw_op (i := 8) rfl hS, rfl, AllPX.same _⟩
  refine RelyStepsX.cons (RelyStepX.mk [8] [0, 1, 2, 3, 4, 5, 6, 7, 11, 12, 13, 14, 15, 16, 17, 18, 19, 20, 21] rfl rfl rfl (fun xv Lv wS hS hL hLd hV bq hb K hK => ?_)) ?_
  ·obtain ⟨h8, _⟩ := hV
   have h8 : xv 8 = _ := h8
   simp only [putsOf, List.foldl_cons, List.foldl_nil, List.getD_cons_zero, List.getD_cons_succ, List.getD_nil, cond_true, cond_false, Act.put, List.setIfInBounds_toArray, List.set_cons_zero, List.set_cons_succ, h8] at hb
   clear h8
   subst hb
   rw [if_pos (by rfl)]
   go_wp2_with fail
   exact hK.out _ _ ⟨_, rfl, lw_op (i := 9) rfl hS, rfl, AllPX.same _⟩
  refine RelyStepsX.cons (RelyStepX.mk [9] [0, 1, 2, 3, 4, 5, 6, 7, 12, 13, 14, 15, 16, 17, 18, 19, 20, 21] rfl rfl rfl (fun xv Lv wS hS hL hLd hV bq hb K hK => ?_)) ?_
  ·obtain ⟨h9, _⟩ := hV
   have h9 : xv 9 = _ := h9
   simp only [putsOf, List.foldl_cons, List.foldl_nil, List.getD_cons_zero, List.getD_cons_succ, List.getD_nil, cond_true, cond_false, Act.put, List.setIfInBounds_toArray, List.set_cons_zero, List.set_cons_succ, h9] at hb
   clear h9
   subst hb
   rw [if_pos (by rfl)]
   go_wp2_with fail
   exact hK.out _ _ ⟨_, rfl, lw_op (i := 10) rfl hS, rfl, AllPX.same _⟩
  refine RelyStepsX.cons (RelyStepX.mk [10] [0, 1, 2, 3, 4, 5, 6, 7, 12, 14, 15, 16, 17, 18, 19, 20, 21] rfl rfl rfl (fun xv Lv wS hS hL hLd hV bq hb K hK => ?_)) ?_
  ·obtain ⟨h10, _⟩ := hV
   have h10 : xv 10 = _ := h10
   simp only [putsOf, List.foldl_cons, List.foldl_nil, List.getD_cons_zero, List.getD_cons_succ, List.getD_nil, cond_true, cond_false, Act.put, List.setIfInBounds_toArray, List.set_cons_zero, List.set_cons_succ, h10] at hb
   clear h10
   subst hb
   rw [if_pos (by rfl)]
   (have X11 := (HC.out _ hS.1).c2)
   go_wp2_with fail
   exact hK.out _ _ ⟨_, rfl, lw_op (i := 11) rfl hS, rfl, AllPX.same _⟩
  refine RelyStepsX.cons (RelyStepX.mk [] [0, 1, 2, 3, 4, 5, 6, 7, 8, 9, 10, 11, 14, 15, 16, 17, 18, 19, 20, 21] rfl rfl rfl (fun xv Lv wS hS hL hLd hV bq hb K hK => ?_)) ?_
  ·clear hV
   simp only [putsOf, List.foldl_cons, List.foldl_nil, List.getD_cons_zero, List.getD_cons_succ, List.getD_nil, cond_true, cond_false, Act.put, List.setIfInBounds_toArray, List.set_cons_zero, List.set_cons_succ] at hb
   subst hb
   rw [if_pos (by rfl)]
   go_wp2_with fail
   exact hK.out _ _ ⟨_, rfl, lw_op (i := 12) rfl hS, rfl, AllPX.same _⟩
  refine RelyStepsX.cons (RelyStepX.mk [11, 12] [0, 1, 2, 3, 4, 5, 6, 7, 8, 15, 16, 17, 18, 19, 20, 21] rfl rfl rfl (fun xv Lv wS hS hL hLd hV bq hb K hK => ?_)) ?_
  ·obtain ⟨h11, h12, _⟩ := hV
   have h11 : xv 11 = _ := h11
   have h12 : xv 12 = _ := h12
   simp only [putsOf, List.foldl_cons, List.foldl_nil, List.getD_cons_zero, List.getD_cons_succ, List.getD_nil, cond_true, cond_false, Act.put, List.setIfInBounds_toArray, List.set_cons_zero, List.set_cons_succ, h11, h12] at hb
   clear h11
   clear h12
   subst hb
   rw [if_pos (by rfl)]
   go_wp2_with fail
   exact hK.out _ _ ⟨_, rfl, lw_op (i := 13) rfl hS, rfl, AllPX.same _⟩
  refine RelyStepsX.cons (RelyStepX.mk [13] [0, 1, 2, 3, 4, 5, 6, 7, 8, 9, 16, 17, 18, 19, 20, 21] rfl rfl rfl (fun xv Lv wS hS hL hLd hV bq hb K hK => ?_)) ?_
  ·obtain ⟨h13, _⟩ := hV
   have h13 : xv 13 = _ := h13
   simp only [putsOf, List.foldl_cons, List.foldl_nil, List.getD_cons_zero, List.getD_cons_succ, List.getD_nil, cond_true, cond_false, Act.put, List.setIfInBounds_toArray, List.set_cons_zero, List.set_cons_succ, h13] at hb
   clear h13
   subst hb
   rw [if_pos (by rfl)]
   (have Y0 := (HC.out _ hS.1).cx 0 _ (by decide) rfl; have Y1 := (HC.out _ hS.1).cx 1 _ (by decide) rfl; have Y2 := (HC.out _ hS.1).cx 2 _ (by decide) rfl; have Y3 := (HC.out _ hS.1).cx 3 _ (by decide) rfl; have Y4 := (HC.out _ hS.1).cx 4 _ (by decide) rfl; have Y5 := (HC.out _ hS.1).cx 5 _ (by decide) rfl; have Y6 := (HC.out _ hS.1).cx 6 _ (by decide) rfl; have Y7 := (HC.out _ hS.1).cx 7 _ (by decide) rfl; have Y8 := (HC.out _ hS.1).cx 8 _ (by decide) rfl; have Y9 := (HC.out _ hS.1).cx 9 _ (by decide) rfl; have Y10 := (HC.out _ hS.1).cx 10 _ (by decide) rfl; have Y11 := (HC.out _ hS.1).cx 11 _ (by decide) rfl; have Y12 := (HC.out _ hS.1).cx 12 _ (by decide) rfl; have Y13 := (HC.out _ hS.1).cx 13 _ (by decide) rfl; rw [Nat.add_zero] at Y0)
   go_wp2_with fail
   exact hK.out _ _ ⟨_, rfl, lw_op (i := 14) rfl hS, rfl, AllPX.same _⟩
  refine RelyStepsX.cons (RelyStepX.mk [7, 14] [0, 1, 2, 3, 8, 9, 10, 17, 18, 19, 20, 21] rfl rfl rfl (fun xv Lv wS hS hL hLd hV bq hb K hK => ?_)) ?_
  ·obtain ⟨h7, h14, _⟩ := hV
   have h7 : xv 7 = _ := h7
   have h14 : xv 14 = _ := h14
   simp only [putsOf, List.foldl_cons, List.foldl_nil, List.getD_cons_zero, List.getD_cons_succ, List.getD_nil, cond_true, cond_false, Act.put, List.setIfInBounds_toArray, List.set_cons_zero, List.set_cons_succ, h7, h14] at hb
   clear h7
   clear h14
   subst hb
   rw [if_pos (by rfl)]
   have HSS := Lib.hid hS
   clear hS
   have HROW := Lib.hid trivial
   go_wp2_with fail
   refine (DOC.out wS HSS.out.1).mono ?_
   rintro e w' ⟨u, rfl, ho, hbm⟩
   exact hK.out _ _ ⟨_, rfl, lw_below rfl HSS.out hbm, ⟨u, rfl, ownTh_mono ho (lw_le HSS.out)⟩, AllPX.of _ (fun j _ _ h => fkV_below hbm h)⟩
  refine RelyStepsX.cons (RelyStepX.mk [15] [0, 1, 2, 3, 4, 5, 8, 9, 10, 11, 12, 20, 21] rfl rfl rfl (fun xv Lv wS hS hL hLd hV bq hb K hK => ?_)) ?_
  ·obtain ⟨h15, _⟩ := hV
   simp only [putsOf, List.foldl_cons, List.foldl_nil, List.getD_cons_zero, List.getD_cons_succ, List.getD_nil, cond_true, cond_false, Act.put, List.setIfInBounds_toArray, List.set_cons_zero, List.set_cons_succ] at hb
   generalize hy15 : xv 15 = y15 at *
   subst hb
   rw [if_pos (by rfl)]
   have HSS := Lib.hid hS
   clear hS
   obtain ⟨u1, rfl, ho⟩ := h15
   go_wp2_with fail
   exact hK.out _ _ ⟨_, rfl, lw_pure rfl HSS.out, ⟨u1, rfl, ho⟩, AllPX.same _⟩
  refine RelyStepsX.cons (RelyStepX.mk [16] [0, 1, 2, 3, 4, 5, 6, 8, 9, 10, 11, 12, 13, 16, 18, 19, 20, 21] rfl rfl rfl (fun xv Lv wS hS hL hLd hV bq hb K hK => ?_)) ?_
  ·obtain ⟨h16, _⟩ := hV
   simp only [putsOf, List.foldl_cons, List.foldl_nil, List.getD_cons_zero, List.getD_cons_succ, List.getD_nil, cond_true, cond_false, Act.put, List.setIfInBounds_toArray, List.set_cons_zero, List.set_cons_succ] at hb
   generalize hy16 : xv 16 = y16 at *
   subst hb
   rw [if_pos (by rfl)]
   have HSS := Lib.hid hS
   clear hS
   obtain ⟨u1, rfl, ho⟩ := h16
   go_wp2_with fail
   exact hK.out _ _ ⟨_, rfl, lw_pure rfl HSS.out, ho, AllPX.same _⟩
  refine RelyStepsX.cons (RelyStepX.mk [16] [0, 1, 2, 3, 4, 5, 6, 8, 9, 10, 11, 12, 13, 16, 17, 19, 20, 21] rfl rfl rfl (fun xv Lv wS hS hL hLd hV bq hb K hK => ?_)) ?_
  ·obtain ⟨h16, _⟩ := hV
   simp only [putsOf, List.foldl_cons, List.foldl_nil, List.getD_cons_zero, List.getD_cons_succ, List.getD_nil, cond_true, cond_false, Act.put, List.setIfInBounds_toArray, List.set_cons_zero, List.set_cons_succ] at hb
   generalize hy16 : xv 16 = y16 at *
   subst hb
   rw [if_pos (by rfl)]
   have HSS := Lib.hid hS
   clear hS
   obtain ⟨u1, rfl, ho⟩ := h16
   go_wp2_with fail
   exact hK.out _ _ ⟨_, rfl, lw_pure rfl HSS.out, rfl, AllPX.same _⟩
  refine RelyStepsX.cons (RelyStepX.mk [16] [0, 1, 2, 3, 4, 5, 6, 8, 9, 10, 11, 12, 13, 16, 17, 18, 20, 21] rfl rfl rfl (fun xv Lv wS hS hL hLd hV bq hb K hK => ?_)) ?_
  ·obtain ⟨h16, _⟩ := hV
   simp only [putsOf, List.foldl_cons, List.foldl_nil, List.getD_cons_zero, List.getD_cons_succ, List.getD_nil, cond_true, cond_false, Act.put, List.setIfInBounds_toArray, List.set_cons_zero, List.set_cons_succ] at hb
   generalize hy16 : xv 16 = y16 at *
   subst hb
   rw [if_pos (by rfl)]
   have HSS := Lib.hid hS
   clear hS
   obtain ⟨u1, rfl, ho⟩ := h16
   go_wp2_with fail
   exact hK.out _ _ ⟨_, rfl, lw_pure rfl HSS.out, rfl, AllPX.same _⟩
  refine RelyStepsX.cons (RelyStepX.mk [] [0, 1, 2, 3, 4, 5, 6, 7, 8, 9, 10, 11, 12, 13, 14, 15, 16, 17, 18, 19, 21] rfl rfl rfl (fun xv Lv wS hS hL hLd hV bq hb K hK => ?_)) ?_
  ·clear hV
   simp only [putsOf, List.foldl_cons, List.foldl_nil, List.getD_cons_zero, List.getD_cons_succ, List.getD_nil, cond_true, cond_false, Act.put, List.setIfInBounds_toArray, List.set_cons_zero, List.set_cons_succ] at hb
   subst hb
   rw [if_pos (by rfl)]
   have HSS := Lib.hid hS
   clear hS
   go_wp2_with fail
   have hbm := (Below.refl wS.heap.size wS).alloc (Nat.le_refl _) (.cells thZ 73)
   exact hK.out _ _ ⟨_, rfl, lw_made1 rfl HSS.out, trivial, AllPX.of _ (fun j _ _ h => fkV_below hbm h)⟩
  refine RelyStepsX.cons (RelyStepX.mk [] [0, 1, 2, 3, 4, 5, 6, 7, 8, 9, 10, 11, 12, 13, 14, 15, 16, 17, 18, 19, 20] rfl rfl rfl (fun xv Lv wS hS hL hLd hV bq hb K hK => ?_)) ?_
  ·clear hV
   simp only [putsOf, List.foldl_cons, List.foldl_nil, List.getD_cons_zero, List.getD_cons_succ, List.getD_nil, cond_true, cond_false, Act.put, List.setIfInBounds_toArray, List.set_cons_zero, List.set_cons_succ] at hb
   subst hb
   rw [if_pos (by rfl)]
   have HSS := Lib.hid hS
   clear hS
   go_wp2_with fail
   have hbm := (Below.refl wS.heap.size wS).alloc (Nat.le_refl _) (.cells akZ 63)
   exact hK.out _ _ ⟨_, rfl, lw_made2 rfl HSS.out, trivial, AllPX.of _ (fun j _ _ h => fkV_below hbm h)⟩
  refine RelyStepsX.cons (RelyStepX.mk [20, 17] [16, 17, 18, 19, 21] rfl rfl rfl (fun xv Lv wS hS hL hLd hV bq hb K hK => ?_)) ?_
  ·obtain ⟨h20, h17, _⟩ := hV
   simp only [putsOf, List.foldl_cons, List.foldl_nil, List.getD_cons_zero, List.getD_cons_succ, List.getD_nil, cond_true, cond_false, Act.put, List.setIfInBounds_toArray, List.set_cons_zero, List.set_cons_succ] at hb
   generalize hy20 : xv 20 = y20 at *
   generalize hy17 : xv 17 = y17 at *
   subst hb
   rw [if_pos (by rfl)]
   have HSS := Lib.hid hS
   clear hS
   obtain ⟨g, hg, hN, hl⟩ := bk_open HSS.out.2.1 (hLd 20 (by decide +kernel)) hL
   rw [hy20] at hg
   subst hg
   obtain ⟨A5, k5, e5, ho5⟩ := h17
   subst e5
   refine wp_store_row _ _ _ rfl g (thC zt (.slice A5 (zt).sn.length k5)) rfl rfl 73 thZ hl infoTh rfl (thC_one _ rfl) ?_
   exact hK.out _ _ ⟨undef, rfl, lw_store1 rfl HSS.out (hLd 20 (by decide +kernel)) (hLd 17 (by decide +kernel)) hy20 hN hl hy17 (by decide), trivial, AllPX.of _ (fun j hj _ h => fkV_row _ hl (all_typ rfl hj) h)⟩
  refine RelyStepsX.cons (RelyStepX.mk [21, 18] [16, 17, 18, 19] rfl rfl rfl (fun xv Lv wS hS hL hLd hV bq hb K hK => ?_)) ?_
  ·obtain ⟨h21, h18, _⟩ := hV
   simp only [putsOf, List.foldl_cons, List.foldl_nil, List.getD_cons_zero, List.getD_cons_succ, List.getD_nil, cond_true, cond_false, Act.put, List.setIfInBounds_toArray, List.set_cons_zero, List.set_cons_succ] at hb
   generalize hy21 : xv 21 = y21 at *
   generalize hy18 : xv 18 = y18 at *
   subst hb
   rw [if_pos (by rfl)]
   have HSS := Lib.hid hS
   clear hS
   obtain ⟨g, hg, hN, hl⟩ := bk_open HSS.out.2.2 (hLd 21 (by decide +kernel)) hL
   rw [hy21] at hg
   subst hg
   have e7 : y18 = .agg (akC za) := h18
   subst e7
   refine wp_store_row _ _ _ rfl g (akC za) rfl rfl 63 akZ hl infoAk rfl (akC_one _) ?_
   exact hK.out _ _ ⟨undef, rfl, lw_store2 rfl HSS.out (hLd 21 (by decide +kernel)) (hLd 18 (by decide +kernel)) hy21 hN hl hy18 (by decide), trivial, AllPX.of _ (fun j hj _ h => fkV_row _ hl (all_typ rfl hj) h)⟩
  refine RelyStepsX.cons (RelyStepX.mk [19] [17, 18] rfl rfl rfl (fun xv Lv wS hS hL hLd hV bq hb K hK => ?_)) ?_
  ·obtain ⟨h19, _⟩ := hV
   have h19 : xv 19 = _ := h19
   simp only [putsOf, List.foldl_cons, List.foldl_nil, List.getD_cons_zero, List.getD_cons_succ, List.getD_nil, cond_true, cond_false, Act.put, List.setIfInBounds_toArray, List.set_cons_zero, List.set_cons_succ, h19] at hb
   clear h19
   subst hb
   rw [if_pos (by rfl)]
   go_wp2_with fail
   exact hK.out _ _ ⟨_, rfl, lw_op (i := 24) rfl hS, rfl, AllPX.same _⟩
  exact RelyStepsX.nil
 case rE =>
  intro xv Lv wE hS hLall hV
  have h17 := hV 17 (by decide) (by decide)
  have h18 := hV 18 (by decide) (by decide)
  have h24 := hV 24 (by decide) (by decide)
  clear hV
  obtain ⟨g1, a1, hx1, hN1, hl1, hv1⟩ := bk_done hS.2.1 (hLall 20 (by decide +kernel)) (hLall 22 (by decide +kernel))
  obtain ⟨g2, a2, hx2, hN2, hl2, hv2⟩ := bk_done hS.2.2 (hLall 21 (by decide +kernel)) (hLall 23 (by decide +kernel))
  simp only [putsOf, List.foldl_cons, List.foldl_nil, List.getD_cons_zero, List.getD_cons_succ, List.getD_nil, cond_true, cond_false, Act.put, List.setIfInBounds_toArray, List.set_cons_zero, List.set_cons_succ]
  have h24 : xv 24 = _ := h24
  rw [h24]; clear h24
  generalize xv 0 = y0 at *
  generalize xv 1 = y1 at *
  generalize xv 2 = y2 at *
  generalize xv 3 = y3 at *
  generalize xv 4 = y4 at *
  generalize xv 5 = y5 at *
  generalize xv 6 = y6 at *
  generalize xv 7 = y7 at *
  generalize xv 8 = y8 at *
  generalize xv 9 = y9 at *
  generalize xv 10 = y10 at *
  generalize xv 11 = y11 at *
  generalize xv 12 = y12 at *
  generalize xv 13 = y13 at *
  generalize xv 14 = y14 at *
  generalize xv 15 = y15 at *
  generalize xv 16 = y16 at *
  generalize xv 17 = y17 at *
  generalize xv 18 = y18 at *
  generalize xv 19 = y19 at *
  generalize xv 20 = y20 at *
  generalize xv 21 = y21 at *
  generalize xv 22 = y22 at *
  generalize xv 23 = y23 at *
  have hbm := hS.1
  subst hx1
  subst hx2
  have e7 : y18 = .agg (akC za) := h18
  rw [hv2] at e7
  injection e7 with e7
  subst e7
  have HL2 := Lib.hid hl2
  have hgw : w.heap.size < w1.heap.size := LB.out.lt
  replace LB := Lib.hid (LB.out.below hbm LB.out.lt)
  replace HB := Lib.hid (HB.out.trans (hbm.mono HB.out.size))
  have hng : g2 ≠ w.heap.size := by omega
  clear hS hbm hLall DOC hv1 hv2 hl1 hl2 h17 h18
  generalize wE = w4 at *
  have z0 := (HL2.out.cell 0).trans (show _ = some (.int .i64 za.kd) from rfl)
  have z1 := (HL2.out.cell 1).trans (show _ = some (.int .i64 za.rg) from rfl)
  have z2 := (HL2.out.cell 2).trans (show _ = some (.int .i64 za.md) from rfl)
  have z3 := (HL2.out.cell 3).trans (show _ = some (.int .i64 za.rd) from rfl)
  have z4 := (HL2.out.cell 4).trans (show _ = some (.int .u64 (za.tk : Int)) from rfl)
  have z5 := (HL2.out.cell 5).trans (show _ = some (.int .u64 (za.vl : Int)) from rfl)
  have zl := HL2.out.lt
  go_wp2_with (refine wpList_store_row rfl 63 _ _ rfl w.heap.size (akC za) rfl rfl 63 akZ LB.out infoAk rfl (akC_one _) ?_)
  have hk5 := kept_rowT (w := w4) (g := w.heap.size) (akC za)
  have hlz := lies_row LB.out (akC za)
  have hbz := HB.out.trans (hk5.below HB.out.size (fun k hk (e : k = w.heap.size) => by omega))
  generalize w4.setRow w.heap.size (akC za) = w5 at *
  have s0 := (hlz.cell 0).trans (show _ = some (Value.int .i64 za.kd) from rfl)
  have s1 := (hlz.cell 1).trans (show _ = some (Value.int .i64 za.rg) from rfl)
  have s2 := (hlz.cell 2).trans (show _ = some (Value.int .i64 za.md) from rfl)
  have s3 := (hlz.cell 3).trans (show _ = some (Value.int .i64 za.rd) from rfl)
  have s4 := (hlz.cell 4).trans (show _ = some (Value.int .u64 (za.tk : Int)) from rfl)
  have s5 := (hlz.cell 5).trans (show _ = some (Value.int .u64 (za.vl : Int)) from rfl)
  exact bodyPost_ret (v := .agg (akC za)) (by simp [results, Tryz.results48, go_sem, s0, s1, s2, s3, s4, s5]) rfl ⟨by rw [HAF.out], hbz⟩
def matF (f : Fb) (e : Ev) : Bool := decide ((doZ (codeN f e.th.toNat) (thrN f e.th.toNat) e 0).2 = 0)
set_option maxHeartbeats 8000000 in
set_option maxRecDepth 100000 in
theorem fbMatches (e : Ev) (t : Nat) (hte : e.th = (t : Int)) (ht : t < f.p.ts.length) (h : FabAt w B F f z) (ok : FbOk f) : Calls Tryz.prog 46 #[.pointer (some ⟨F, 0, none⟩), .agg (evC e)] w fun q w' => q = .returned (.bool (matF f e)) ∧ Below w.heap.size w w' := by
 have hb := (Below.refl w.heap.size w).alloc (Nat.le_refl _) (.cells (evC e) 43)
 have lb := Lies.made w 43 (evC e)
 have h1 := h.later hb
 obtain ⟨qb, qo, A, c, T, ct, a1, a2, a3, a4, hC⟩ := h1.thrC ok ht
 obtain ⟨k1, k2, k3, k4, k5⟩ := thr_get ok ht
 obtain ⟨l, hl⟩ : ∃ l, codeN f t = l := ⟨_, rfl⟩
 obtain ⟨x, hx⟩ : ∃ x, thrN f t = x := ⟨_, rfl⟩
 obtain ⟨n, hn⟩ : ∃ n, f.p.ts.length = n := ⟨_, rfl⟩
 obtain ⟨d, hd⟩ : ∃ d, z.d = d := ⟨_, rfl⟩
 rw [hl, hx, hn, hd] at hC
 rw [hn] at a1 a3 ht
 rw [hd] at a3 a4
 rw [hx] at k3 k4
 rw [hl] at k5
 have HC := Lib.hid hC
 have KX := Lib.hid (And.intro k3 k4)
 have KI := Lib.hid k5
 have HMF : Hid (matF f e = decide ((doZ l x e 0).2 = 0)) := by show decide _ = _; rw [hte, Int.toNat_natCast, hl, hx]
 have HB := Lib.hid hb
 have HTE := Lib.hid hte
 have hti : (t : Int) < (n : Int) := by omega
 have hlf := h1.lt
 obtain ⟨bE, hbE⟩ : ∃ b, w.heap.size = b := ⟨_, rfl⟩
 rw [hbE] at lb
 have hbl := lb.lt
 have LB := Lib.hid lb
 clear hC k1 k2 k3 k4 k5 hl hx hn hd hb lb h1 h ok hte
 go_enter Tryz.func46, Tryz.ntmps46
 go_upto_region 1 with (fail)
 try rw [hbE]
 generalize w.alloc (.cells (evC e) 43) = w1 at *
 have HLE := Lib.hid (fun q (hq : Below w1.heap.size w1 q) => LB.out.below hq LB.out.lt)
 obtain ⟨zt, hzt⟩ : ∃ u, (doZ l x e 0).1 = u := ⟨_, rfl⟩
 obtain ⟨er, her⟩ : ∃ u, (doZ l x e 0).2 = u := ⟨_, rfl⟩
 have hnz : doZ l x e 0 = (zt, er) := by rw [← hzt, ← her]
 have DOC : Hid (∀ q, Below w1.heap.size w1 q → Calls Tryz.prog 73 #[.slice A l.length c, .agg (thC x (.slice none 0 0)), .agg (evC e), .int .u64 0] q (DoPost (zt, er) q)) := fun q hq => by
  rw [← hnz]
  have := doU l A c x none 0 e 0 q (HC.out q hq).ins KI.out KX.out.1 (seqS_nil q x KX.out.2) (by rw [KX.out.2]; decide)
  rw [KX.out.2] at this
  exact this
 rw [her] at HMF
 clear hzt her hnz
 refine wp_region_relyx (lwS w1 73 63 22 23 20 thZ 1000 1001 1002 akZ) (fkV w1.heap.size [.eq (.pointer (some ⟨F, 0, none⟩)), .eq (.pointer (some ⟨F, 0, none⟩)), .eq (.pointer (some ⟨F, 0, none⟩)), .eq (.pointer (some ⟨F, 1, none⟩)), .eq (.slice (some ⟨qb, qo, none⟩) n d), .eq (.pointer (some ⟨bE, 0, none⟩)), .eq (.int .i64 (t : Int)), .eq (.pointer (some ⟨qb, qo + t, none⟩)), .eq (.slice A l.length c), .eq (.pointer (some ⟨F, 0, none⟩)), .eq (.pointer (some ⟨F, 0, none⟩)), .eq (.pointer (some ⟨F, 2, none⟩)), .eq (.slice (some ⟨T, 0, none⟩) n ct), .eq (.pointer (some ⟨bE, 0, none⟩)), .eq (.int .i64 (t : Int)), .eq (.pointer (some ⟨T, t * 14, none⟩)), .eq (.agg (thC x (.slice none 0 0))), .eq (.agg (evC e)), .tup zt [.int .i64 er], .tup zt [.int .i64 er], .st zt, .eq (.int .i64 er), .any, .any, .eq (.int .i64 er)]) [some 8, some 9, some 10, some 11, some 12, some 13, some 14, some 15, some 16, some 17, some 18, some 19, some 20, some 21, some 22, some 23, some 24, some 25, some 26, some 7, some 27, some 28, some 5, none, some 6] [[], [0], [1], [2], [3], [], [5], [4, 6], [7], [], [9], [10], [11], [], [13], [12, 14], [15], [], [8, 16, 17], [18], [19], [19], [], [22, 20], [21]] [[], [0], [0, 1], [1, 2], [2, 3], [], [5], [3, 4, 5, 6], [4, 6, 7], [], [9], [9, 10], [10, 11], [], [13], [11, 12, 13, 14], [12, 14, 15], [], [7, 8, 15, 16, 17], [8, 16, 17, 18], [18], [18, 23], [], [0, 1, 2, 3, 4, 5, 6, 7, 8, 9, 10, 11, 12, 13, 14, 15, 16, 17, 18, 22], [0, 1, 2, 3, 4, 5, 6, 7, 8, 9, 10, 11, 12, 13, 14, 15, 16, 17, 18, 19, 21, 22, 23]] [[2, 3, 4, 5, 6, 7, 8, 9, 10, 11, 12, 13, 14, 15, 16, 17, 18, 19, 20, 21, 22], [3, 4, 5, 6, 7, 8, 9, 10, 11, 12, 13, 14, 15, 16, 17, 18, 19, 20, 21, 22], [4, 5, 6, 7, 8, 9, 10, 11, 12, 13, 14, 15, 16, 17, 18, 19, 20, 21, 22], [5, 6, 7, 8, 9, 10, 11, 12, 13, 14, 15, 16, 17, 18, 19, 20, 21, 22], [0, 5, 6, 8, 9, 10, 11, 12, 13, 14, 15, 16, 17, 18, 19, 20, 21, 22], [0, 1, 2, 3, 4, 7, 8, 9, 10, 11, 12, 13, 14, 15, 16, 17, 18, 19, 20, 21, 22], [0, 1, 2, 3, 4, 8, 9, 10, 11, 12, 13, 14, 15, 16, 17, 18, 19, 20, 21, 22], [0, 1, 9, 10, 11, 12, 13, 14, 15, 16, 17, 18, 19, 20, 21, 22], [0, 1, 2, 9, 10, 11, 12, 13, 14, 15, 16, 17, 19, 20, 21, 22], [0, 1, 2, 3, 4, 5, 6, 7, 8, 11, 12, 13, 14, 15, 16, 17, 18, 19, 20, 21, 22], [0, 1, 2, 3, 4, 5, 6, 7, 8, 12, 13, 14, 15, 16, 17, 18, 19, 20, 21, 22], [0, 1, 2, 3, 4, 5, 6, 7, 8, 13, 14, 15, 16, 17, 18, 19, 20, 21, 22], [0, 1, 2, 3, 4, 5, 6, 7, 8, 13, 14, 16, 17, 18, 19, 20, 21, 22], [0, 1, 2, 3, 4, 5, 6, 7, 8, 9, 10, 11, 12, 15, 16, 17, 18, 19, 20, 21, 22], [0, 1, 2, 3, 4, 5, 6, 7, 8, 9, 10, 11, 12, 16, 17, 18, 19, 20, 21, 22], [0, 1, 2, 3, 4, 5, 6, 7, 8, 9, 17, 18, 19, 20, 21, 22], [0, 1, 2, 3, 4, 5, 6, 7, 8, 9, 10, 17, 19, 20, 21, 22], [0, 1, 2, 3, 4, 5, 6, 7, 8, 9, 10, 11, 12, 13, 14, 15, 16, 19, 20, 21, 22], [0, 1, 2, 3, 5, 9, 10, 11, 13, 20, 21, 22], [0, 1, 2, 3, 4, 5, 6, 9, 10, 11, 12, 13, 14, 22], [0, 1, 2, 3, 4, 5, 6, 7, 9, 10, 11, 12, 13, 14, 15, 19, 21, 22], [0, 1, 2, 3, 4, 5, 6, 7, 9, 10, 11, 12, 13, 14, 15, 19, 20, 22], [0, 1, 2, 3, 4, 5, 6, 7, 8, 9, 10, 11, 12, 13, 14, 15, 16, 17, 18, 19, 20, 21], [19, 20, 21], [20]] [0, 1, 2, 3, 4, 5, 6, 7, 8, 9, 10, 11, 12, 13, 14, 15, 16, 17, 18, 19, 20, 21, 22, 23, 24] 25 (by kernel_rfl) (by kernel_rfl) (by kernel_rfl) (by kernel_rfl) ?rS (fun j h1 h2 => absurd (Nat.lt_of_lt_of_le h1 (Nat.le_trans (by decide) h2)) (Nat.lt_irrefl _)) ?rT ?rE
 case rS => exact lw_start
 case rT =>
  refine RelyStepsX.cons (RelyStepX.mk [] [2, 3, 4, 5, 6, 7, 8, 9, 10, 11, 12, 13, 14, 15, 16, 17, 18, 19, 20, 21, 22] rfl rfl rfl (fun xv Lv wS hS hL hLd hV bq hb K hK => ?_)) ?_
  ·clear hV
   simp only [putsOf, List.foldl_cons, List.foldl_nil, List.getD_cons_zero, List.getD_cons_succ, List.getD_nil, cond_true, cond_false, Act.put, List.setIfInBounds_toArray, List.set_cons_zero, List.set_cons_succ] at hb
   subst hb
   rw [if_pos (by rfl)]
   go_wp2_with fail
   exact hK.out _ _ ⟨_, rfl, lw_op (i := 0) rfl hS, rfl, AllPX.same _⟩
  refine RelyStepsX.cons (RelyStepX.mk [0] [3, 4, 5, 6, 7, 8, 9, 10, 11, 12, 13, 14, 15, 16, 17, 18, 19, 20, 21, 22] rfl rfl rfl (fun xv Lv wS hS hL hLd hV bq hb K hK => ?_)) ?_
  ·obtain ⟨h0, _⟩ := hV
   have h0 : xv 0 = _ := h0
   simp only [putsOf, List.foldl_cons, List.foldl_nil, List.getD_cons_zero, List.getD_cons_succ, List.getD_nil, cond_true, cond_false, Act.put, List.setIfInBounds_toArray, List.set_cons_zero, List.set_cons_succ, h0] at hb
   clear h0
   subst hb
   rw [if_pos (by rfl)]
   go_wp2_with fail
   exact hK.out _ _ ⟨_, rfl, lw_op (i := 1) rfl hS, rfl, AllPX.same _⟩
  refine RelyStepsX.cons (RelyStepX.mk [1] [4, 5, 6, 7, 8, 9, 10, 11, 12, 13, 14, 15, 16, 17, 18, 19, 20, 21, 22] rfl rfl rfl (fun xv Lv wS hS hL hLd hV bq hb K hK => ?_)) ?_
  ·obtain ⟨h1, _⟩ := hV
   have h1 : xv 1 = _ := h1
   simp only [putsOf, List.foldl_cons, List.foldl_nil, List.getD_cons_zero, List.getD_cons_succ, List.getD_nil, cond_true, cond_false, Act.put, List.setIfInBounds_toArray, List.set_cons_zero, List.set_cons_succ, h1] at hb
   clear h1
   subst hb
   rw [if_pos (by rfl)]
   go_wp2_with fail
   exact hK.out _ _ ⟨_, rfl, lw_op (i := 2) rfl hS, rfl, AllPX.same _⟩
  refine RelyStepsX.cons (RelyStepX.mk [2] [5, 6, 7, 8, 9, 10, 11, 12, 13, 14, 15, 16, 17, 18, 19, 20, 21, 22] rfl rfl rfl (fun xv Lv wS hS hL hLd hV bq hb K hK => ?_)) ?_
  ·obtain ⟨h2, _⟩ := hV
   have h2 : xv 2 = _ := h2
   simp only [putsOf, List.foldl_cons, List.foldl_nil, List.getD_cons_zero, List.getD_cons_succ, List.getD_nil, cond_true, cond_false, Act.put, List.setIfInBounds_toArray, List.set_cons_zero, List.set_cons_succ, h2] at hb
   clear h2
   subst hb
   rw [if_pos (by rfl)]
   go_wp2_with fail
   exact hK.out _ _ ⟨_, rfl, lw_op (i := 3) rfl hS, rfl, AllPX.same _⟩
  refine RelyStepsX.cons (RelyStepX.mk [3] [0, 5, 6, 8, 9, 10, 11, 12, 13, 14, 15, 16, 17, 18, 19, 20, 21, 22] rfl rfl rfl (fun xv Lv wS hS hL hLd hV bq hb K hK => ?_)) ?_
  ·obtain ⟨h3, _⟩ := hV
   have h3 : xv 3 = _ := h3
   simp only [putsOf, List.foldl_cons, List.foldl_nil, List.getD_cons_zero, List.getD_cons_succ, List.getD_nil, cond_true, cond_false, Act.put, List.setIfInBounds_toArray, List.set_cons_zero, List.set_cons_succ, h3] at hb
   clear h3
   subst hb
   rw [if_pos (by rfl)]
   (have X4 := (HC.out _ hS.1).c1)
   go_wp2_with fail
   exact hK.out _ _ ⟨_, rfl, lw_op (i := 4) rfl hS, rfl, AllPX.same _⟩
  refine RelyStepsX.cons (RelyStepX.mk [] [0, 1, 2, 3, 4, 7, 8, 9, 10, 11, 12, 13, 14, 15, 16, 17, 18, 19, 20, 21, 22] rfl rfl rfl (fun xv Lv wS hS hL hLd hV bq hb K hK => ?_)) ?_
  ·clear hV
   simp only [putsOf, List.foldl_cons, List.foldl_nil, List.getD_cons_zero, List.getD_cons_succ, List.getD_nil, cond_true, cond_false, Act.put, List.setIfInBounds_toArray, List.set_cons_zero, List.set_cons_succ] at hb
   subst hb
   rw [if_pos (by rfl)]
   go_wp2_with fail
   exact hK.out _ _ ⟨_, rfl, lw_op (i := 5) rfl hS, rfl, AllPX.same _⟩
  refine RelyStepsX.cons (RelyStepX.mk [5] [0, 1, 2, 3, 4, 8, 9, 10, 11, 12, 13, 14, 15, 16, 17, 18, 19, 20, 21, 22] rfl rfl rfl (fun xv Lv wS hS hL hLd hV bq hb K hK => ?_)) ?_
  ·obtain ⟨h5, _⟩ := hV
   have h5 : xv 5 = _ := h5
   simp only [putsOf, List.foldl_cons, List.foldl_nil, List.getD_cons_zero, List.getD_cons_succ, List.getD_nil, cond_true, cond_false, Act.put, List.setIfInBounds_toArray, List.set_cons_zero, List.set_cons_succ, h5] at hb
   clear h5
   subst hb
   rw [if_pos (by rfl)]
   (have X6 := ((HLE.out _ hS.1).cell 0).trans (show _ = some (Value.int .i64 e.th) from rfl); rw [HTE.out] at X6)
   go_wp2_with fail
   exact hK.out _ _ ⟨_, rfl, lw_op (i := 6) rfl hS, rfl, AllPX.same _⟩
  refine RelyStepsX.cons (RelyStepX.mk [4, 6] [0, 1, 9, 10, 11, 12, 13, 14, 15, 16, 17, 18, 19, 20, 21, 22] rfl rfl rfl (fun xv Lv wS hS hL hLd hV bq hb K hK => ?_)) ?_
  ·obtain ⟨h4, h6, _⟩ := hV
   have h4 : xv 4 = _ := h4
   have h6 : xv 6 = _ := h6
   simp only [putsOf, List.foldl_cons, List.foldl_nil, List.getD_cons_zero, List.getD_cons_succ, List.getD_nil, cond_true, cond_false, Act.put, List.setIfInBounds_toArray, List.set_cons_zero, List.set_cons_succ, h4, h6] at hb
   clear h4
   clear h6
   subst hb
   rw [if_pos (by rfl)]
   go_wp2_with fail
   exact hK.out _ _ ⟨_, rfl, lw_op (i := 7) rfl hS, rfl, AllPX.same _⟩
  refine RelyStepsX.cons (RelyStepX.mk [7] [0, 1, 2, 9, 10, 11, 12, 13, 14, 15, 16, 17, 19, 20, 21, 22] rfl rfl rfl (fun xv Lv wS hS hL hLd hV bq hb K hK => ?_)) ?_
  ·obtain ⟨h7, _⟩ := hV
   have h7 : xv 7 = _ := h7
   simp only [putsOf, List.foldl_cons, List.foldl_nil, List.getD_cons_zero, List.getD_cons_succ, List.getD_nil, cond_true, cond_false, Act.put, List.setIfInBounds_toArray, List.set_cons_zero, List.set_cons_succ, h7] at hb
   clear h7
   subst hb
   rw [if_pos (by rfl)]
   (have X7 := (HC.out _ hS.1).cq)
   go_wp2_with fail
   exact hK.out _ _ ⟨_, rfl, lw_op (i := 8) rfl hS, rfl, AllPX.same _⟩
  refine RelyStepsX.cons (RelyStepX.mk [] [0, 1, 2, 3, 4, 5, 6, 7, 8, 11, 12, 13, 14, 15, 16, 17, 18, 19, 20, 21, 22] rfl rfl rfl (fun xv Lv wS hS hL hLd hV bq hb K hK => ?_)) ?_
  ·clear hV
   simp only [putsOf, List.foldl_cons, List.foldl_nil, List.getD_cons_zero, List.getD_cons_succ, List.getD_nil, cond_true, cond_false, Act.put, List.setIfInBounds_toArray, List.set_cons_zero, List.set_cons_succ] at hb
   subst hb
   rw [if_pos (by rfl)]
   go_wp2_with fail
   exact hK.out _ _ ⟨_, rfl, lw_op (i := 9) rfl hS, rfl, AllPX.same _⟩
  refine RelyStepsX.cons (RelyStepX.mk [9] [0, 1, 2, 3, 4, 5, 6, 7, 8, 12, 13, 14, 15, 16, 17, 18, 19, 20, 21, 22] rfl rfl rfl (fun xv Lv wS hS hL hLd hV bq hb K hK => ?_)) ?_
  ·obtain ⟨h9, _⟩ := hV
   have h9 : xv 9 = _ := h9
   simp only [putsOf, List.foldl_cons, List.foldl_nil, List.getD_cons_zero, List.getD_cons_succ, List.getD_nil, cond_true, cond_false, Act.put, List.setIfInBounds_toArray, List.set_cons_zero, List.set_cons_succ, h9] at hb
   clear h9
   subst hb
   rw [if_pos (by rfl)]
   go_wp2_with fail
   exact hK.out _ _ ⟨_, rfl, lw_op (i := 10) rfl hS, rfl, AllPX.same _⟩
  refine RelyStepsX.cons (RelyStepX.mk [10] [0, 1, 2, 3, 4, 5, 6, 7, 8, 13, 14, 15, 16, 17, 18, 19, 20, 21, 22] rfl rfl rfl (fun xv Lv wS hS hL hLd hV bq hb K hK => ?_)) ?_
  ·obtain ⟨h10, _⟩ := hV
   have h10 : xv 10 = _ := h10
   simp only [putsOf, List.foldl_cons, List.foldl_nil, List.getD_cons_zero, List.getD_cons_succ, List.getD_nil, cond_true, cond_false, Act.put, List.setIfInBounds_toArray, List.set_cons_zero, List.set_cons_succ, h10] at hb
   clear h10
   subst hb
   rw [if_pos (by rfl)]
   go_wp2_with fail
   exact hK.out _ _ ⟨_, rfl, lw_op (i := 11) rfl hS, rfl, AllPX.same _⟩
  refine RelyStepsX.cons (RelyStepX.mk [11] [0, 1, 2, 3, 4, 5, 6, 7, 8, 13, 14, 16, 17, 18, 19, 20, 21, 22] rfl rfl rfl (fun xv Lv wS hS hL hLd hV bq hb K hK => ?_)) ?_
  ·obtain ⟨h11, _⟩ := hV
   have h11 : xv 11 = _ := h11
   simp only [putsOf, List.foldl_cons, List.foldl_nil, List.getD_cons_zero, List.getD_cons_succ, List.getD_nil, cond_true, cond_false, Act.put, List.setIfInBounds_toArray, List.set_cons_zero, List.set_cons_succ, h11] at hb
   clear h11
   subst hb
   rw [if_pos (by rfl)]
   (have X11 := (HC.out _ hS.1).c2)
   go_wp2_with fail
   exact hK.out _ _ ⟨_, rfl, lw_op (i := 12) rfl hS, rfl, AllPX.same _⟩
  refine RelyStepsX.cons (RelyStepX.mk [] [0, 1, 2, 3, 4, 5, 6, 7, 8, 9, 10, 11, 12, 15, 16, 17, 18, 19, 20, 21, 22] rfl rfl rfl (fun xv Lv wS hS hL hLd hV bq hb K hK => ?_)) ?_
  ·clear hV
   simp only [putsOf, List.foldl_cons, List.foldl_nil, List.getD_cons_zero, List.getD_cons_succ, List.getD_nil, cond_true, cond_false, Act.put, List.setIfInBounds_toArray, List.set_cons_zero, List.set_cons_succ] at hb
   subst hb
   rw [if_pos (by rfl)]
   go_wp2_with fail
   exact hK.out _ _ ⟨_, rfl, lw_op (i := 13) rfl hS, rfl, AllPX.same _⟩
  refine RelyStepsX.cons (RelyStepX.mk [13] [0, 1, 2, 3, 4, 5, 6, 7, 8, 9, 10, 11, 12, 16, 17, 18, 19, 20, 21, 22] rfl rfl rfl (fun xv Lv wS hS hL hLd hV bq hb K hK => ?_)) ?_
  ·obtain ⟨h13, _⟩ := hV
   have h13 : xv 13 = _ := h13
   simp only [putsOf, List.foldl_cons, List.foldl_nil, List.getD_cons_zero, List.getD_cons_succ, List.getD_nil, cond_true, cond_false, Act.put, List.setIfInBounds_toArray, List.set_cons_zero, List.set_cons_succ, h13] at hb
   clear h13
   subst hb
   rw [if_pos (by rfl)]
   (have X6 := ((HLE.out _ hS.1).cell 0).trans (show _ = some (Value.int .i64 e.th) from rfl); rw [HTE.out] at X6)
   go_wp2_with fail
   exact hK.out _ _ ⟨_, rfl, lw_op (i := 14) rfl hS, rfl, AllPX.same _⟩
  refine RelyStepsX.cons (RelyStepX.mk [12, 14] [0, 1, 2, 3, 4, 5, 6, 7, 8, 9, 17, 18, 19, 20, 21, 22] rfl rfl rfl (fun xv Lv wS hS hL hLd hV bq hb K hK => ?_)) ?_
  ·obtain ⟨h12, h14, _⟩ := hV
   have h12 : xv 12 = _ := h12
   have h14 : xv 14 = _ := h14
   simp only [putsOf, List.foldl_cons, List.foldl_nil, List.getD_cons_zero, List.getD_cons_succ, List.getD_nil, cond_true, cond_false, Act.put, List.setIfInBounds_toArray, List.set_cons_zero, List.set_cons_succ, h12, h14] at hb
   clear h12
   clear h14
   subst hb
   rw [if_pos (by rfl)]
   go_wp2_with fail
   exact hK.out _ _ ⟨_, rfl, lw_op (i := 15) rfl hS, rfl, AllPX.same _⟩
  refine RelyStepsX.cons (RelyStepX.mk [15] [0, 1, 2, 3, 4, 5, 6, 7, 8, 9, 10, 17, 19, 20, 21, 22] rfl rfl rfl (fun xv Lv wS hS hL hLd hV bq hb K hK => ?_)) ?_
  ·obtain ⟨h15, _⟩ := hV
   have h15 : xv 15 = _ := h15
   simp only [putsOf, List.foldl_cons, List.foldl_nil, List.getD_cons_zero, List.getD_cons_succ, List.getD_nil, cond_true, cond_false, Act.put, List.setIfInBounds_toArray, List.set_cons_zero, List.set_cons_succ, h15] at hb
   clear h15
   subst hb
   rw [if_pos (by rfl)]
   (have Y0 := (HC.out _ hS.1).cx 0 _ (by decide) rfl; have Y1 := (HC.out _ hS.1).cx 1 _ (by decide) rfl; have Y2 := (HC.out _ hS.1).cx 2 _ (by decide) rfl; have Y3 := (HC.out _ hS.1).cx 3 _ (by decide) rfl; have Y4 := (HC.out _ hS.1).cx 4 _ (by decide) rfl; have Y5 := (HC.out _ hS.1).cx 5 _ (by decide) rfl; have Y6 := (HC.out _ hS.1).cx 6 _ (by decide) rfl; have Y7 := (HC.out _ hS.1).cx 7 _ (by decide) rfl; have Y8 := (HC.out _ hS.1).cx 8 _ (by decide) rfl; have Y9 := (HC.out _ hS.1).cx 9 _ (by decide) rfl; have Y10 := (HC.out _ hS.1).cx 10 _ (by decide) rfl; have Y11 := (HC.out _ hS.1).cx 11 _ (by decide) rfl; have Y12 := (HC.out _ hS.1).cx 12 _ (by decide) rfl; have Y13 := (HC.out _ hS.1).cx 13 _ (by decide) rfl; rw [Nat.add_zero] at Y0)
   go_wp2_with fail
   exact hK.out _ _ ⟨_, rfl, lw_op (i := 16) rfl hS, rfl, AllPX.same _⟩
  refine RelyStepsX.cons (RelyStepX.mk [] [0, 1, 2, 3, 4, 5, 6, 7, 8, 9, 10, 11, 12, 13, 14, 15, 16, 19, 20, 21, 22] rfl rfl rfl (fun xv Lv wS hS hL hLd hV bq hb K hK => ?_)) ?_
  ·clear hV
   simp only [putsOf, List.foldl_cons, List.foldl_nil, List.getD_cons_zero, List.getD_cons_succ, List.getD_nil, cond_true, cond_false, Act.put, List.setIfInBounds_toArray, List.set_cons_zero, List.set_cons_succ] at hb
   subst hb
   rw [if_pos (by rfl)]
   (have W0 := ((HLE.out _ hS.1).cell 0).trans (show _ = some (Value.int .i64 e.th) from rfl); have W1 := ((HLE.out _ hS.1).cell 1).trans (show _ = some (Value.int .i64 e.kd) from rfl); have W2 := ((HLE.out _ hS.1).cell 2).trans (show _ = some (Value.int .i64 e.rg) from rfl); have W3 := ((HLE.out _ hS.1).cell 3).trans (show _ = some (Value.int .u64 (e.tk : Int)) from rfl); have W4 := ((HLE.out _ hS.1).cell 4).trans (show _ = some (Value.int .u64 (e.vl : Int)) from rfl))
   go_wp2_with fail
   exact hK.out _ _ ⟨_, rfl, lw_op (i := 17) rfl hS, rfl, AllPX.same _⟩
  refine RelyStepsX.cons (RelyStepX.mk [8, 16, 17] [0, 1, 2, 3, 5, 9, 10, 11, 13, 20, 21, 22] rfl rfl rfl (fun xv Lv wS hS hL hLd hV bq hb K hK => ?_)) ?_
  ·obtain ⟨h8, h16, h17, _⟩ := hV
   have h8 : xv 8 = _ := h8
   have h16 : xv 16 = _ := h16
   have h17 : xv 17 = _ := h17
   simp only [putsOf, List.foldl_cons, List.foldl_nil, List.getD_cons_zero, List.getD_cons_succ, List.getD_nil, cond_true, cond_false, Act.put, List.setIfInBounds_toArray, List.set_cons_zero, List.set_cons_succ, h8, h16, h17] at hb
   clear h8
   clear h16
   clear h17
   subst hb
   rw [if_pos (by rfl)]
   have HSS := Lib.hid hS
   clear hS
   have HROW := Lib.hid trivial
   go_wp2_with fail
   refine (DOC.out wS HSS.out.1).mono ?_
   rintro e w' ⟨u, rfl, ho, hbm⟩
   exact hK.out _ _ ⟨_, rfl, lw_below rfl HSS.out hbm, ⟨u, rfl, ownTh_mono ho (lw_le HSS.out)⟩, AllPX.of _ (fun j _ _ h => fkV_below hbm h)⟩
  refine RelyStepsX.cons (RelyStepX.mk [18] [0, 1, 2, 3, 4, 5, 6, 9, 10, 11, 12, 13, 14, 22] rfl rfl rfl (fun xv Lv wS hS hL hLd hV bq hb K hK => ?_)) ?_
  ·obtain ⟨h18, _⟩ := hV
   simp only [putsOf, List.foldl_cons, List.foldl_nil, List.getD_cons_zero, List.getD_cons_succ, List.getD_nil, cond_true, cond_false, Act.put, List.setIfInBounds_toArray, List.set_cons_zero, List.set_cons_succ] at hb
   generalize hy18 : xv 18 = y18 at *
   subst hb
   rw [if_pos (by rfl)]
   have HSS := Lib.hid hS
   clear hS
   obtain ⟨u1, rfl, ho⟩ := h18
   go_wp2_with fail
   exact hK.out _ _ ⟨_, rfl, lw_pure rfl HSS.out, ⟨u1, rfl, ho⟩, AllPX.same _⟩
  refine RelyStepsX.cons (RelyStepX.mk [19] [0, 1, 2, 3, 4, 5, 6, 7, 9, 10, 11, 12, 13, 14, 15, 19, 21, 22] rfl rfl rfl (fun xv Lv wS hS hL hLd hV bq hb K hK => ?_)) ?_
  ·obtain ⟨h19, _⟩ := hV
   simp only [putsOf, List.foldl_cons, List.foldl_nil, List.getD_cons_zero, List.getD_cons_succ, List.getD_nil, cond_true, cond_false, Act.put, List.setIfInBounds_toArray, List.set_cons_zero, List.set_cons_succ] at hb
   generalize hy19 : xv 19 = y19 at *
   subst hb
   rw [if_pos (by rfl)]
   have HSS := Lib.hid hS
   clear hS
   obtain ⟨u1, rfl, ho⟩ := h19
   go_wp2_with fail
   exact hK.out _ _ ⟨_, rfl, lw_pure rfl HSS.out, ho, AllPX.same _⟩
  refine RelyStepsX.cons (RelyStepX.mk [19] [0, 1, 2, 3, 4, 5, 6, 7, 9, 10, 11, 12, 13, 14, 15, 19, 20, 22] rfl rfl rfl (fun xv Lv wS hS hL hLd hV bq hb K hK => ?_)) ?_
  ·obtain ⟨h19, _⟩ := hV
   simp only [putsOf, List.foldl_cons, List.foldl_nil, List.getD_cons_zero, List.getD_cons_succ, List.getD_nil, cond_true, cond_false, Act.put, List.setIfInBounds_toArray, List.set_cons_zero, List.set_cons_succ] at hb
   generalize hy19 : xv 19 = y19 at *
   subst hb
   rw [if_pos (by rfl)]
   have HSS := Lib.hid hS
   clear hS
   obtain ⟨u1, rfl, ho⟩ := h19
   go_wp2_with fail
   exact hK.out _ _ ⟨_, rfl, lw_pure rfl HSS.out, rfl, AllPX.same _⟩
  refine RelyStepsX.cons (RelyStepX.mk [] [0, 1, 2, 3, 4, 5, 6, 7, 8, 9, 10, 11, 12, 13, 14, 15, 16, 17, 18, 19, 20, 21] rfl rfl rfl (fun xv Lv wS hS hL hLd hV bq hb K hK => ?_)) ?_
  ·clear hV
   simp only [putsOf, List.foldl_cons, List.foldl_nil, List.getD_cons_zero, List.getD_cons_succ, List.getD_nil, cond_true, cond_false, Act.put, List.setIfInBounds_toArray, List.set_cons_zero, List.set_cons_succ] at hb
   subst hb
   rw [if_pos (by rfl)]
   have HSS := Lib.hid hS
   clear hS
   go_wp2_with fail
   have hbm := (Below.refl wS.heap.size wS).alloc (Nat.le_refl _) (.cells thZ 73)
   exact hK.out _ _ ⟨_, rfl, lw_made1 rfl HSS.out, trivial, AllPX.of _ (fun j _ _ h => fkV_below hbm h)⟩
  refine RelyStepsX.cons (RelyStepX.mk [22, 20] [19, 20, 21] rfl rfl rfl (fun xv Lv wS hS hL hLd hV bq hb K hK => ?_)) ?_
  ·obtain ⟨h22, h20, _⟩ := hV
   simp only [putsOf, List.foldl_cons, List.foldl_nil, List.getD_cons_zero, List.getD_cons_succ, List.getD_nil, cond_true, cond_false, Act.put, List.setIfInBounds_toArray, List.set_cons_zero, List.set_cons_succ] at hb
   generalize hy22 : xv 22 = y22 at *
   generalize hy20 : xv 20 = y20 at *
   subst hb
   rw [if_pos (by rfl)]
   have HSS := Lib.hid hS
   clear hS
   obtain ⟨g, hg, hN, hl⟩ := bk_open HSS.out.2.1 (hLd 22 (by decide +kernel)) hL
   rw [hy22] at hg
   subst hg
   obtain ⟨A5, k5, e5, ho5⟩ := h20
   subst e5
   refine wp_store_row _ _ _ rfl g (thC zt (.slice A5 (zt).sn.length k5)) rfl rfl 73 thZ hl infoTh rfl (thC_one _ rfl) ?_
   exact hK.out _ _ ⟨undef, rfl, lw_store1 rfl HSS.out (hLd 22 (by decide +kernel)) (hLd 20 (by decide +kernel)) hy22 hN hl hy20 (by decide), trivial, AllPX.of _ (fun j hj _ h => fkV_row _ hl (all_typ rfl hj) h)⟩
  refine RelyStepsX.cons (RelyStepX.mk [21] [20] rfl rfl rfl (fun xv Lv wS hS hL hLd hV bq hb K hK => ?_)) ?_
  ·obtain ⟨h21, _⟩ := hV
   have h21 : xv 21 = _ := h21
   simp only [putsOf, List.foldl_cons, List.foldl_nil, List.getD_cons_zero, List.getD_cons_succ, List.getD_nil, cond_true, cond_false, Act.put, List.setIfInBounds_toArray, List.set_cons_zero, List.set_cons_succ, h21] at hb
   clear h21
   subst hb
   rw [if_pos (by rfl)]
   go_wp2_with fail
   exact hK.out _ _ ⟨_, rfl, lw_op (i := 24) rfl hS, rfl, AllPX.same _⟩
  exact RelyStepsX.nil
 case rE =>
  intro xv Lv wE hS hLall hV
  have h20 := hV 20 (by decide) (by decide)
  have h24 := hV 24 (by decide) (by decide)
  clear hV
  obtain ⟨g1, a1, hx1, hN1, hl1, hv1⟩ := bk_done hS.2.1 (hLall 22 (by decide +kernel)) (hLall 23 (by decide +kernel))
  simp only [putsOf, List.foldl_cons, List.foldl_nil, List.getD_cons_zero, List.getD_cons_succ, List.getD_nil, cond_true, cond_false, Act.put, List.setIfInBounds_toArray, List.set_cons_zero, List.set_cons_succ]
  have h24 : xv 24 = _ := h24
  rw [h24]; clear h24
  generalize xv 0 = y0 at *
  generalize xv 1 = y1 at *
  generalize xv 2 = y2 at *
  generalize xv 3 = y3 at *
  generalize xv 4 = y4 at *
  generalize xv 5 = y5 at *
  generalize xv 6 = y6 at *
  generalize xv 7 = y7 at *
  generalize xv 8 = y8 at *
  generalize xv 9 = y9 at *
  generalize xv 10 = y10 at *
  generalize xv 11 = y11 at *
  generalize xv 12 = y12 at *
  generalize xv 13 = y13 at *
  generalize xv 14 = y14 at *
  generalize xv 15 = y15 at *
  generalize xv 16 = y16 at *
  generalize xv 17 = y17 at *
  generalize xv 18 = y18 at *
  generalize xv 19 = y19 at *
  generalize xv 20 = y20 at *
  generalize xv 21 = y21 at *
  generalize xv 22 = y22 at *
  generalize xv 23 = y23 at *
  have hbm := hS.1
  replace HB := Lib.hid (HB.out.trans (hbm.mono HB.out.size))
  clear hS hbm hLall DOC hv1 hl1 h20
  generalize wE = w4 at *
  have he0 : (er == 0) = decide (er = 0) := by rw [Bool.eq_iff_iff]; simp
  go_wp2
  go_ret
  exact ⟨by rw [HMF.out, ← he0]; rfl, HB.out⟩
end
def claimE (R : Rg) : Nat := if R.cl = true then 10 else if fullB R = true then 8 else 0
def claimV (R : Rg) : Nat := if claimE R = 0 then R.tail else 0
def claimR (R : Rg) : Rg := if claimE R = 0 then { R with tail := R.tail + 1 } else R
def pubE (R : Rg) (t : Nat) : Nat := if R.tail ≤ t then 11 else putE R.L t
def pubR (R : Rg) (t v : Nat) : Rg := if R.tail ≤ t then R else { R with L := putS R.rd R.L t v }
def takeE (R : Rg) (j : Int) : Nat := if readsB R j = false then 1 else if headN R j = R.tail then (if R.cl = true then 10 else 9) else 0
def takeV (R : Rg) (j : Int) : Nat := if takeE R j = 0 then headN R j else 0
def takeR (R : Rg) (j : Int) : Rg := if takeE R j = 0 then { R with h8 := R.h8.set j.toNat (headN R j + 1) } else R
def relE (R : Rg) (j : Int) (t : Nat) : Nat := if readsB R j = false then 1 else if headN R j ≤ t then 11 else getE R.rd R.L j t
def relV (R : Rg) (j : Int) (t : Nat) : Nat := if relE R j t = 0 then getV R.rd R.L j t else 0
def relR (R : Rg) (j : Int) (t : Nat) : Rg := if relE R j t = 0 then { R with L := getS R.rd R.L j t } else R
def rfreeB (R : Rg) (t : Nat) : Bool := decide (t < R.tail) && freeB R.L t
def rhasB (R : Rg) (j : Int) (t : Nat) : Bool := readsB R j && (decide (t < headN R j) && decide (getE R.rd R.L j t = 0))
theorem claimR_ok {R : Rg} (h : RgOk R) (ht : R.tail < 4611687117939015680) : RgOk (claimR R) := by
 unfold claimR
 split
 ·exact ⟨h.1, h.2.1, h.2.2.1, by simp only; omega, fun x hx => by have := h.2.2.2.2 x hx; simp only; omega⟩
 ·exact h
theorem pubR_ok {R : Rg} (h : RgOk R) (t v : Nat) (hv : v < 18446744073709551616) : RgOk (pubR R t v) := by
 unfold pubR
 split
 ·exact h
 ·exact ⟨h.1, putS_ok h.2.1 t v hv, by simp only; rw [putS_length]; exact h.2.2.1, h.2.2.2.1, h.2.2.2.2⟩
theorem takeE_ok {R : Rg} {j : Int} (h : takeE R j = 0) : readsB R j = true ∧ headN R j ≠ R.tail := by
 unfold takeE at h
 split at h
 ·exact absurd h (by decide)
 ·rename_i h1
  split at h
  ·split at h <;> exact absurd h (by decide)
  ·rename_i h2
   exact ⟨by simpa using h1, h2⟩
theorem headN_get {R : Rg} (h : RgOk R) {j : Int} (hr : readsB R j = true) : R.h8[j.toNat]? = some (headN R j) ∧ j.toNat < 8 ∧ 0 ≤ j := by
 obtain ⟨h0, h1⟩ := of_decide_eq_true hr
 have := h.2.1.2.2.2.1
 have h8 := h.1
 refine ⟨?_, by omega, h0⟩
 unfold headN
 rw [List.getD_eq_getElem?_getD, List.getElem?_eq_getElem (by omega)]; rfl
theorem takeR_ok {R : Rg} (h : RgOk R) (j : Int) : RgOk (takeR R j) := by
 unfold takeR
 split
 ·rename_i he
  obtain ⟨hr, hne⟩ := takeE_ok he
  obtain ⟨hg, _, _⟩ := headN_get h hr
  have hm := h.2.2.2.2 _ (List.mem_of_getElem? hg)
  refine ⟨by simp only; rw [List.length_set]; exact h.1, h.2.1, h.2.2.1, h.2.2.2.1, fun x hx => ?_⟩
  rcases List.mem_or_eq_of_mem_set hx with hx | rfl
  ·exact h.2.2.2.2 x hx
  ·simp only; omega
 ·exact h
theorem relR_ok {R : Rg} (h : RgOk R) (j : Int) (t : Nat) : RgOk (relR R j t) := by
 unfold relR
 split
 ·exact ⟨h.1, getS_ok h.2.1 j t, by simp only; rw [getS_length]; exact h.2.2.1, h.2.2.2.1, h.2.2.2.2⟩
 ·exact h
section
variable {w : World} {g o : Nat} {T : TypeId} {p0 post : List Value} {R : Rg}
set_option maxHeartbeats 1000000 in
set_option maxRecDepth 100000 in
theorem rgClaim (h : RgAt w g T p0 post R) (ho : p0.length = o) (ht : R.tail < 4611687117939015680) :
  Calls Tryz.prog 27 #[.pointer (some ⟨g, o, none⟩)] w fun e w' => e = .returned (.tuple #[.int .u64 (claimV R : Nat), .int .i64 (claimE R : Nat)]) ∧ RgAt w' g T p0 post (claimR R) ∧ Kept (oneRow g) w w' := by
 have HF := Lib.hid (cuFull h ho)
 subst ho
 obtain ⟨c0, c1, c2, c3⟩ := h.cells
 by_cases hc : R.cl = true
 ·have hE : claimE R = 10 := by unfold claimE; rw [if_pos hc]
  have HE := Lib.hid hE
  have HV : Hid (claimV R = 0) := by show _ = _; unfold claimV; rw [hE, if_neg (by decide)]
  have HR : Hid (claimR R = R) := by show _ = _; unfold claimR; rw [hE, if_neg (by decide)]
  have H := Lib.hid h
  rw [hc] at c3
  clear h hE hc
  go_enter Tryz.func27, Tryz.ntmps27
  go_wp2
  go_ret2
  exact ⟨by rw [HE.out, HV.out]; rfl, by rw [HR.out]; exact H.out, Kept.refl _ _⟩
 have hc : R.cl = false := by simpa using hc
 by_cases hf : fullB R = true
 ·have hE : claimE R = 8 := by unfold claimE; rw [hc, if_neg (by decide), if_pos hf]
  have HE := Lib.hid hE
  have HV : Hid (claimV R = 0) := by show _ = _; unfold claimV; rw [hE, if_neg (by decide)]
  have HR : Hid (claimR R = R) := by show _ = _; unfold claimR; rw [hE, if_neg (by decide)]
  have H := Lib.hid h
  have hff := HF.out
  rw [hf] at hff
  have HF2 := Lib.hid hff
  rw [hc] at c3
  clear h hE hc hf hff HF
  go_enter Tryz.func27, Tryz.ntmps27
  go_wp2_with fail
  refine HF2.out.mono ?_
  rintro e w' ⟨rfl, n, rfl⟩
  go_wp2
  go_ret2
  exact ⟨by rw [HE.out, HV.out]; rfl, by rw [HR.out]; exact H.out, Kept.drewN _ _ _⟩
 have hf : fullB R = false := by simpa using hf
 have hE : claimE R = 0 := by unfold claimE; rw [hc, if_neg (by decide), hf, if_neg (by decide)]
 have HE := Lib.hid hE
 have HV : Hid (claimV R = R.tail) := by show _ = _; unfold claimV; rw [hE, if_pos rfl]
 have hR : claimR R = { R with tail := R.tail + 1 } := by unfold claimR; rw [hE, if_pos rfl]
 have hput := fun n => (h.drewN n).put (R' := claimR R) (k := 2) (u := .int .u64 ((R.tail + 1 : Nat) : Int)) (by decide) (claimR_ok h.1 ht) (by rw [hR]) (by rw [hR]) (by rw [hR]; rfl)
 have HPUT := Lib.hid hput
 have f2 := h.free (p0.length + 2)
 have hff := HF.out
 rw [hf] at hff
 have HF2 := Lib.hid hff
 rw [hc] at c3
 clear h hE hc hf hff HF hR hput
 go_enter Tryz.func27, Tryz.ntmps27
 go_wp2_with fail
 refine HF2.out.mono ?_
 rintro e w' ⟨rfl, n, rfl⟩
 go_wp2
 go_ret2
 exact ⟨by rw [HE.out, HV.out]; rfl, HPUT.out n, (Kept.drewN _ _ n).trans (Kept.put _ g (p0.length + 2) _) (fun _ _ h => h)⟩
set_option maxRecDepth 100000 in
theorem rgPublish (t v : Nat) (h : RgAt w g T p0 post R) (ho : p0.length = o) (ht : t ≤ 18446744073709551615) (hv : v ≤ 18446744073709551615) :
  Calls Tryz.prog 121 #[.pointer (some ⟨g, o, none⟩), .int .u64 t, .int .u64 v] w fun e w' => e = .returned (.int .i64 (pubE R t : Nat)) ∧ RgAt w' g T p0 post (pubR R t v) ∧ Kept (oneRow g) w w' := by
 obtain ⟨s1, s2⟩ := h.slots
 have HP := Lib.hid (slotsPut t v s1 s2 ht hv)
 subst ho
 obtain ⟨c0, c1, c2, c3⟩ := h.cells
 have htl := h.1.2.2.2.1
 by_cases hb : R.tail ≤ t
 ·have e1 : decide (R.tail ≤ t) = true := by simpa using hb
  have HE : Hid (pubE R t = 11) := if_pos hb
  have HR : Hid (pubR R t v = R) := if_pos hb
  have H := Lib.hid h
  clear h hb HP s1 s2
  generalize R.tail = tl at *
  go_enter Tryz.func121, Tryz.ntmps121
  go_wp2
  go_ret
  exact ⟨by rw [HE.out]; rfl, by rw [HR.out]; exact H.out, Kept.refl _ _⟩
 ·have e1 : decide (R.tail ≤ t) = false := by simpa using hb
  have HE : Hid (pubE R t = putE R.L t) := if_neg hb
  have HR : Hid (pubR R t v = { R with L := putS R.rd R.L t v }) := if_neg hb
  have HOK := Lib.hid (pubR_ok h.1 t v (by omega))
  clear h hb s1 s2
  go_enter Tryz.func121, Tryz.ntmps121
  go_wp2_with fail
  refine HP.out.mono ?_
  rintro e w1 ⟨rfl, hs, hk⟩
  have HS := Lib.hid hs
  clear hs HP
  go_wp2
  go_ret
  refine ⟨by rw [HE.out]; rfl, ⟨HOK.out, ?_⟩, hk⟩
  rw [HR.out]
  exact HS.out
end
section
variable {w : World} {g o : Nat} {T : TypeId} {p0 post : List Value} {R : Rg}
set_option maxHeartbeats 1000000 in
set_option maxRecDepth 100000 in
theorem rgTake (j : Int) (h : RgAt w g T p0 post R) (ho : p0.length = o) :
  Calls Tryz.prog 122 #[.pointer (some ⟨g, o, none⟩), .int .i64 j] w fun e w' => e = .returned (.tuple #[.int .u64 (takeV R j : Nat), .int .i64 (takeE R j : Nat)]) ∧ RgAt w' g T p0 post (takeR R j) ∧ Kept (oneRow g) w w' := by
 have HEM := Lib.hid (cuEmpty j h ho)
 have HEM2 := Lib.hid (fun n => cuEmpty (w := w.drewN n) j (h.drewN n) ho)
 subst ho
 obtain ⟨c0, c1, c2, c3⟩ := h.cells
 have HRD := Lib.hid (cuReads (R := R) j w c1)
 by_cases hr : readsB R j = true
 ·obtain ⟨hg, hj8, hj0⟩ := headN_get h.1 hr
  have hrd := HRD.out
  rw [hr] at hrd
  have HRD2 := Lib.hid hrd
  by_cases he : headN R j = R.tail
  ·have hem : emptyB R j = true := by unfold emptyB; rw [hr, decide_eq_true he]; rfl
   have hm1 := HEM.out
   have hm2 := HEM2.out
   rw [hem] at hm1
   simp only [hem] at hm2
   have HM1 := Lib.hid hm1
   have HM2 := Lib.hid hm2
   by_cases hc : R.cl = true
   ·have hE : takeE R j = 10 := by unfold takeE; rw [hr, if_neg (by decide), if_pos he, if_pos hc]
    have HE := Lib.hid hE
    have HV : Hid (takeV R j = 0) := by show _ = _; unfold takeV; rw [hE, if_neg (by decide)]
    have HR : Hid (takeR R j = R) := by show _ = _; unfold takeR; rw [hE, if_neg (by decide)]
    have H := Lib.hid h
    rw [hc] at c3
    clear h hE hc hr he hem hm1 hm2 hrd hg HEM HEM2 HRD
    go_enter Tryz.func122, Tryz.ntmps122
    go_wp2_with fail
    refine HRD2.out.mono ?_
    rintro e w' ⟨rfl, rfl⟩
    go_wp2_with fail
    refine HM1.out.mono ?_
    rintro e w' ⟨rfl, n, rfl⟩
    go_wp2
    go_ret2
    exact ⟨by rw [HE.out, HV.out]; rfl, by rw [HR.out]; exact H.out, Kept.drewN _ _ _⟩
   ·have hc : R.cl = false := by simpa using hc
    have hE : takeE R j = 9 := by unfold takeE; rw [hr, if_neg (by decide), if_pos he, hc, if_neg (by decide)]
    have HE := Lib.hid hE
    have HV : Hid (takeV R j = 0) := by show _ = _; unfold takeV; rw [hE, if_neg (by decide)]
    have HR : Hid (takeR R j = R) := by show _ = _; unfold takeR; rw [hE, if_neg (by decide)]
    have H := Lib.hid h
    rw [hc] at c3
    clear h hE hc hr he hem hm1 hm2 hrd hg HEM HEM2 HRD
    go_enter Tryz.func122, Tryz.ntmps122
    go_wp2_with fail
    refine HRD2.out.mono ?_
    rintro e w' ⟨rfl, rfl⟩
    go_wp2_with fail
    refine HM1.out.mono ?_
    rintro e w' ⟨rfl, n, rfl⟩
    go_wp2_with fail
    refine (HM2.out n).mono ?_
    rintro e w' ⟨rfl, n2, rfl⟩
    go_wp2
    go_ret2
    exact ⟨by rw [HE.out, HV.out]; rfl, by rw [HR.out]; exact H.out, rfl, rfl, rfl, Nat.le_refl _, fun _ _ _ => rfl⟩
  ·have hem : emptyB R j = false := by unfold emptyB; rw [hr, decide_eq_false he]; rfl
   have hm1 := HEM.out
   have hm2 := HEM2.out
   rw [hem] at hm1
   simp only [hem] at hm2
   have HM1 := Lib.hid hm1
   have HM2 := Lib.hid hm2
   have hE : takeE R j = 0 := by unfold takeE; rw [hr, if_neg (by decide), if_neg he]
   have HE := Lib.hid hE
   have HV : Hid (takeV R j = headN R j) := by show _ = _; unfold takeV; rw [hE, if_pos rfl]
   have hR : takeR R j = { R with h8 := R.h8.set j.toNat (headN R j + 1) } := by unfold takeR; rw [hE, if_pos rfl]
   have h8 := h.1.1
   have htl := h.1.2.2.2.1
   have hhl := h.1.2.2.2.2 _ (List.mem_of_getElem? hg)
   obtain ⟨n, rfl⟩ : ∃ n : Nat, j = n := ⟨j.toNat, by omega⟩
   rw [Int.toNat_natCast] at hg hj8 hR
   have hcset : (cuR R).set (3 + n) (.int .u64 ((headN R n + 1 : Nat) : Int)) = cuR (takeR R n) := by
    rw [hR]
    unfold cuR cuF
    rw [List.set_append_left _ _ (by simp; omega), List.set_append_right _ _ (by simp)]
    simp [List.map_set]
   have hok := takeR_ok h.1 (n : Int)
   have dk := h.head hg
   have fk := h.free (p0.length + 3 + n)
   have hput := fun m => ((h.drewN m).put (R' := takeR R n) (k := 3 + n) (u := .int .u64 ((headN R n + 1 : Nat) : Int)) (by omega) hok (by rw [hR]) (by rw [hR]) hcset)
   simp only [← Nat.add_assoc] at hput
   have HPUT := Lib.hid hput
   have hn8 : (n : Int) < 8 := by omega
   clear h hE hr he hem hm1 hm2 hrd hg HEM HEM2 HRD hR hcset hok hput h8
   generalize headN R n = x at *
   have hx64 : x ≤ 4611687117939015680 := by omega
   go_enter Tryz.func122, Tryz.ntmps122
   go_wp2_with fail
   refine HRD2.out.mono ?_
   rintro e w' ⟨rfl, rfl⟩
   go_wp2_with fail
   refine HM1.out.mono ?_
   rintro e w' ⟨rfl, m1, rfl⟩
   go_wp2_with fail
   refine (HM2.out m1).mono ?_
   rintro e w' ⟨rfl, m2, rfl⟩
   go_wp2
   go_region
   all_goals
    go_wp2
    go_ret2
    exact ⟨by rw [HE.out, HV.out]; rfl, HPUT.out (m1 + m2 + 1), (Kept.drewN _ _ (m1 + m2 + 1)).trans (Kept.put _ g (p0.length + 3 + n) _) (fun _ _ h => h)⟩
 ·have hr : readsB R j = false := by simpa using hr
  have hrd := HRD.out
  rw [hr] at hrd
  have HRD2 := Lib.hid hrd
  have hE : takeE R j = 1 := by unfold takeE; rw [hr, if_pos rfl]
  have HE := Lib.hid hE
  have HV : Hid (takeV R j = 0) := by show _ = _; unfold takeV; rw [hE, if_neg (by decide)]
  have HR : Hid (takeR R j = R) := by show _ = _; unfold takeR; rw [hE, if_neg (by decide)]
  have H := Lib.hid h
  clear h hE hr hrd HEM HEM2 HRD
  go_enter Tryz.func122, Tryz.ntmps122
  go_wp2_with fail
  refine HRD2.out.mono ?_
  rintro e w' ⟨rfl, rfl⟩
  go_wp2
  go_ret2
  exact ⟨by rw [HE.out, HV.out]; rfl, by rw [HR.out]; exact H.out, Kept.refl _ _⟩
theorem relE_in {R : Rg} {j : Int} {t : Nat} (hr : readsB R j = true) (hh : ¬ headN R j ≤ t) : relE R j t = getE R.rd R.L j t := by unfold relE; rw [hr, if_neg (by decide), if_neg hh]
theorem getE_V {r : Nat} {L : List Sl} {j : Int} {t : Nat} : (if getE r L j t = 0 then getV r L j t else 0) = getV r L j t := by
 by_cases h : getE r L j t = 0
 ·rw [if_pos h]
 ·rw [if_neg h]; unfold getV; rw [if_neg h]
theorem getE_S {r : Nat} {L : List Sl} {j : Int} {t : Nat} (h : getE r L j t ≠ 0) : getS r L j t = L := by unfold getS; rw [if_neg h]
theorem relR_in {R : Rg} {j : Int} {t : Nat} (hr : readsB R j = true) (hh : ¬ headN R j ≤ t) : relR R j t = { R with L := getS R.rd R.L j t } := by
 unfold relR
 rw [relE_in hr hh]
 by_cases h : getE R.rd R.L j t = 0
 ·rw [if_pos h]
 ·rw [if_neg h, getE_S h]
set_option maxHeartbeats 1000000 in
set_option maxRecDepth 100000 in
theorem rgRelease (j : Int) (t : Nat) (h : RgAt w g T p0 post R) (ho : p0.length = o) (ht : t ≤ 18446744073709551615) :
  Calls Tryz.prog 123 #[.pointer (some ⟨g, o, none⟩), .int .i64 j, .int .u64 t] w fun e w' => e = .returned (.tuple #[.int .u64 (relV R j t : Nat), .int .i64 (relE R j t : Nat)]) ∧ RgAt w' g T p0 post (relR R j t) ∧ Kept (oneRow g) w w' := by
 obtain ⟨s1, s2⟩ := h.slots
 have HG := Lib.hid (slotsGet j t s1 s2 ht)
 subst ho
 obtain ⟨c0, c1, c2, c3⟩ := h.cells
 have HRD := Lib.hid (cuReads (R := R) j w c1)
 by_cases hr : readsB R j = true
 ·obtain ⟨hg, hj8, hj0⟩ := headN_get h.1 hr
  have hrd := HRD.out
  rw [hr] at hrd
  have HRD2 := Lib.hid hrd
  obtain ⟨n, rfl⟩ : ∃ n : Nat, j = n := ⟨j.toNat, by omega⟩
  rw [Int.toNat_natCast] at hg hj8
  have dk := h.head hg
  have hn8 : (n : Int) < 8 := by omega
  by_cases hh : headN R n ≤ t
  ·have e1 : decide (headN R n ≤ t) = true := by simpa using hh
   have hE : relE R n t = 11 := by unfold relE; rw [hr, if_neg (by decide), if_pos hh]
   have HE := Lib.hid hE
   have HV : Hid (relV R n t = 0) := by show _ = _; unfold relV; rw [hE, if_neg (by decide)]
   have HR : Hid (relR R n t = R) := by show _ = _; unfold relR; rw [hE, if_neg (by decide)]
   have H := Lib.hid h
   clear h hE hr hrd hg HRD HG s1 s2 hh
   generalize headN R n = x at *
   go_enter Tryz.func123, Tryz.ntmps123
   go_wp2_with fail
   refine HRD2.out.mono ?_
   rintro e w' ⟨rfl, rfl⟩
   go_wp2
   go_ret2
   exact ⟨by rw [HE.out, HV.out]; rfl, by rw [HR.out]; exact H.out, Kept.refl _ _⟩
  ·have e1 : decide (headN R n ≤ t) = false := by simpa using hh
   have HE : Hid (relE R n t = getE R.rd R.L n t) := relE_in hr hh
   have HV : Hid (relV R n t = getV R.rd R.L n t) := by show _ = _; unfold relV; rw [relE_in hr hh, getE_V]
   have HR : Hid (relR R n t = { R with L := getS R.rd R.L n t }) := relR_in hr hh
   have HOK := Lib.hid (relR_ok h.1 (n : Int) t)
   clear h hr hrd hg HRD s1 s2 hh
   generalize headN R n = x at *
   go_enter Tryz.func123, Tryz.ntmps123
   go_wp2_with fail
   refine HRD2.out.mono ?_
   rintro e w' ⟨rfl, rfl⟩
   go_wp2_with fail
   refine HG.out.mono ?_
   rintro e w1 ⟨rfl, hs, hk⟩
   have HS := Lib.hid hs
   clear hs HG
   go_wp2
   go_ret2
   refine ⟨by rw [HE.out, HV.out]; rfl, ⟨HOK.out, ?_⟩, hk⟩
   rw [HR.out]
   exact HS.out
 ·have hr : readsB R j = false := by simpa using hr
  have hrd := HRD.out
  rw [hr] at hrd
  have HRD2 := Lib.hid hrd
  have hE : relE R j t = 1 := by unfold relE; rw [hr, if_pos rfl]
  have HE := Lib.hid hE
  have HV : Hid (relV R j t = 0) := by show _ = _; unfold relV; rw [hE, if_neg (by decide)]
  have HR : Hid (relR R j t = R) := by show _ = _; unfold relR; rw [hE, if_neg (by decide)]
  have H := Lib.hid h
  clear h hE hr hrd HRD HG s1 s2
  go_enter Tryz.func123, Tryz.ntmps123
  go_wp2_with fail
  refine HRD2.out.mono ?_
  rintro e w' ⟨rfl, rfl⟩
  go_wp2
  go_ret2
  exact ⟨by rw [HE.out, HV.out]; rfl, by rw [HR.out]; exact H.out, Kept.refl _ _⟩
theorem rgFree (t : Nat) (h : RgAt w g T p0 post R) (ho : p0.length = o) (ht : t ≤ 18446744073709551615) :
  Calls Tryz.prog 89 #[.pointer (some ⟨g, o, none⟩), .int .u64 t] w fun e w' => e = .returned (.bool (rfreeB R t)) ∧ ∃ n, w' = w.drewN n := by
 obtain ⟨s1, s2⟩ := h.slots
 have HG := Lib.hid (slotsIsFree t s1 s2 ht)
 subst ho
 obtain ⟨c0, c1, c2, c3⟩ := h.cells
 by_cases hb : t < R.tail
 ·have e1 : decide (t < R.tail) = true := by simpa using hb
  have HE : Hid (rfreeB R t = freeB R.L t) := by show _ = _; unfold rfreeB; rw [e1, Bool.true_and]
  clear h hb s1 s2
  go_enter Tryz.func89, Tryz.ntmps89
  go_wp2_with fail
  refine HG.out.mono ?_
  rintro e w' ⟨rfl, n, rfl⟩
  go_wp2
  go_ret
  exact ⟨ret_bool (by rw [HE.out]), _, rfl⟩
 ·have e1 : decide (t < R.tail) = false := by simpa using hb
  have HE : Hid (rfreeB R t = false) := by show _ = _; unfold rfreeB; rw [e1, Bool.false_and]
  clear h hb s1 s2 HG
  go_enter Tryz.func89, Tryz.ntmps89
  go_wp2
  go_ret
  exact ⟨ret_bool (by rw [HE.out]), 0, rfl⟩
set_option maxRecDepth 100000 in
theorem rgHas (j : Int) (t : Nat) (h : RgAt w g T p0 post R) (ho : p0.length = o) (ht : t ≤ 18446744073709551615) :
  Calls Tryz.prog 92 #[.pointer (some ⟨g, o, none⟩), .int .i64 j, .int .u64 t] w fun e w' => e = .returned (.bool (rhasB R j t)) ∧ Below w.heap.size w w' := by
 obtain ⟨s1, s2⟩ := h.slots
 have HG := Lib.hid (slotsHas j t s1 s2 ht)
 subst ho
 obtain ⟨c0, c1, c2, c3⟩ := h.cells
 have HRD := Lib.hid (cuReads (R := R) j w c1)
 by_cases hr : readsB R j = true
 ·obtain ⟨hg, hj8, hj0⟩ := headN_get h.1 hr
  have hrd := HRD.out
  rw [hr] at hrd
  have HRD2 := Lib.hid hrd
  obtain ⟨n, rfl⟩ : ∃ n : Nat, j = n := ⟨j.toNat, by omega⟩
  rw [Int.toNat_natCast] at hg hj8
  have dk := h.head hg
  have hn8 : (n : Int) < 8 := by omega
  by_cases hh : t < headN R n
  ·have e1 : decide (t < headN R n) = true := by simpa using hh
   have HE : Hid (rhasB R n t = decide (getE R.rd R.L n t = 0)) := by show _ = _; unfold rhasB; rw [hr, e1, Bool.true_and, Bool.true_and]
   clear h hr hrd hg HRD s1 s2 hh
   generalize headN R n = x at *
   generalize decide (getE R.rd R.L n t = 0) = dB at *
   go_enter Tryz.func92, Tryz.ntmps92
   go_wp2_with fail
   refine HRD2.out.mono ?_
   rintro e w' ⟨rfl, rfl⟩
   go_wp2_with fail
   refine HG.out.mono ?_
   rintro e w' ⟨rfl, hb⟩
   go_wp2
   go_ret
   exact ⟨ret_bool (by rw [HE.out]), hb⟩
  ·have e1 : decide (t < headN R n) = false := by simpa using hh
   have HE : Hid (rhasB R n t = false) := by show _ = _; unfold rhasB; rw [hr, e1]; rfl
   clear h hr hrd hg HRD s1 s2 hh HG
   generalize headN R n = x at *
   go_enter Tryz.func92, Tryz.ntmps92
   go_wp2_with fail
   refine HRD2.out.mono ?_
   rintro e w' ⟨rfl, rfl⟩
   go_wp2
   go_ret
   exact ⟨ret_bool (by rw [HE.out]), Below.refl _ _⟩
 ·have hr : readsB R j = false := by simpa using hr
  have hrd := HRD.out
  rw [hr] at hrd
  have HRD2 := Lib.hid hrd
  have HE : Hid (rhasB R j t = false) := by show _ = _; unfold rhasB; rw [hr]; rfl
  clear h hr hrd HRD HG s1 s2
  go_enter Tryz.func92, Tryz.ntmps92
  go_wp2_with fail
  refine HRD2.out.mono ?_
  rintro e w' ⟨rfl, rfl⟩
  go_wp2
  go_ret
  exact ⟨ret_bool (by rw [HE.out]), Below.refl _ _⟩
end
def refF (R : Rg) (a : Ak) : Bool := if a.kd = 1 then fullB R else emptyB R a.rd
def shutF (x : La) (a : Ak) : Bool := x.cl && (decide (a.kd = 1) || refF x.R a)
section
variable {w w' : World} {g : Nat} {T : TypeId} {p0 post : List Value} {R : Rg}
set_option maxHeartbeats 1000000 in
theorem lnRefuses (a : Ak) (o : Nat) (h : RgAt w g T p0 post R) (ho : p0.length = o) : Calls Tryz.prog 74 #[.pointer (some ⟨g, o, none⟩), .agg (akC a)] w fun q w' => q = .returned (.bool (refF R a)) ∧ Below w.heap.size w w' := by
 have hb := (Below.refl w.heap.size w).alloc (Nat.le_refl _) (.cells (akC a) 63)
 have lb := Lies.made w 63 (akC a)
 have h1 := h.later hb
 have c0 := (lb.cell 0).trans (show _ = some (.int .i64 a.kd) from rfl)
 have c3 := (lb.cell 3).trans (show _ = some (.int .i64 a.rd) from rfl)
 have HB := Lib.hid hb
 have HF := Lib.hid (rgFull h1 ho)
 have HE : Hid (∀ n, Calls Tryz.prog 90 #[.pointer (some ⟨g, o, none⟩), .int .i64 a.rd] ((w.alloc (.cells (akC a) 63)).drewN n) fun e w' => e = .returned (.bool (emptyB R a.rd)) ∧ ∃ m, w' = ((w.alloc (.cells (akC a) 63)).drewN n).drewN m) := fun n => rgEmpty a.rd (w := (w.alloc (.cells (akC a) 63)).drewN n) (p0 := p0) (T := T) (post := post) h1 ho
 have HX : Hid (refF R a = if a.kd = 1 then fullB R else emptyB R a.rd) := rfl
 clear hb lb h h1 ho
 by_cases hk : a.kd = 1
 ·rw [hk] at c0
  have HX : Hid (refF R a = fullB R) := by show _ = _; rw [HX.out, if_pos hk]
  go_enter Tryz.func74, Tryz.ntmps74
  go_wp2_with fail
  refine HF.out.mono ?_
  rintro q w3 ⟨rfl, n, rfl⟩
  go_wp2
  go_ret
  exact ⟨by rw [HX.out]; rfl, below_drewN HB.out n⟩
 ·have e0 : (a.kd == 1) = false := by rw [beq_eq_false_iff_ne]; exact hk
  have HX : Hid (refF R a = emptyB R a.rd) := by show _ = _; rw [HX.out, if_neg hk]
  clear hk
  go_enter Tryz.func74, Tryz.ntmps74
  go_wp2
  go_quiet ((go_at_call 90; exact Calls.quiet_of (HE.out _)))
  all_goals
   go_wp2
   go_ret
   exact ⟨by rw [HX.out]; rfl, below_drewN HB.out _⟩
theorem lnShuts (x : La) (a : Ak) (o : Nat) (h : RgAt w g T p0 (.bool x.cl :: post) x.R) (ho : p0.length = o) (hc : w.cell? ⟨g, o + 206, none⟩ = some (.bool x.cl)) : Calls Tryz.prog 75 #[.pointer (some ⟨g, o, none⟩), .agg (akC a)] w fun q w' => q = .returned (.bool (shutF x a)) ∧ Below w.heap.size w w' := by
 have hb := (Below.refl w.heap.size w).alloc (Nat.le_refl _) (.cells (akC a) 63)
 have lb := Lies.made w 63 (akC a)
 have h1 := h.later hb
 have hc := cell_later hc hb
 have c0 := (lb.cell 0).trans (show _ = some (.int .i64 a.kd) from rfl)
 have HB := Lib.hid hb
 have HR := Lib.hid (lnRefuses a o h1 ho)
 have HX : Hid (shutF x a = (x.cl && (decide (a.kd = 1) || refF x.R a))) := rfl
 have LB := Lib.hid lb
 clear hb h h1 ho lb
 obtain ⟨cl, hcl⟩ : ∃ cl, x.cl = cl := ⟨_, rfl⟩
 rw [hcl] at hc HX
 clear hcl
 cases cl
 ·have HX : Hid (shutF x a = false) := HX.out
  go_enter Tryz.func75, Tryz.ntmps75
  go_wp2
  go_ret
  exact ⟨by rw [HX.out]; rfl, HB.out⟩
 ·by_cases hk : a.kd = 1
  ·have HX : Hid (shutF x a = true) := by show _ = _; rw [HX.out, hk]; rfl
   rw [hk] at c0
   go_enter Tryz.func75, Tryz.ntmps75
   go_wp2
   go_ret
   exact ⟨by rw [HX.out]; rfl, HB.out⟩
  ·have HX : Hid (shutF x a = refF x.R a) := by show _ = _; rw [HX.out, decide_eq_false hk]; rfl
   have e0 : (a.kd == 1) = false := by rw [beq_eq_false_iff_ne]; exact hk
   have c1 := (LB.out.cell 1).trans (show _ = some (Value.int .i64 a.rg) from rfl)
   have c2 := (LB.out.cell 2).trans (show _ = some (Value.int .i64 a.md) from rfl)
   have c3 := (LB.out.cell 3).trans (show _ = some (Value.int .i64 a.rd) from rfl)
   have c4 := (LB.out.cell 4).trans (show _ = some (Value.int .u64 (a.tk : Int)) from rfl)
   have c5 := (LB.out.cell 5).trans (show _ = some (Value.int .u64 (a.vl : Int)) from rfl)
   clear hk
   go_enter Tryz.func75, Tryz.ntmps75
   go_wp2_with fail
   refine HR.out.mono ?_
   rintro q w3 ⟨rfl, hb3⟩
   have HB3 := Lib.hid (HB.out.trans (hb3.mono HB.out.size))
   clear c0 c1 c2 c3 c4 c5 hc hb3
   go_wp2
   go_ret
   exact ⟨by rw [HX.out]; rfl, HB3.out⟩
end
def lnN (f : Fb) (i : Int) : La := f.ln.getD i.toNat default
def onLane (k : Int) : Prop := k = 1 ∨ k = 2 ∨ k = 3 ∨ k = 4 ∨ k = 5 ∨ k = 6 ∨ k = 7 ∨ k = 13
def fedF (f : Fb) (e : Ev) (a : Ak) : Bool :=
 if e.kd = 1 then !fullB (lnN f e.rg).R && decide ((e.tk : Int) = ((lnN f e.rg).R.tail : Int)) else if e.kd = 2 then rfreeB (lnN f e.rg).R e.tk else if e.kd = 3 then !emptyB (lnN f e.rg).R a.rd && decide ((e.tk : Int) = (headV (lnN f e.rg).R a.rd : Int))
 else if e.kd = 4 then rhasB (lnN f e.rg).R a.rd e.tk else if e.kd = 13 then decide ((e.tk : Int) = ((lnN f e.rg).R.tail : Int)) else true
structure EaC (w0 w : World) (F r i n cap : Nat) (pre post : List Value) (x : La) (e : Ev) (a : Ak) : Prop where
 c4 : w.cell? ⟨F, 4, none⟩ = some (.slice (some ⟨r, 0, none⟩) n cap)
 le : Lies w w0.heap.size 43 (evC e)
 la : Lies w (w0.heap.size + 1) 63 (akC a)
 rg : RgAt w r 97 pre (.bool x.cl :: post) x.R
 cb : w.cell? ⟨r, i * 207 + 206, none⟩ = some (.bool x.cl)
theorem quiet_eq {P : Program} {f : FuncId} {args : Array Value} {w : World} {n : Nat} {v : Value} (h : Calls P f args (w.drewN n) fun e w' => e = .returned v ∧ w.drewN n = w') : Calls P f args (w.drewN n) fun e w'' => e = .returned v ∧ ∃ m, w'' = w.drewN m :=
 h.mono fun _ _ ⟨he, hm⟩ => ⟨he, n, hm.symm⟩
theorem quiet_add {P : Program} {f : FuncId} {args : Array Value} {w : World} {a k : Nat} {v : Value} (h : Calls P f args (w.drewN (a + k)) fun e w' => e = .returned v ∧ ∃ m, w' = (w.drewN (a + k)).drewN m) : Calls P f args (w.drewN (a + k)) fun e w'' => e = .returned v ∧ ∃ m, w'' = w.drewN (a + m) :=
 h.mono fun _ _ ⟨he, m, hm⟩ => ⟨he, k + m, by rw [hm, World.drewN_drewN, Nat.add_assoc]⟩
theorem quiet_addeq {P : Program} {f : FuncId} {args : Array Value} {w : World} {a k : Nat} {v : Value} (h : Calls P f args (w.drewN (a + k)) fun e w' => e = .returned v ∧ w.drewN (a + k) = w') : Calls P f args (w.drewN (a + k)) fun e w'' => e = .returned v ∧ ∃ m, w'' = w.drewN (a + m) :=
 h.mono fun _ _ ⟨he, hm⟩ => ⟨he, k, hm.symm⟩
section
variable {w w' : World} {B F : Nat} {f : Fb} {z : Fv}
theorem FabAt.lane (h : FabAt w B F f z) (ok : FbOk f) {i : Int} (h0 : 0 ≤ i) (h1 : i < (f.p.rs.length : Int)) : ∃ r cap pre post, z.lv = .slice (some ⟨r, 0, none⟩) f.p.rs.length cap ∧ f.p.rs.length ≤ cap ∧ cap ≤ 9223372036854775807 ∧ B ≤ r ∧ pre.length = i.toNat * 207 ∧ RgAt w r 97 pre (.bool (lnN f i).cl :: post) (lnN f i).R ∧
  w.cell? ⟨r, i.toNat * 207 + 206, none⟩ = some (.bool (lnN f i).cl) := by
 have hx : f.ln[i.toNat]? = some (lnN f i) := by
  unfold lnN
  rw [List.getD_eq_getElem?_getD, List.getElem?_eq_getElem (by rw [ok.ll]; omega)]; rfl
 obtain ⟨r, cap, pre, post, e1, q1, q2, q3, q4, q5, q6, q7, q8, q9⟩ := h.lr.at_ hx
 rw [ok.ll] at e1 q1
 unfold maxLen at q2
 exact ⟨r, cap, pre, post, e1, q1, by omega, q3, q5, q6, q7⟩
set_option maxHeartbeats 4000000 in
set_option maxRecDepth 100000 in
theorem fbFed (e : Ev) (a : Ak) (h : FabAt w B F f z) (ok : FbOk f) (hr : onLane e.kd → 0 ≤ e.rg ∧ e.rg < (f.p.rs.length : Int)) (ht : e.tk ≤ 18446744073709551615) :
  Calls Tryz.prog 56 #[.pointer (some ⟨F, 0, none⟩), .agg (evC e), .agg (akC a)] w fun q w' => q = .returned (.bool (fedF f e a)) ∧ Below w.heap.size w w' := by
 have hb := ((Below.refl w.heap.size w).alloc (Nat.le_refl _) (.cells (evC e) 43)).alloc (by simp) (.cells (akC a) 63)
 have le := (Lies.made w 43 (evC e)).alloc (.cells (akC a) 63)
 have la := Lies.made (w.alloc (.cells (evC e) 43)) 63 (akC a)
 rw [show (w.alloc (.cells (evC e) 43)).heap.size = w.heap.size + 1 by simp] at la
 have h1 := h.later hb
 by_cases hk : e.kd = 1 ∨ e.kd = 2 ∨ e.kd = 3 ∨ e.kd = 4 ∨ e.kd = 13
 case neg =>
  have k1 : (e.kd == 1) = false := by rw [beq_eq_false_iff_ne]; omega
  have k2 : (e.kd == 2) = false := by rw [beq_eq_false_iff_ne]; omega
  have k3 : (e.kd == 3) = false := by rw [beq_eq_false_iff_ne]; omega
  have k4 : (e.kd == 4) = false := by rw [beq_eq_false_iff_ne]; omega
  have k5 : (e.kd == 13) = false := by rw [beq_eq_false_iff_ne]; omega
  have HX : Hid (fedF f e a = true) := by show _ = _; unfold fedF; rw [if_neg (by omega), if_neg (by omega), if_neg (by omega), if_neg (by omega), if_neg (by omega)]
  have c1 := (le.cell 1).trans (show _ = some (Value.int .i64 e.kd) from rfl)
  have HB := Lib.hid hb
  clear hk hr hb le la h1 h ok
  go_enter Tryz.func56, Tryz.ntmps56
  go_wp2
  go_ret
  exact ⟨by rw [HX.out]; rfl, HB.out⟩
 obtain ⟨g0, g1⟩ := hr (by unfold onLane; omega)
 obtain ⟨r, cap, pre, post, ez, q1, q2, q3, q4, q5, q6⟩ := h1.lane ok g0 g1
 obtain ⟨_, _, _, _, cl4, _⟩ := h1.cells
 rw [ez] at cl4
 have HEA : Hid (EaC w _ F r e.rg.toNat f.p.rs.length cap pre post (lnN f e.rg) e a) := ⟨cl4, le, la, q5, q6⟩
 obtain ⟨i, hi⟩ : ∃ i : Nat, e.rg = (i : Int) := ⟨e.rg.toNat, by omega⟩
 obtain ⟨FD, hFD⟩ : ∃ b, fedF f e a = b := ⟨_, rfl⟩
 rw [hFD]
 unfold fedF at hFD
 have HXF := Lib.hid hFD.symm
 clear hFD
 rw [hi, Int.toNat_natCast] at HEA
 rw [hi, Int.toNat_natCast] at q4
 obtain ⟨x, hx⟩ : ∃ x, lnN f e.rg = x := ⟨_, rfl⟩
 rw [hx] at HXF
 rw [hi] at hx
 rw [hx] at HEA
 obtain ⟨n, hn⟩ : ∃ n, f.p.rs.length = n := ⟨_, rfl⟩
 rw [hn] at HEA g1 q1
 have hii : (i : Int) < (n : Int) := by omega
 have HB := Lib.hid hb
 have hlf := h1.lt
 have HI := Lib.hid hi
 have HPR := Lib.hid q4
 clear hr hb le la h1 h ok q3 q5 q6 cl4 hx hn ez g0 g1 hi q4
 have c4 := HEA.out.c4
 have d1 := (HEA.out.le.cell 1).trans (show _ = some (Value.int .i64 e.kd) from rfl)
 have d2 := (HEA.out.le.cell 2).trans (show _ = some (Value.int .i64 e.rg) from rfl)
 have d3 := (HEA.out.le.cell 3).trans (show _ = some (Value.int .u64 (e.tk : Int)) from rfl)
 have a3 := (HEA.out.la.cell 3).trans (show _ = some (.int .i64 a.rd) from rfl)
 rw [HI.out] at d2
 generalize hW : (w.alloc (.cells (evC e) 43)).alloc (.cells (akC a) 63) = W at *
 have HR := Lib.hid (fun k => show RgAt (W.drewN k) r 97 pre (.bool x.cl :: post) x.R from HEA.out.rg)
 rcases hk with hk | hk | hk | hk | hk
 ·rw [if_pos hk] at HXF
  rw [hk] at d1
  clear hk
  have HFU := Lib.hid (fun k => rgFull (HR.out k) HPR.out)
  have HTA := Lib.hid (fun k => rgTail (HR.out k) HPR.out)
  obtain ⟨fb, hfb⟩ : ∃ b, fullB x.R = b := ⟨_, rfl⟩
  rw [hfb] at HXF HFU
  clear hfb HR HEA HPR a3
  go_enter Tryz.func56, Tryz.ntmps56
  go_upto_region 1 with (fail)
  cases fb
  all_goals
   go_wp2_with fail
   go_quiet (fail)
   all_goals
    go_wp2_with fail
    go_quiet (first | (go_at_call 87; exact quiet_add (HFU.out _)) | (go_at_call 88; exact quiet_addeq (HTA.out _)))
    all_goals
     go_wp2_with fail
     go_ret
     exact ⟨ret_bool (by rw [HXF.out]; rfl), by first | exact below_drewN HB.out _ | exact below_drewN (below_drewN HB.out _) _ | exact HB.out⟩
 ·rw [if_neg (by omega), if_pos hk] at HXF
  rw [hk] at d1
  clear hk
  have HFR := Lib.hid (fun k => rgFree e.tk (HR.out k) HPR.out ht)
  clear HR HEA HPR a3
  go_enter Tryz.func56, Tryz.ntmps56
  go_upto_region 1 with (fail)
  go_wp2_with fail
  go_quiet ((go_at_call 89; exact Calls.quiet_of (HFR.out _)))
  all_goals
   go_wp2_with fail
   go_ret
   exact ⟨ret_bool (by rw [HXF.out]), below_drewN HB.out _⟩
 ·rw [if_neg (by omega), if_neg (by omega), if_pos hk] at HXF
  rw [hk] at d1
  clear hk
  have HEM := Lib.hid (fun k => rgEmpty a.rd (HR.out k) HPR.out)
  have HHE := Lib.hid (fun k => rgHead a.rd (HR.out k) HPR.out)
  obtain ⟨fb, hfb⟩ : ∃ b, emptyB x.R a.rd = b := ⟨_, rfl⟩
  rw [hfb] at HXF HEM
  clear hfb HR HEA HPR
  go_enter Tryz.func56, Tryz.ntmps56
  go_upto_region 1 with (fail)
  cases fb
  all_goals
   go_wp2_with fail
   go_quiet (fail)
   all_goals
    go_wp2_with fail
    go_quiet (first | (go_at_call 90; exact quiet_add (HEM.out _)) | (go_at_call 91; exact quiet_addeq (HHE.out _)))
    all_goals
     go_wp2_with fail
     go_ret
     exact ⟨ret_bool (by rw [HXF.out]; rfl), by first | exact below_drewN HB.out _ | exact below_drewN (below_drewN HB.out _) _ | exact HB.out⟩
 ·rw [if_neg (by omega), if_neg (by omega), if_neg (by omega), if_pos hk] at HXF
  rw [hk] at d1
  clear hk
  have HHA := Lib.hid (fun w' (q : Below W.heap.size W w') => rgHas a.rd e.tk (HEA.out.rg.later q) HPR.out ht)
  clear HR HEA HPR
  go_enter Tryz.func56, Tryz.ntmps56
  go_upto_region 1 with (fail)
  go_wp2_with fail
  go_still_tail 12, (by kernel_rfl)
  clear c4 d1 d2 d3 a3
  go_wp2_with fail
  refine (HHA.out _ (Below.refl _ _).drew).mono ?_
  rintro q w3 ⟨rfl, hb3⟩
  go_wp2_with fail
  go_ret
  exact ⟨ret_bool (by rw [HXF.out]), HB.out.trans ((Below.refl _ _).drew.trans (hb3.mono HB.out.size))⟩
 ·rw [if_neg (by omega), if_neg (by omega), if_neg (by omega), if_neg (by omega), if_pos hk] at HXF
  rw [hk] at d1
  clear hk
  have HTA := Lib.hid (fun k => rgTail (HR.out k) HPR.out)
  clear HR HEA HPR a3
  go_enter Tryz.func56, Tryz.ntmps56
  go_upto_region 1 with (fail)
  go_wp2_with fail
  go_quiet ((go_at_call 88; exact quiet_eq (HTA.out _)))
  all_goals
   go_wp2_with fail
   go_ret
   exact ⟨ret_bool (by rw [HXF.out]; rfl), below_drewN HB.out _⟩
end
def setL (f : Fb) (i : Int) (R : Rg) (c : Bool) : Fb := { f with ln := f.ln.set i.toNat ⟨R, c⟩ }
def movF (f : Fb) (e : Ev) (a : Ak) : Fb × Nat :=
 if e.kd = 1 then (setL f e.rg (claimR (lnN f e.rg).R) (lnN f e.rg).cl, 0)
 else if e.kd = 2 then (setL f e.rg (pubR (lnN f e.rg).R e.tk a.vl) (lnN f e.rg).cl, 0)
 else if e.kd = 3 then (setL f e.rg (takeR (lnN f e.rg).R a.rd) (lnN f e.rg).cl, 0)
 else if e.kd = 4 then (setL f e.rg (relR (lnN f e.rg).R a.rd e.tk) (lnN f e.rg).cl, relV (lnN f e.rg).R a.rd e.tk)
 else if e.kd = 13 then (setL f e.rg (lnN f e.rg).R true, 0)
 else if e.kd = 8 then ({ f with now := max f.now e.vl }, 0)
 else if e.kd = 10 then ({ f with rds := (f.rds + 1) % 18446744073709551616 }, 0)
 else if e.kd = 11 then ({ f with en := true }, 0)
 else (f, 0)
theorem rg_close {w : World} {r o : Nat} {T : TypeId} {pre post : List Value} {R : Rg} {c : Bool} (h : RgAt w r T pre (.bool c :: post) R) (ho : pre.length = o) (c' : Bool) : RgAt (w.setCell ⟨r, o + 206, none⟩ (.bool c')) r T pre (.bool c' :: post) R := by
 obtain ⟨h1, M, h2, h3, h4⟩ := h
 refine ⟨h1, M, h2, h3, ?_⟩
 have h5 := Lies.putL h4 (o + 206) (.bool c')
 have e1 : (pre ++ cuR R).length = o + 12 := by rw [List.length_append, cuR_length h1, ho]
 have e2 : (slObj R.rd R.L M).length = 194 := by rw [slObj_length, h2]
 rw [List.set_append_right _ _ (by omega), e1, List.set_append_right _ _ (by omega), e2, show o + 206 - (o + 12) - 194 = 0 by omega, List.set_cons_zero] at h5
 exact h5
section
variable {w w' : World} {B F : Nat} {f : Fb} {z : Fv}
theorem FabAt.turn (h : FabAt w B F f z) (ok : FbOk f) {i : Int} (h0 : 0 ≤ i) (h1 : i < (f.p.rs.length : Int)) : ∃ r cap pre post, z.lv = .slice (some ⟨r, 0, none⟩) f.p.rs.length cap ∧ f.p.rs.length ≤ cap ∧ cap ≤ 9223372036854775807 ∧ B ≤ r ∧ pre.length = i.toNat * 207 ∧ r ≠ F ∧
  RgAt w r 97 pre (.bool (lnN f i).cl :: post) (lnN f i).R ∧ w.cell? ⟨r, i.toNat * 207 + 206, none⟩ = some (.bool (lnN f i).cl) ∧ (∀ j, w.frozen? ⟨r, j, none⟩ = false) ∧
  ∀ (q : World) (R' : Rg) (c' : Bool), Kept (oneRow r) w q → RgAt q r 97 pre (.bool c' :: post) R' → FabAt q B F (setL f i R' c') z ∧ Below B w q := by
 have hx : f.ln[i.toNat]? = some (lnN f i) := by
  unfold lnN
  rw [List.getD_eq_getElem?_getD, List.getElem?_eq_getElem (by rw [ok.ll]; omega)]; rfl
 obtain ⟨r, cap, pre, post, e1, q1, q2, q3, q4, q5, q6, q7, q8, q9⟩ := h.lr.at_ hx
 rw [ok.ll] at e1 q1
 unfold maxLen at q2
 obtain ⟨M, _, _, hl⟩ := q6.2
 have hne : r ≠ F := fun e => by subst e; exact absurd (hl.same h.box).1 (by decide)
 refine ⟨r, cap, pre, post, e1, q1, by omega, q3, q5, hne, q6, q7, q8, fun q R' c' hk hq => ⟨?_, ?_⟩⟩
 ·exact h.keptL hk hl (q9 q R' c' hq) (by rw [List.length_set])
 ·exact hk.below (Nat.le_trans h.hB (Nat.le_of_lt h.lt)) (fun j hj (e : j = r) => by omega)
theorem FabAt.turnF {n r : Nat} {b : Bool} (h : FabAt w B F f z) (k : Kept (oneRow F) w w') (hl : Lies w' F 82 (fbC { f with now := n, rds := r, en := b } z)) : FabAt w' B F { f with now := n, rds := r, en := b } z := by
 have no : ∀ {r e cur}, Lies w r e cur → e ≠ 82 → ¬ oneRow F r := fun {r e cur} h1 h2 (h3 : r = F) => by subst h3; exact h2 (h1.same h.box).1
 exact ⟨hl, h.pg.kept k (fun r e cur he h1 => no h1 (by rcases he with rfl | rfl | rfl <;> decide)), owns_kept h.tr k (fun r cur _ h1 => no h1 (by decide)),
  h.sr.kept k (fun r a _ h1 => no h1 (by decide)) (fun _ r a _ _ h1 => no h1 (by decide)), h.lr.kept k (fun r cur h1 => no h1 (by decide)), h.hB⟩
def MvPost (w : World) (B F : Nat) (z : Fv) (p : Fb × Nat) (q : Ending) (w' : World) : Prop := q = .returned (.int .u64 (p.2 : Int)) ∧ FabAt w' B F p.1 z ∧ Kept (FpOf F z) w w'
set_option maxHeartbeats 4000000 in
set_option maxRecDepth 100000 in
theorem fbMove (e : Ev) (a : Ak) (h : FabAt w B F f z) (ok : FbOk f) (hr : onLane e.kd → 0 ≤ e.rg ∧ e.rg < (f.p.rs.length : Int)) (ht : e.tk ≤ 18446744073709551615) (hv : a.vl ≤ 18446744073709551615) (hev : e.vl ≤ 18446744073709551615) (htl : e.kd = 1 → (lnN f e.rg).R.tail < 4611687117939015680) :
  Calls Tryz.prog 84 #[.pointer (some ⟨F, 0, none⟩), .agg (evC e), .agg (akC a)] w (MvPost w B F z (movF f e a)) := by
 have hb := ((Below.refl w.heap.size w).alloc (Nat.le_refl _) (.cells (evC e) 43)).alloc (by simp) (.cells (akC a) 63)
 have le := (Lies.made w 43 (evC e)).alloc (.cells (akC a) 63)
 have la := Lies.made (w.alloc (.cells (evC e) 43)) 63 (akC a)
 rw [show (w.alloc (.cells (evC e) 43)).heap.size = w.heap.size + 1 by simp] at la
 have h1 := h.later hb
 obtain ⟨MF, hMF⟩ : ∃ b, movF f e a = b := ⟨_, rfl⟩
 rw [hMF]
 unfold movF at hMF
 have d1 := (le.cell 1).trans (show _ = some (Value.int .i64 e.kd) from rfl)
 have d2 := (le.cell 2).trans (show _ = some (Value.int .i64 e.rg) from rfl)
 have d3 := (le.cell 3).trans (show _ = some (Value.int .u64 (e.tk : Int)) from rfl)
 have d4 := (le.cell 4).trans (show _ = some (Value.int .u64 (e.vl : Int)) from rfl)
 have a3 := (la.cell 3).trans (show _ = some (.int .i64 a.rd) from rfl)
 have a5 := (la.cell 5).trans (show _ = some (.int .u64 (a.vl : Int)) from rfl)
 have hlf := h1.lt
 have hbs := hb.size
 generalize hW : (w.alloc (.cells (evC e) 43)).alloc (.cells (akC a) 63) = W at *
 have HB := Lib.hid hb
 have H1 := Lib.hid h1
 have HKF : Hid (∀ q, Kept (oneRow F) W q → Kept (FpOf F z) w q) := fun q k => ((Kept.of_below HB.out).mono (fun _ _ (hx : False) => hx.elim)).trans k (fun i hi (e : i = F) => .inl e)
 by_cases hk : e.kd = 1 ∨ e.kd = 2 ∨ e.kd = 3 ∨ e.kd = 4 ∨ e.kd = 13
 case neg =>
  rw [if_neg (by omega), if_neg (by omega), if_neg (by omega), if_neg (by omega), if_neg (by omega)] at hMF
  have hno : ¬ (e.kd = 1) ∧ ¬ (e.kd = 2) ∧ ¬ (e.kd = 3) ∧ ¬ (e.kd = 4) ∧ ¬ (e.kd = 13) := by omega
  obtain ⟨n1, n2, n3, n4, n5⟩ := hno
  have k1 : (e.kd == 1) = false := beq_eq_false_iff_ne.2 n1
  have k2 : (e.kd == 2) = false := beq_eq_false_iff_ne.2 n2
  have k3 : (e.kd == 3) = false := beq_eq_false_iff_ne.2 n3
  have k4 : (e.kd == 4) = false := beq_eq_false_iff_ne.2 n4
  have k5 : (e.kd == 13) = false := beq_eq_false_iff_ne.2 n5
  obtain ⟨hnb1, hnb2⟩ := ok.nb
  obtain ⟨c0, c1, c2, c3, c4, c5, c6, c7⟩ := h1.cells
  have HFR : Hid (∀ j, W.frozen? ⟨F, j, none⟩ = false) := fun j => h1.box.free j
  have hfz := HFR.out
  clear hk hr hb le la h1 h ok n1 n2 n3 n4 n5 c0 c1 c2 c3 c4 d2 d3 a3 a5 htl
  by_cases m8 : e.kd = 8
  ·rw [if_pos m8] at hMF
   rw [m8] at d1
   clear m8 k1 k2 k3 k4 k5
   subst hMF
   go_enter Tryz.func84, Tryz.ntmps84
   go_upto_region 1 with (fail)
   go_wp2_with fail
   go_region
   go_wp2_with fail
   go_ret
   have HL := (H1.out.box.put 5 (.int .u64 (max (f.now : Int) (e.vl : Int))))
   rw [show (max (f.now : Int) (e.vl : Int)) = ((max f.now e.vl : Nat) : Int) by omega] at HL ⊢
   have HK := (Kept.put W F 5 (.int .u64 ((max f.now e.vl : Nat) : Int))).trans (Kept.drew (oneRow F) _) (fun _ _ h => h)
   exact ⟨rfl, H1.out.turnF HK HL, HKF.out _ HK⟩
  ·rw [if_neg m8] at hMF
   have k8 : (e.kd == 8) = false := beq_eq_false_iff_ne.2 m8
   by_cases m10 : e.kd = 10
   ·rw [if_pos m10] at hMF
    rw [m10] at d1
    subst hMF
    clear m8 m10 k1 k2 k3 k4 k5 k8
    go_enter Tryz.func84, Tryz.ntmps84
    go_upto_region 1 with (fail)
    go_wp2_with fail
    go_ret
    have HL := (H1.out.box.put 6 (.int .u64 (((f.rds + 1) % 18446744073709551616 : Nat) : Int)))
    have HK := Kept.put W F 6 (.int .u64 (((f.rds + 1) % 18446744073709551616 : Nat) : Int))
    have hwr : IntKind.u64.wrap ((f.rds : Int) + 1) = (((f.rds + 1) % 18446744073709551616 : Nat) : Int) := by
     rw [Int.natCast_emod]; rfl
    rw [hwr]
    exact ⟨rfl, H1.out.turnF HK HL, HKF.out _ HK⟩
   ·rw [if_neg m10] at hMF
    have k10 : (e.kd == 10) = false := beq_eq_false_iff_ne.2 m10
    by_cases m11 : e.kd = 11
    ·rw [if_pos m11] at hMF
     rw [m11] at d1
     subst hMF
     clear m8 m10 m11 k1 k2 k3 k4 k5 k8 k10
     go_enter Tryz.func84, Tryz.ntmps84
     go_upto_region 1 with (fail)
     go_wp2_with fail
     go_ret
     have HL := H1.out.box.put 7 (.bool true)
     have HK := Kept.put W F 7 (.bool true)
     exact ⟨rfl, H1.out.turnF HK HL, HKF.out _ HK⟩
    ·rw [if_neg m11] at hMF
     have k11 : (e.kd == 11) = false := beq_eq_false_iff_ne.2 m11
     subst hMF
     clear m8 m10 m11
     go_enter Tryz.func84, Tryz.ntmps84
     go_upto_region 1 with (fail)
     go_wp2_with fail
     go_ret
     exact ⟨rfl, H1.out, (Kept.of_below HB.out).mono (fun _ _ (hx : False) => hx.elim)⟩
 obtain ⟨g0, g1⟩ := hr (by unfold onLane; omega)
 obtain ⟨r, cap, pre, post, ez, q1, q2, q3, q4, hrF, q5, q6, q7, hT⟩ := h1.turn ok g0 g1
 obtain ⟨_, _, _, _, c4, _⟩ := h1.cells
 rw [ez] at c4
 have HTU : Hid (∀ (q : World) (R' : Rg) (c' : Bool), Kept (oneRow r) W q → RgAt q r 97 pre (.bool c' :: post) R' → FabAt q B F (setL f e.rg R' c') z ∧ Kept (FpOf F z) w q) := fun q R' c' k hq =>
  ⟨(hT q R' c' k hq).1, ((Kept.of_below HB.out).mono (fun _ _ (hx : False) => hx.elim)).trans k (fun i hi (e : i = r) => .inr (.inr (.inr (.inl (by rw [ez, e]; rfl)))))⟩
 obtain ⟨i, hi⟩ : ∃ i : Nat, e.rg = (i : Int) := ⟨e.rg.toNat, by omega⟩
 have HI := Lib.hid hi
 rw [hi] at d2
 rw [show e.rg.toNat = i by omega] at q4 q6
 obtain ⟨x, hx⟩ : ∃ x, lnN f e.rg = x := ⟨_, rfl⟩
 rw [hx] at hMF q5 q6 htl
 have HRG := Lib.hid q5
 have HPR := Lib.hid q4
 have HDW := Lib.hid (Kept.drew (oneRow r) W)
 have hfz := q7
 obtain ⟨n, hn⟩ : ∃ n, f.p.rs.length = n := ⟨_, rfl⟩
 rw [hn] at c4 g1 q1
 have hii : (i : Int) < (n : Int) := by omega
 clear hr hb le la h1 h ok q3 q4 q5 ez hT hx hn g0 g1 hi
 rcases hk with hk | hk | hk | hk | hk
 ·rw [if_pos hk] at hMF
  subst hMF
  have HC := Lib.hid (fun q (hq : Below W.heap.size W q) => rgClaim (HRG.out.later hq) HPR.out (htl hk))
  rw [hk] at d1
  clear hk htl HRG HPR q6
  go_enter Tryz.func84, Tryz.ntmps84
  go_upto_region 1 with (fail)
  go_wp2_with fail
  go_still_tail 8, (by kernel_rfl)
  clear c4 d1 d2 d3 d4 a3 a5 hfz
  go_wp2_with fail
  refine (HC.out _ (Below.refl _ _).drew).mono ?_
  rintro q w3 ⟨rfl, hrg, hkp⟩
  go_wp2_with fail
  go_ret
  exact ⟨rfl, HTU.out w3 _ _ (HDW.out.trans hkp (fun _ _ h => h)) hrg⟩
 ·rw [if_neg (by omega), if_pos hk] at hMF
  subst hMF
  have HC := Lib.hid (fun q (hq : Below W.heap.size W q) => rgPublish e.tk a.vl (HRG.out.later hq) HPR.out ht hv)
  rw [hk] at d1
  clear hk htl HRG HPR q6
  go_enter Tryz.func84, Tryz.ntmps84
  go_upto_region 1 with (fail)
  go_wp2_with fail
  go_still_tail 12, (by kernel_rfl)
  clear c4 d1 d2 d3 d4 a3 a5 hfz
  go_wp2_with fail
  refine (HC.out _ (Below.refl _ _).drew).mono ?_
  rintro q w3 ⟨rfl, hrg, hkp⟩
  go_wp2_with fail
  go_ret
  exact ⟨rfl, HTU.out w3 _ _ (HDW.out.trans hkp (fun _ _ h => h)) hrg⟩
 ·rw [if_neg (by omega), if_neg (by omega), if_pos hk] at hMF
  subst hMF
  have HC := Lib.hid (fun q (hq : Below W.heap.size W q) => rgTake a.rd (HRG.out.later hq) HPR.out)
  rw [hk] at d1
  clear hk htl HRG HPR q6
  go_enter Tryz.func84, Tryz.ntmps84
  go_upto_region 1 with (fail)
  go_wp2_with fail
  go_still_tail 10, (by kernel_rfl)
  clear c4 d1 d2 d3 d4 a3 a5 hfz
  go_wp2_with fail
  refine (HC.out _ (Below.refl _ _).drew).mono ?_
  rintro q w3 ⟨rfl, hrg, hkp⟩
  go_wp2_with fail
  go_ret
  exact ⟨rfl, HTU.out w3 _ _ (HDW.out.trans hkp (fun _ _ h => h)) hrg⟩
 ·rw [if_neg (by omega), if_neg (by omega), if_neg (by omega), if_pos hk] at hMF
  subst hMF
  have HC := Lib.hid (fun q (hq : Below W.heap.size W q) => rgRelease a.rd e.tk (HRG.out.later hq) HPR.out ht)
  rw [hk] at d1
  clear hk htl HRG HPR q6
  go_enter Tryz.func84, Tryz.ntmps84
  go_upto_region 1 with (fail)
  go_wp2_with fail
  go_region_with (go_at_call 123; refine (HC.out _ (Below.refl _ _).drew).mono ?_; rintro q w3 ⟨rfl, hrg, hkp⟩)
  all_goals
   go_wp2_with fail
   go_ret
   exact ⟨rfl, HTU.out w3 _ _ (HDW.out.trans hkp (fun _ _ h => h)) hrg⟩
 ·rw [if_neg (by omega), if_neg (by omega), if_neg (by omega), if_neg (by omega), if_pos hk] at hMF
  subst hMF
  rw [hk] at d1
  clear hk htl d3 d4 a3 a5
  go_enter Tryz.func84, Tryz.ntmps84
  go_upto_region 1 with (fail)
  go_wp2_with fail
  go_region
  go_wp2_with fail
  go_ret
  have HR9 := rg_close HRG.out HPR.out true
  have HK := (Kept.put W r (i * 207 + 206) (.bool true)).trans (Kept.drew (oneRow r) _) (fun _ _ h => h)
  exact ⟨rfl, HTU.out _ _ _ HK HR9⟩
end
theorem still_load_mid {P : Program} {o : Oper} {a : Act} {w : World} {next : Act → Prop} (ty : TypeId) (x : Operand) (ho : o.op = .load ty x) (b off : Nat) (hx : a.eval x = .pointer (some ⟨b, off, none⟩)) (v : Value)
  (hl : (loadVar ty ⟨b, off, none⟩).run P w = .ok v w) (hn : next (a.put o.dst v)) : o.still P a w next := by
 unfold Oper.still execOp
 simp only [ho, hx, Instr.loadAt, Instr.sureAddr, Sem.run_bind, Sem.run_pure, Result.andThen_ok, hl]
 exact ⟨rfl, hn⟩
theorem still_build {P : Program} {o : Oper} {a : Act} {w : World} {next : Act → Prop} (ty : TypeId) (x y : Operand) (ho : o.op = .build ty #[(0, x), (1, y)]) (u v z : Value) (hx : a.eval x = u) (hy : a.eval y = v)
  (hl : (Instr.build ty #[(0, u), (1, v)]).run P w = .ok z w) (hn : next (a.put o.dst z)) : o.still P a w next := by
 unfold Oper.still execOp
 simp only [ho, Sem.run_bind, Sem.run_pure, Result.andThen_ok]
 simp [hx, hy, hl]
 exact ⟨rfl, hn⟩
def newR (cap rd : Nat) : Rg := ⟨cap, rd, 0, [0, 0, 0, 0, 0, 0, 0, 0], false, newS cap⟩
theorem newR_ok {cap rd : Nat} (h1 : 1 ≤ cap) (h2 : cap ≤ 64) (h3 : 1 ≤ rd) (h4 : rd ≤ 8) : RgOk (newR cap rd) :=
 ⟨rfl, newS_ok h1 h2 h3 h4, (newS_length cap).symm, by unfold newR; simp only; omega, fun h hh => by unfold newR at hh; simp at hh; subst hh; unfold newR; exact Nat.le_refl _⟩
theorem slUnder : Tryz.prog.underlying 93 = some (.struct (Tryz.prog.fieldsOf 93)) := by kernel_rfl
theorem slInfo : (Tryz.prog.info? 93).map (·.size) = some 194 := by kernel_rfl
set_option maxHeartbeats 2000000 in
set_option maxRecDepth 100000 in
theorem rgNew (k : Int) (cap rd : Nat) (w : World) (h1 : 1 ≤ cap) (h2 : cap ≤ 64) (h3 : 1 ≤ rd) (h4 : rd ≤ 8) (hk : k = 1 ∧ rd = 1 ∨ k = 2) :
  Calls Tryz.prog 38 #[.agg #[.int .i64 k, .int .i64 cap, .int .i64 rd]] w fun e w' => ∃ g, e = .returned (.tuple #[.pointer (some ⟨g, 0, none⟩), .int .i64 0]) ∧ w.heap.size ≤ g ∧
   RgAt w' g 95 [] [] (newR cap rd) ∧ Below w.heap.size w w' := by
 have hwc : IntKind.u64.wrap (cap : Int) = (cap : Int) := by rw [IntKind.wrap_u64]; omega
 have hb0 := (Below.refl w.heap.size w).alloc (Nat.le_refl _) (.cells #[.int .i64 k, .int .i64 (cap : Int), .int .i64 (rd : Int)] 84)
 have li := Lies.made w 84 #[.int .i64 k, .int .i64 (cap : Int), .int .i64 (rd : Int)]
 have hN := slotsNew cap rd (w.alloc (.cells #[.int .i64 k, .int .i64 (cap : Int), .int .i64 (rd : Int)] 84)) h1 h2 h3 h4
 have HB0 := Lib.hid hb0
 have LI := Lib.hid li
 have HN := Lib.hid hN
 clear hb0 li hN
 have main : ∀ w1, Below (w.alloc (.cells #[.int .i64 k, .int .i64 (cap : Int), .int .i64 (rd : Int)] 84)).heap.size (w.alloc (.cells #[.int .i64 k, .int .i64 (cap : Int), .int .i64 (rd : Int)] 84)) w1 →
   SlAt w1 (w.heap.size + 1) 93 [] [] rd (newS cap) →
   Hid (w1.cell? ⟨w.heap.size, 1, none⟩ = some (.int .i64 (cap : Int)) ∧ w1.cell? ⟨w.heap.size, 2, none⟩ = some (.int .i64 (rd : Int)) ∧ Below w.heap.size w w1 ∧ ∃ cs : List Value, cs.length = 194 ∧
    (∀ n, (loadVar 93 ⟨w.heap.size + 1, 0, none⟩).run Tryz.prog (w1.drewN n) = .ok (.agg cs.toArray) (w1.drewN n)) ∧
    ∀ w2, Lies w2 w1.heap.size 95 (cuF cap rd 0 [0, 0, 0, 0, 0, 0, 0, 0] false ++ cs).toArray → RgAt w2 w1.heap.size 95 [] [] (newR cap rd)) := by
  intro w1 hb hs
  have l1 := LI.out.below hb (by simp)
  obtain ⟨M, m1, m2, m3⟩ := id hs
  have hcl : (slObj rd (newS cap) M).length = 194 := by rw [slObj_length, m1]
  rw [List.nil_append, List.append_nil] at m3
  refine ⟨(l1.cell 1).trans rfl, (l1.cell 2).trans rfl, HB0.out.trans (hb.mono HB0.out.size), slObj rd (newS cap) M, hcl, fun n => ?_, fun w2 h2' => ⟨newR_ok h1 h2 h3 h4, M, m1, m2, ?_⟩⟩
  ·refine run_loadVar_mid (w1.drewN n) (w.heap.size + 1) 0 _ _ _ (fun j v hv => ?_) slUnder rfl (by rw [hcl]; exact slInfo)
   have := m3.cell j
   rw [List.getElem?_toArray, hv] at this
   rw [Nat.zero_add]; exact this
  ·rw [List.nil_append, List.append_nil]
   exact h2'
 have HM := Lib.hid main
 clear main
 have z1 : (w.alloc (.cells #[.int .i64 k, .int .i64 (cap : Int), .int .i64 (rd : Int)] 84)).heap.size = w.heap.size + 1 := by simp
 rw [z1] at HN HM
 have hbd := fun (cs : List Value) (hcs : cs.length = 194) w => ring_build w cap rd cs hcs
 have HBD : Hid (∀ (cs : List Value), cs.length = 194 → ∀ w, (Instr.build 95 #[(0, .agg #[.int .u64 (cap : Int), .int .i64 (rd : Int), .int .u64 0, .int .u64 0, .int .u64 0, .int .u64 0, .int .u64 0, .int .u64 0, .int .u64 0, .int .u64 0, .int .u64 0, .bool false]), (1, .agg cs.toArray)]).run Tryz.prog w = .ok (.agg (cuF cap rd 0 [0, 0, 0, 0, 0, 0, 0, 0] false ++ cs).toArray) w) := hbd
 clear hbd z1
 rcases hk with ⟨rfl, rfl⟩ | rfl
 ·go_enter Tryz.func38, Tryz.ntmps38
  go_wp2_with fail
  refine HN.out.mono ?_
  rintro e w1 ⟨rfl, hs, hb⟩
  obtain ⟨k0, k1, hbw, cs, hcs, hld, hfin⟩ := (HM.out w1 hb hs).out
  have hbd := HBD.out cs hcs
  have hld1 : (loadVar 93 ⟨w.heap.size + 1, 0, none⟩).run Tryz.prog w1.drew = .ok (.agg cs.toArray) w1.drew := hld 1
  have HFIN := Lib.hid hfin
  have HBW := Lib.hid hbw
  clear hs hb hld hfin hbw HM HBD HN LI HB0
  go_wp2
  refine wp_region_still_tail 10 (by kernel_rfl) (by kernel_rfl) ?_
  simp only [List.take_succ_cons, List.take_zero, List.drop_succ_cons, List.drop_zero]
  change wpStill _ _ w1.drew (fun a' => wpList _ _ _ _ a' w1.drew) _ _
  have HF2 : Hid (∀ w2, Lies w2 w1.drew.heap.size 95 (cuF cap 1 0 [0, 0, 0, 0, 0, 0, 0, 0] false ++ cs).toArray → RgAt w2 w1.drew.heap.size 95 [] [] (newR cap 1)) := HFIN
  have HB2 : Hid (Below w.heap.size w w1.drew) := below_drewN HBW.out 1
  have k0 : w1.drew.cell? ⟨w.heap.size, 1, none⟩ = some (.int .i64 (cap : Int)) := k0
  have k1 : w1.drew.cell? ⟨w.heap.size, 2, none⟩ = some (.int .i64 ((1 : Nat) : Int)) := k1
  clear HFIN HBW
  generalize w1.drew = w2 at *
  iterate 8 still_step
  refine wpStill_step (fun K hK => ?_)
  rw [if_pos (by kernel_rfl)]
  refine still_load_mid _ _ rfl _ _ rfl _ hld1 (hK _ ?_)
  clear hK K
  refine wpStill_step (fun K hK => ?_)
  rw [if_pos (by kernel_rfl)]
  refine still_build _ _ _ rfl _ _ _ rfl rfl (hbd w2) (hK _ ?_)
  clear hK K
  refine wpStill_nil ?_
  clear hbd hld1 k0 k1
  generalize (cuF cap 1 0 [0, 0, 0, 0, 0, 0, 0, 0] false ++ cs).toArray = arr at *
  generalize cs.toArray = arr2 at *
  try simp only [Act.put, List.setIfInBounds_toArray, List.set_cons_zero, List.set_cons_succ]
  go_wp2
  go_ret2
  exact ⟨_, rfl, HB2.out.size, HF2.out _ (Lies.made w2 _ _), HB2.out.alloc HB2.out.size _⟩
 ·go_enter Tryz.func38, Tryz.ntmps38
  go_wp2_with fail
  refine HN.out.mono ?_
  rintro e w1 ⟨rfl, hs, hb⟩
  obtain ⟨k0, k1, hbw, cs, hcs, hld, hfin⟩ := (HM.out w1 hb hs).out
  have hbd := HBD.out cs hcs
  have hld1 : (loadVar 93 ⟨w.heap.size + 1, 0, none⟩).run Tryz.prog w1.drew = .ok (.agg cs.toArray) w1.drew := hld 1
  have HFIN := Lib.hid hfin
  have HBW := Lib.hid hbw
  clear hs hb hld hfin hbw HM HBD HN LI HB0
  go_wp2
  refine wp_region_still_tail 10 (by kernel_rfl) (by kernel_rfl) ?_
  simp only [List.take_succ_cons, List.take_zero, List.drop_succ_cons, List.drop_zero]
  change wpStill _ _ w1.drew (fun a' => wpList _ _ _ _ a' w1.drew) _ _
  have HF2 : Hid (∀ w2, Lies w2 w1.drew.heap.size 95 (cuF cap rd 0 [0, 0, 0, 0, 0, 0, 0, 0] false ++ cs).toArray → RgAt w2 w1.drew.heap.size 95 [] [] (newR cap rd)) := HFIN
  have HB2 : Hid (Below w.heap.size w w1.drew) := below_drewN HBW.out 1
  have k0 : w1.drew.cell? ⟨w.heap.size, 1, none⟩ = some (.int .i64 (cap : Int)) := k0
  have k1 : w1.drew.cell? ⟨w.heap.size, 2, none⟩ = some (.int .i64 ((rd : Nat) : Int)) := k1
  clear HFIN HBW
  generalize w1.drew = w2 at *
  iterate 8 still_step
  refine wpStill_step (fun K hK => ?_)
  rw [if_pos (by kernel_rfl)]
  refine still_load_mid _ _ rfl _ _ rfl _ hld1 (hK _ ?_)
  clear hK K
  refine wpStill_step (fun K hK => ?_)
  rw [if_pos (by kernel_rfl)]
  refine still_build _ _ _ rfl _ _ _ rfl rfl (hbd w2) (hK _ ?_)
  clear hK K
  refine wpStill_nil ?_
  clear hbd hld1 k0 k1
  generalize (cuF cap rd 0 [0, 0, 0, 0, 0, 0, 0, 0] false ++ cs).toArray = arr at *
  generalize cs.toArray = arr2 at *
  try simp only [Act.put, List.setIfInBounds_toArray, List.set_cons_zero, List.set_cons_succ]
  go_wp2
  go_ret2
  exact ⟨_, rfl, HB2.out.size, HF2.out _ (Lies.made w2 _ _), HB2.out.alloc HB2.out.size _⟩
def RgRaw (w : World) (g : Nat) (T : TypeId) (p0 post : List Value) (R : Rg) : Prop := R.h8.length = 8 ∧ SlAt w g T (p0 ++ cuR R) post R.rd R.L
theorem cuR_len {R : Rg} (h : R.h8.length = 8) : (cuR R).length = 12 := by unfold cuR cuF; simp [h]
section
variable {w w' : World} {g o : Nat} {T : TypeId} {p0 post : List Value} {R : Rg}
theorem RgRaw.later (h : RgRaw w g T p0 post R) (hb : Below w.heap.size w w') : RgRaw w' g T p0 post R := ⟨h.1, h.2.later hb⟩
theorem RgRaw.drewN (h : RgRaw w g T p0 post R) (n : Nat) : RgRaw (w.drewN n) g T p0 post R := h
theorem RgRaw.lt (h : RgRaw w g T p0 post R) : g < w.heap.size := h.2.lt
theorem RgRaw.free (h : RgRaw w g T p0 post R) (i : Nat) : w.frozen? ⟨g, i, none⟩ = false := h.2.free i
theorem RgRaw.cu (h : RgRaw w g T p0 post R) {k : Nat} {v : Value} (hk : (cuR R)[k]? = some v) : w.cell? ⟨g, p0.length + k, none⟩ = some v := by
 refine h.2.pre_cell ?_
 rw [List.getElem?_append_right (by omega), Nat.add_sub_cancel_left, hk]
theorem RgRaw.cells (h : RgRaw w g T p0 post R) : w.cell? ⟨g, p0.length, none⟩ = some (.int .u64 (R.cap : Int)) ∧ w.cell? ⟨g, p0.length + 1, none⟩ = some (.int .i64 (R.rd : Int)) ∧ w.cell? ⟨g, p0.length + 2, none⟩ = some (.int .u64 (R.tail : Int)) ∧
  w.cell? ⟨g, p0.length + 11, none⟩ = some (.bool R.cl) := by
 have h8 := h.1
 refine ⟨h.cu (k := 0) rfl, h.cu (k := 1) rfl, h.cu (k := 2) rfl, h.cu (k := 11) ?_⟩
 unfold cuR cuF
 rw [List.getElem?_append_right (by simp [h8])]
 simp [h8]
theorem RgRaw.head (h : RgRaw w g T p0 post R) {j x : Nat} (hj : R.h8[j]? = some x) : w.cell? ⟨g, p0.length + 3 + j, none⟩ = some (.int .u64 (x : Int)) := by
 have h8 := h.1
 have hjl := (List.getElem?_eq_some_iff.1 hj).1
 rw [Nat.add_assoc]
 refine h.cu (k := 3 + j) ?_
 unfold cuR cuF
 rw [List.getElem?_append_left (by simp; omega), List.getElem?_append_right (by simp)]
 simp [hj]
theorem RgRaw.slots (h : RgRaw w g T p0 post R) : SlAt w g T (p0 ++ cuR R) post R.rd R.L ∧ (p0 ++ cuR R).length = p0.length + 12 := ⟨h.2, by rw [List.length_append, cuR_len h.1]⟩
theorem RgRaw.put (h : RgRaw w g T p0 post R) {R' : Rg} {k : Nat} {u : Value} (hk : k < 12) (h8 : R'.h8.length = 8) (hr : R'.rd = R.rd) (hL : R'.L = R.L) (hc : (cuR R).set k u = cuR R') : RgRaw (w.setCell ⟨g, p0.length + k, none⟩ u) g T p0 post R' := by
 have hl := cuR_len h.1
 refine ⟨h8, ?_⟩
 have := h.2.pre_set (k := p0.length + k) (by rw [List.length_append]; omega) u
 rw [List.set_append_right _ _ (by omega), Nat.add_sub_cancel_left, hc] at this
 rw [hr, hL]; exact this
set_option maxHeartbeats 1000000 in
set_option maxRecDepth 100000 in
theorem cuLeastR (h : RgRaw w g T p0 post R) (ho : p0.length = o) :
  Calls Tryz.prog 93 #[.pointer (some ⟨g, o, none⟩)] w fun e w' => e = .returned (.int .u64 (leastN R : Nat)) ∧ w = w' := by
 subst ho
 obtain ⟨c0, c1, c2, c3⟩ := h.cells
 have hr1 := h.2.ok.2.2.1
 have hr2 := h.2.ok.2.2.2.1
 have h8 := h.1
 obtain ⟨x0, hx0⟩ : ∃ x, R.h8[0]? = some x := ⟨_, List.getElem?_eq_getElem (by omega)⟩
 have d0 := h.head hx0
 rw [Nat.add_zero] at d0
 have hg0 : R.h8.getD 0 0 = x0 := by rw [List.getD_eq_getElem?_getD, hx0]; rfl
 have HL : Hid (leastN R = (R.h8.take R.rd).foldl min x0) := by show _ = _; unfold leastN; rw [hg0]
 have H := Lib.hid h
 have H8 := Lib.hid h8
 clear h hx0 hg0 h8
 go_enter Tryz.func93, Tryz.ntmps93
 go_wp2
 go_loopw [3, 14] (fun x u wr => ∃ k : Nat, k ≤ R.rd ∧ u = .int .i64 k ∧ x = .int .u64 ((R.h8.take k).foldl min x0 : Nat) ∧ wr = w) (fun _ u _ => R.rd - (intOf u).toNat)
 case atStart => exact ⟨0, by omega, rfl, rfl, rfl⟩
 case round =>
  obtain ⟨k, hk, rfl, rfl, rfl⟩ := hrel
  by_cases hlt : k < R.rd
  ·have hki : (k : Int) < (R.rd : Int) := by omega
   have hk8 : (k : Int) < 8 := by omega
   obtain ⟨x, hx⟩ : ∃ x, R.h8[k]? = some x := ⟨_, List.getElem?_eq_getElem (by have := H8.out; omega)⟩
   have dk := H.out.head hx
   have hnx : (R.h8.take (k + 1)).foldl min x0 = min ((R.h8.take k).foldl min x0) x := by rw [List.take_add_one, hx, Option.toList_some, List.foldl_append]; rfl
   have HNX := Lib.hid hnx
   clear hx hnx
   generalize (R.h8.take k).foldl min x0 = m at *
   go_wp2
   go_roundw
   case rel => exact ⟨k + 1, by omega, by go_num, by rw [HNX.out]; congr 1; omega, trivial⟩
   case measure => simp [intOf]; omega
  ·obtain rfl : k = R.rd := by omega
   have hl := HL.out
   generalize (R.h8.take R.rd).foldl min x0 = m at *
   have HL2 := Lib.hid hl
   clear hl HL
   go_wp2
   go_ret
   exact ⟨ret_int (by rw [HL2.out]), rfl⟩
def headsB (R : Rg) : Bool := (R.h8.take R.rd).all fun h => decide (h ≤ R.tail)
def cursB (R : Rg) : Bool := headsB R && (decide (R.tail < 4611686018427387904) && decide (R.tail - leastN R ≤ R.cap))
theorem leastN_le0 {R : Rg} (h8 : R.h8.length = 8) (hr : 1 ≤ R.rd) (h : headsB R = true) : leastN R ≤ R.tail := by
 refine Nat.le_trans (foldl_min_le _ _) ?_
 rw [List.getD_eq_getElem?_getD, List.getElem?_eq_getElem (by omega)]
 unfold headsB at h
 rw [List.all_eq_true] at h
 refine of_decide_eq_true (h R.h8[0] ?_)
 rw [List.mem_iff_getElem?]
 exact ⟨0, by rw [List.getElem?_take, if_pos (by omega), List.getElem?_eq_getElem]⟩
set_option maxHeartbeats 1000000 in
set_option maxRecDepth 100000 in
theorem rgCursorsRight (h : RgRaw w g T p0 post R) (ho : p0.length = o) :
  Calls Tryz.prog 95 #[.pointer (some ⟨g, o, none⟩)] w fun e w' => e = .returned (.bool (cursB R)) ∧ ∃ n, w' = w.drewN n := by
 have HL := Lib.hid (fun w' (h : RgRaw w' g T p0 post R) => cuLeastR h ho)
 subst ho
 obtain ⟨c0, c1, c2, c3⟩ := h.cells
 have hr1 := h.2.ok.2.2.1
 have hr2 := h.2.ok.2.2.2.1
 have H8 := Lib.hid h.1
 have H := Lib.hid h
 clear h
 go_enter Tryz.func95, Tryz.ntmps95
 go_wp2
 go_loopw [9] (fun u wr => ∃ k nd : Nat, k ≤ R.rd ∧ u = .int .i64 k ∧ Hid (∀ i x, i < k → R.h8[i]? = some x → x ≤ R.tail) ∧ wr = w.drewN nd) (fun u _ => R.rd - (intOf u).toNat)
 case atStart => exact ⟨0, 0, by omega, rfl, (fun i x hi => by omega), rfl⟩
 case round =>
  obtain ⟨k, nd, hk, rfl, hall, hw⟩ := hrel
  obtain ⟨c0, c1, c2, c3⟩ := (show RgRaw wr g T p0 post R by rw [hw]; exact H.out.drewN nd).cells
  have HR := Lib.hid (show RgRaw wr g T p0 post R by rw [hw]; exact H.out.drewN nd)
  have HW := Lib.hid hw
  clear hw
  by_cases hlt : k < R.rd
  ·have hki : (k : Int) < (R.rd : Int) := by omega
   have hk8 : (k : Int) < 8 := by omega
   obtain ⟨x, hx⟩ : ∃ x, R.h8[k]? = some x := ⟨_, List.getElem?_eq_getElem (by have := H8.out; omega)⟩
   have dk := HR.out.head hx
   have HX := Lib.hid hx
   clear hx
   by_cases hle : x ≤ R.tail
   ·have hall2 : Hid (∀ i x, i < k + 1 → R.h8[i]? = some x → x ≤ R.tail) := fun i y hi hy => by
     by_cases e : i = k
     ·subst e; rw [HX.out] at hy; injection hy with hy; omega
     ·exact hall.out i y (by omega) hy
    go_wp2
    go_quiet (fail)
    go_wp2
    go_roundw
    case rel => exact ⟨k + 1, nd + nq, by omega, by go_num, hall2, by rw [HW.out, World.drewN_drewN]⟩
    case measure => simp [intOf]; omega
   ·have HF : Hid (cursB R = false) := by
     show _ = _
     unfold cursB headsB
     rw [Bool.and_eq_false_iff]; left
     rw [List.all_eq_false]
     exact ⟨x, by rw [List.mem_iff_getElem?]; exact ⟨k, by rw [List.getElem?_take, if_pos hlt, HX.out]⟩, by simpa using hle⟩
    go_wp2
    go_quiet (fail)
    go_wp2
    go_ret
    exact ⟨ret_bool (by rw [HF.out]), nd + nq, by rw [HW.out, World.drewN_drewN]⟩
  ·obtain rfl : k = R.rd := by omega
   have hhd : headsB R = true := by
    unfold headsB
    rw [List.all_eq_true]
    intro x hx
    obtain ⟨i, hi⟩ := List.mem_iff_getElem?.1 hx
    rw [List.getElem?_take] at hi
    split at hi
    ·exact decide_eq_true (hall.out i x ‹_› hi)
    ·simp at hi
   have hle := leastN_le0 H8.out hr1 hhd
   have HCB : Hid (cursB R = (decide (R.tail < 4611686018427387904) && decide (R.tail - leastN R ≤ R.cap))) := by show _ = _; unfold cursB; rw [hhd, Bool.true_and]
   clear hhd hall
   obtain ⟨TT, hTT⟩ : ∃ TT : Int, TT = (R.tail : Int) := ⟨_, rfl⟩
   rw [← hTT] at c2
   by_cases ht : R.tail < 4611686018427387904
   ·have hsub : IntKind.u64.wrap (TT - (leastN R : Int)) = ((R.tail - leastN R : Nat) : Int) := by rw [IntKind.wrap_u64, hTT]; omega
    have e1 : decide (TT < 4611686018427387904) = true := by rw [decide_eq_true_iff]; omega
    have HF : Hid (cursB R = decide (R.tail - leastN R ≤ R.cap)) := by show _ = _; rw [HCB.out, decide_eq_true ht, Bool.true_and]
    clear HCB hTT ht hle
    generalize R.tail - leastN R = d at *
    generalize leastN R = m at *
    go_wp2
    go_quiet ((go_at_call 93; exact quiet_same3 ((HL.out _ (by exact HR.out))) ⟨_, rfl⟩))
    go_wp2
    go_ret
    exact ⟨ret_bool (by rw [HF.out]), nd + nq, by rw [HW.out, World.drewN_drewN]⟩
   ·have HF : Hid (cursB R = false) := by show _ = _; rw [HCB.out, decide_eq_false ht, Bool.false_and]
    have e1 : decide (TT < 4611686018427387904) = false := by rw [decide_eq_false_iff_not]; omega
    clear HCB hle hTT ht
    go_wp2
    go_quiet ((go_at_call 93; exact quiet_same3 ((HL.out _ (by exact HR.out))) ⟨_, rfl⟩))
    go_wp2
    go_ret
    exact ⟨ret_bool (by rw [HF.out]), nd + nq, by rw [HW.out, World.drewN_drewN]⟩
def passB (R : Rg) (t : Nat) (l : Int) : Bool := (List.range R.rd).all fun j => hasBit l j || decide (t < R.h8.getD j 0)
theorem shr_bits : ∀ n : Nat, n < 256 → ∀ j : Nat, j < 8 → bits .and .i64 (((n : Int)) / 2 ^ j) 1 = (n : Int) / 2 ^ j % 2 := by decide +kernel
set_option maxHeartbeats 1000000 in
set_option maxRecDepth 100000 in
theorem cuPassed (t : Nat) (l : Int) (h : RgRaw w g T p0 post R) (ho : p0.length = o) (hl0 : 0 ≤ l) (hl1 : l ≤ 255) :
  Calls Tryz.prog 129 #[.pointer (some ⟨g, o, none⟩), .int .u64 t, .int .i64 l] w fun e w' => e = .returned (.bool (passB R t l)) ∧ w = w' := by
 subst ho
 obtain ⟨c0, c1, c2, c3⟩ := h.cells
 have hr1 := h.2.ok.2.2.1
 have hr2 := h.2.ok.2.2.2.1
 have H8 := Lib.hid h.1
 have H := Lib.hid h
 clear h
 go_enter Tryz.func129, Tryz.ntmps129
 go_wp2
 go_loopw [12] (fun u wr => ∃ k : Nat, k ≤ R.rd ∧ u = .int .i64 k ∧ Hid (∀ i, i < k → (hasBit l i || decide (t < R.h8.getD i 0)) = true) ∧ wr = w) (fun u _ => R.rd - (intOf u).toNat)
 case atStart => exact ⟨0, by omega, rfl, (fun i hi => by omega), rfl⟩
 case round =>
  obtain ⟨k, hk, rfl, hall, rfl⟩ := hrel
  by_cases hlt : k < R.rd
  ·have hki : (k : Int) < (R.rd : Int) := by omega
   have hk8 : (k : Int) < 8 := by omega
   obtain ⟨x, hx⟩ : ∃ x, R.h8[k]? = some x := ⟨_, List.getElem?_eq_getElem (by have := H8.out; omega)⟩
   have dk := H.out.head hx
   have HX : Hid (R.h8.getD k 0 = x) := by show _ = _; rw [List.getD_eq_getElem?_getD, hx]; rfl
   clear hx
   have hbt : (bits .and .i64 (l / 2 ^ k) 1 == 0) = !hasBit l k := by
    obtain ⟨n, rfl⟩ : ∃ n : Nat, l = n := ⟨l.toNat, by omega⟩
    rw [shr_bits n (by omega) k (by omega)]
    unfold hasBit
    rw [Bool.eq_iff_iff]; simp; omega
   have hnext : (hasBit l k || decide (t < x)) = true → ∀ i, i < k + 1 → (hasBit l i || decide (t < R.h8.getD i 0)) = true := fun hp i hi => by
    by_cases e : i = k
    ·subst e; rw [HX.out]; exact hp
    ·exact hall.out i (by omega)
   have hno : (hasBit l k || decide (t < x)) = false → passB R t l = false := fun hp => by
    unfold passB
    rw [List.all_eq_false]
    exact ⟨k, List.mem_range.2 hlt, by rw [HX.out, hp]; simp⟩
   have HNX := Lib.hid hnext
   have HNO := Lib.hid hno
   clear hnext hno hall
   cases hh : hasBit l k
   ·rw [hh] at hbt HNX HNO
    by_cases hle : x ≤ t
    ·have HF := Lib.hid (HNO.out (by rw [Bool.false_or]; exact decide_eq_false (by omega)))
     clear hh HNX HNO
     go_wp2
     go_ret
     exact ⟨ret_bool (by rw [HF.out]), rfl⟩
    ·have HALL2 := Lib.hid (HNX.out (by rw [Bool.false_or]; exact decide_eq_true (by omega)))
     clear hh HNX HNO
     go_wp2
     go_roundw
     case rel => exact ⟨k + 1, by omega, by go_num, HALL2, trivial⟩
     case measure => simp [intOf]; omega
   ·rw [hh] at hbt HNX HNO
    have HALL2 := Lib.hid (HNX.out (by rw [Bool.true_or]))
    clear hh HNX HNO
    go_wp2
    go_roundw
    case rel => exact ⟨k + 1, by omega, by go_num, HALL2, trivial⟩
    case measure => simp [intOf]; omega
  ·obtain rfl : k = R.rd := by omega
   have HF : Hid (passB R t l = true) := by
    show _ = _
    unfold passB
    rw [List.all_eq_true]
    exact fun i hi => hall.out i (List.mem_range.1 hi)
   go_wp2
   go_ret
   exact ⟨ret_bool (by rw [HF.out]), rfl⟩
end
theorem lies_cells {g : Nat} {T : TypeId} : ∀ (vs : List Value) (pre ob post : List Value) (w : World), vs.length = ob.length → Lies w g T (pre ++ (ob ++ post)).toArray → Lies (w.setCells g pre.length vs) g T (pre ++ (vs ++ post)).toArray
 | [], pre, ob, post, w, hl, h => by
  obtain rfl : ob = [] := List.length_eq_zero_iff.1 hl.symm
  exact h
 | v :: vs, pre, [], post, w, hl, h => by simp at hl
 | v :: vs, pre, x :: ob, post, w, hl, h => by
  have h1 := Lies.putL h pre.length v
  rw [List.set_append_right _ _ (Nat.le_refl _), Nat.sub_self] at h1
  simp only [List.cons_append, List.set_cons_zero] at h1
  rw [show pre ++ v :: (ob ++ post) = (pre ++ [v]) ++ (ob ++ post) by simp] at h1
  have h2 := lies_cells vs (pre ++ [v]) ob post _ (by simpa using hl) h1
  rw [List.length_append] at h2
  simp only [List.append_assoc, List.cons_append, List.nil_append] at h2
  exact h2
theorem kept_cells {g : Nat} : ∀ (vs : List Value) (o : Nat) (w : World), Kept (oneRow g) w (w.setCells g o vs)
 | [], o, w => Kept.refl _ _
 | v :: vs, o, w => (Kept.put w g o v).trans (kept_cells vs (o + 1) _) (fun _ _ h => h)
theorem lies_there {w : World} {g : Nat} {T : TypeId} {cs : Array Value} (h : Lies w g T cs) {o n : Nat} (hn : o + n ≤ cs.size) : w.there g o n := fun j hj => ⟨by rw [h.cell, Array.getElem?_eq_getElem (by omega)]; rfl, h.free _⟩
theorem sl_swap {w : World} {g : Nat} {T : TypeId} {pre post : List Value} {r : Nat} {L0 L M : List Sl} (h : SlAt w g T pre post r L0) (hM : (L ++ M).length = 64) (hok : SlOk r L) :
  w.there g pre.length (slObj r L M).length ∧ SlAt (w.setCells g pre.length (slObj r L M)) g T pre post r L := by
 obtain ⟨M0, m1, m2, m3⟩ := h
 have l0 := slObj_length r L0 M0
 have l1 := slObj_length r L M
 refine ⟨lies_there m3 (by simp; omega), M, hM, hok, lies_cells _ _ _ _ _ (by omega) m3⟩
theorem slObj_one (r : Nat) (L M : List Sl) : ∀ v ∈ slObj r L M, v.oneCell' = true := fun v hv => by
 unfold slObj at hv
 rcases List.mem_append.1 hv with hv | hv
 ·simp at hv; rcases hv with rfl | rfl <;> rfl
 ·exact slF_one _ v hv
def placeB (R : Rg) (x : Sl) : Bool := if x.s % 2 = 1 then decide (x.s / 2 < R.tail) && passB R (x.s / 2) x.l else decide (x.s / 2 < R.cap) || passB R (x.s / 2 - R.cap) 0
def slotsB (R : Rg) : Bool := R.L.all (placeB R)
section
variable {w w' : World} {g o : Nat} {T : TypeId} {p0 post : List Value} {R : Rg}
set_option maxHeartbeats 2000000 in
set_option maxRecDepth 100000 in
theorem rgSlotsRight (h : RgRaw w g T p0 post R) (ho : p0.length = o) :
  Calls Tryz.prog 96 #[.pointer (some ⟨g, o, none⟩)] w fun e w' => e = .returned (.bool (slotsB R)) ∧ Below w.heap.size w w' := by
 have HP := Lib.hid (fun (t : Nat) (l : Int) w' (h : RgRaw w' g T p0 post R) => cuPassed t l h ho)
 subst ho
 obtain ⟨s1, s2⟩ := h.slots
 have HA := Lib.hid (slotsAll s1 s2)
 have hr1 := h.2.ok.2.2.1
 have hr2 := h.2.ok.2.2.2.1
 have hL := h.2.ok.2.1
 have HOK := Lib.hid h.2.ok
 have H := Lib.hid h
 clear h s1 s2
 go_enter Tryz.func96, Tryz.ntmps96
 go_wp2_with fail
 refine HA.out.mono ?_
 rintro e w1 ⟨v, rfl, hown, hb1⟩
 have hq := SeqS.of_owns hown
 obtain ⟨A, c, rfl, hc1, hc2, _⟩ := hq.form
 have HQ := Lib.hid hq
 have H1 := Lib.hid (H.out.later hb1)
 clear hown hq HA
 go_wp2
 go_loopw [12] (fun u wr => ∃ k : Nat, k ≤ R.L.length ∧ u = .int .i64 k ∧ Hid (∀ i x, i < k → R.L[i]? = some x → placeB R x = true) ∧ Below w1.heap.size w1 wr) (fun u _ => R.L.length - (intOf u).toNat)
 case atStart => exact ⟨0, by omega, rfl, (fun i x hi => by omega), Below.refl _ _⟩
 case round =>
  obtain ⟨k, hk, rfl, hall, hb⟩ := hrel
  by_cases hlt : k < R.L.length
  ·have hki : (k : Int) < (R.L.length : Int) := by omega
   obtain ⟨x, hx⟩ : ∃ x, R.L[k]? = some x := ⟨_, List.getElem?_eq_getElem hlt⟩
   have hxo := HOK.out.2.2.2.2 x (List.mem_of_getElem? hx)
   obtain ⟨b, off, rfl, hbl, gx⟩ := SeqS.at_ slF_length (by decide) (HQ.out.later hb) hx
   have x0 := gx 0 _ (by decide) rfl
   have x1 := gx 1 _ (by decide) rfl
   have x2 := gx 2 _ (by decide) rfl
   rw [Nat.add_zero] at x0
   obtain ⟨o1, o2, o3, o4⟩ := hxo
   have h255 := everyN_pos hr2
   have hl255 : x.l ≤ 255 := by omega
   have HX := Lib.hid hx
   clear hx gx o4 h255
   obtain ⟨S, hSS⟩ : ∃ S : Int, S = (x.s : Int) := ⟨_, rfl⟩
   have hS0 : 0 ≤ S := by omega
   have hS1 : S ≤ 18446744073709551615 := by omega
   obtain ⟨d, hd⟩ : ∃ d, x.s / 2 = d := ⟨_, rfl⟩
   obtain ⟨m, hm⟩ : ∃ m, x.s % 2 = m := ⟨_, rfl⟩
   have hqd : S / 2 = (d : Int) := by omega
   have hrm : S % 2 = (m : Int) := by omega
   rw [← hSS] at x0
   have hbA : Below w1.heap.size w1 (wr.alloc (.cells #[.int .u64 S, .int .u64 (x.v : Int), .int .i64 x.l] 90)) := hb.alloc hb.size _
   have hrA := H1.out.later hbA
   obtain ⟨c0, c1, c2, c3⟩ := hrA.cells
   have HR := Lib.hid hrA
   have HBA := Lib.hid hbA
   have hpl : placeB R x = if m = 1 then decide (d < R.tail) && passB R d x.l else decide (d < R.cap) || passB R (d - R.cap) 0 := by unfold placeB; rw [hd, hm]
   have HPL := Lib.hid hpl
   have hyes : placeB R x = true → ∀ i y, i < k + 1 → R.L[i]? = some y → placeB R y = true := fun hp i y hi hy => by
    by_cases e : i = k
    ·subst e; rw [HX.out] at hy; injection hy with hy; subst hy; exact hp
    ·exact hall.out i y (by omega) hy
   have hno : placeB R x = false → slotsB R = false := fun hp => by
    unfold slotsB
    rw [List.all_eq_false]
    exact ⟨x, List.mem_of_getElem? HX.out, by rw [hp]; simp⟩
   have HYES := Lib.hid hyes
   have HNO := Lib.hid hno
   have hm2 : m < 2 := by rw [← hm]; exact Nat.mod_lt _ (by decide)
   clear hbA hrA hpl hyes hno hd hm hSS hall hb hbl H1 HX HQ o1 o2
   by_cases m1 : m = 1
   ·have e1 : ((m : Int) == 1) = true := by rw [beq_iff_eq]; omega
    have hpl := HPL.out
    rw [if_pos m1] at hpl
    clear m1
    by_cases dt : d < R.tail
    ·have e2 : decide (R.tail ≤ d) = false := by rw [decide_eq_false_iff_not]; omega
     rw [decide_eq_true dt, Bool.true_and] at hpl
     obtain ⟨pb, hpb⟩ : ∃ pb, passB R d x.l = pb := ⟨_, rfl⟩
     rw [hpb] at hpl
     have hp1 := fun w' h h0 h1 => HP.out d x.l w' h h0 h1
     rw [hpb] at hp1
     have HP1 := Lib.hid hp1
     cases pb
     ·have HF := Lib.hid (HNO.out hpl)
      clear hpl hpb hp1
      go_wp2
      go_quiet ((go_at_call 129; exact quiet_same3 ((HP1.out _ (by exact HR.out) (by omega) (by omega))) ⟨_, rfl⟩))
      go_wp2
      go_ret
      exact ⟨ret_bool (by rw [HF.out]), (by first | exact hb1.trans ((below_drewN (below_drewN HBA.out _) _).mono hb1.size) | exact hb1.trans ((below_drewN HBA.out _).mono hb1.size) | exact hb1.trans (HBA.out.mono hb1.size))⟩
     ·have HALL2 := Lib.hid (HYES.out hpl)
      clear hpl hpb hp1
      go_wp2
      go_quiet ((go_at_call 129; exact quiet_same3 ((HP1.out _ (by exact HR.out) (by omega) (by omega))) ⟨_, rfl⟩))
      go_wp2
      go_quiet (fail)
      go_wp2
      go_roundw
      case rel => exact ⟨k + 1, by omega, by go_num, HALL2, (by first | exact below_drewN (below_drewN HBA.out _) _ | exact below_drewN HBA.out _ | exact HBA.out)⟩
      case measure => simp [intOf]; omega
    ·have e2 : decide (R.tail ≤ d) = true := by rw [decide_eq_true_iff]; omega
     rw [decide_eq_false dt, Bool.false_and] at hpl
     have HF := Lib.hid (HNO.out hpl)
     clear hpl
     go_wp2
     go_quiet (fail)
     go_wp2
     go_ret
     exact ⟨ret_bool (by rw [HF.out]), (by first | exact hb1.trans ((below_drewN (below_drewN HBA.out _) _).mono hb1.size) | exact hb1.trans ((below_drewN HBA.out _).mono hb1.size) | exact hb1.trans (HBA.out.mono hb1.size))⟩
   ·have e1 : ((m : Int) == 1) = false := by rw [beq_eq_false_iff_ne]; omega
    have hpl := HPL.out
    rw [if_neg m1] at hpl
    clear m1
    by_cases dt : d < R.cap
    ·have e2 : decide (R.cap ≤ d) = false := by rw [decide_eq_false_iff_not]; omega
     rw [decide_eq_true dt, Bool.true_or] at hpl
     have HALL2 := Lib.hid (HYES.out hpl)
     clear hpl
     go_wp2
     go_quiet (fail)
     go_wp2
     go_quiet (fail)
     go_wp2
     go_roundw
     case rel => exact ⟨k + 1, by omega, by go_num, HALL2, (by first | exact below_drewN (below_drewN HBA.out _) _ | exact below_drewN HBA.out _ | exact HBA.out)⟩
     case measure => simp [intOf]; omega
    ·have e2 : decide (R.cap ≤ d) = true := by rw [decide_eq_true_iff]; omega
     rw [decide_eq_false dt, Bool.false_or] at hpl
     have hwr : IntKind.u64.wrap ((d : Int) - (R.cap : Int)) = ((d - R.cap : Nat) : Int) := by rw [IntKind.wrap_u64]; omega
     obtain ⟨pb, hpb⟩ : ∃ pb, passB R (d - R.cap) 0 = pb := ⟨_, rfl⟩
     rw [hpb] at hpl
     have hp1 := fun w' h h0 h1 => HP.out (d - R.cap) 0 w' h h0 h1
     rw [hpb] at hp1
     have HP1 := Lib.hid hp1
     generalize d - R.cap = q at *
     cases pb
     ·have HF := Lib.hid (HNO.out hpl)
      clear hpl hpb hp1
      go_wp2
      go_quiet (fail)
      go_wp2
      go_quiet ((go_at_call 129; exact quiet_same3 ((HP1.out _ (by exact HR.out) (by omega) (by omega))) ⟨_, rfl⟩))
      go_wp2
      go_ret
      exact ⟨ret_bool (by rw [HF.out]), (by first | exact hb1.trans ((below_drewN (below_drewN HBA.out _) _).mono hb1.size) | exact hb1.trans ((below_drewN HBA.out _).mono hb1.size) | exact hb1.trans (HBA.out.mono hb1.size))⟩
     ·have HALL2 := Lib.hid (HYES.out hpl)
      clear hpl hpb hp1
      go_wp2
      go_quiet (fail)
      go_wp2
      go_quiet ((go_at_call 129; exact quiet_same3 ((HP1.out _ (by exact HR.out) (by omega) (by omega))) ⟨_, rfl⟩))
      go_wp2
      go_roundw
      case rel => exact ⟨k + 1, by omega, by go_num, HALL2, (by first | exact below_drewN (below_drewN HBA.out _) _ | exact below_drewN HBA.out _ | exact HBA.out)⟩
      case measure => simp [intOf]; omega
  ·obtain rfl : k = R.L.length := by omega
   have HF : Hid (slotsB R = true) := by
    show _ = _
    unfold slotsB
    rw [List.all_eq_true]
    intro x hx
    obtain ⟨i, hi⟩ := List.mem_iff_getElem?.1 hx
    exact hall.out i x (List.getElem?_eq_some_iff.1 hi).1 hi
   have hbw := hb1.trans (hb.mono hb1.size)
   clear hall
   go_wp2
   go_ret
   exact ⟨ret_bool (by rw [HF.out]), hbw⟩
end
theorem owns_setCells {α : Type} {f : α → List Value} {sz B : Nat} {e : TypeId} {w : World} {v : Value} {l : List α} (hf : ∀ x, (f x).length = sz) (h : w.ownsRow B e sz v l.length (rowsOf f l)) {i : Nat} (hi : i < l.length) (y : α) :
  ∃ r cap, v = .slice (some ⟨r, 0, none⟩) l.length cap ∧ B ≤ r ∧ (∃ cur, Lies w r e cur) ∧ w.there r (i * sz) sz ∧ (w.setCells r (i * sz) (f y)).ownsRow B e sz v l.length (rowsOf f (l.set i y)) := by
 obtain ⟨h1, h2⟩ := h
 rcases h2 with ⟨_, h0⟩ | ⟨r, cap, cur, rfl, hB, hh, hc1, hc2, hc3, hc4⟩
 ·omega
 obtain ⟨sp, hsp⟩ : ∃ sp, cur.toList = rowsOf f l ++ sp := ⟨cur.toList.drop (l.length * sz), by rw [← hc4, List.take_append_drop]⟩
 obtain ⟨x, hx⟩ : ∃ x, l[i]? = some x := ⟨_, List.getElem?_eq_getElem hi⟩
 obtain ⟨hil, hie⟩ := List.getElem?_eq_some_iff.1 hx
 have hl2 : l = l.take i ++ x :: l.drop (i + 1) := by
  rw [← hie, List.getElem_cons_drop, List.take_append_drop]
 have hpl : (rowsOf f (l.take i)).length = i * sz := by rw [rowsOf_length hf, List.length_take, Nat.min_eq_left (by omega)]
 have hcur : cur = (rowsOf f (l.take i) ++ (f x ++ (rowsOf f (l.drop (i + 1)) ++ sp))).toArray := by
  apply Array.toList_inj.1
  rw [hsp]
  conv => lhs; rw [hl2]
  rw [rowsOf_append, rowsOf_cons]
  simp
 have hlies : Lies w r e cur := hh
 have hth : w.there r (i * sz) sz := by
  refine lies_there hlies ?_
  rw [hc3]
  have : (i + 1) * sz ≤ cap * sz := Nat.mul_le_mul_right _ (by omega)
  rw [Nat.add_mul] at this
  omega
 have hl3 := hlies
 rw [hcur] at hl3
 have hnew := lies_cells (f y) _ (f x) _ w (by rw [hf, hf]) hl3
 rw [hpl] at hnew
 have hset : l.set i y = l.take i ++ y :: l.drop (i + 1) := by rw [List.set_eq_take_append_cons_drop, if_pos hil]
 refine ⟨r, cap, rfl, hB, ⟨cur, hlies⟩, hth, ?_, .inr ⟨r, cap, _, rfl, hB, hnew, hc1, hc2, ?_, ?_⟩⟩
 ·rw [rowsOf_length hf, List.length_set]
 ·have e2 : cur.size = (rowsOf f (l.take i) ++ (f x ++ (rowsOf f (l.drop (i + 1)) ++ sp))).length := by rw [hcur]; simp
  have e3 := hf x
  have e4 := hf y
  simp only [List.size_toArray, List.length_append] at e2 ⊢
  omega
 ·have e5 : rowsOf f (l.take i) ++ (f y ++ (rowsOf f (l.drop (i + 1)) ++ sp)) = rowsOf f (l.set i y) ++ sp := by
   rw [hset, rowsOf_append, rowsOf_cons]
   simp
  rw [List.toList_toArray, e5, List.take_append_of_le_length (by rw [rowsOf_length hf, List.length_set]; exact Nat.le_refl _), List.take_of_length_le (by rw [rowsOf_length hf, List.length_set]; exact Nat.le_refl _)]
theorem rowsOf_id (l : List Value) : rowsOf (fun x => [x]) l = l := by
 induction l with
 | nil => rfl
 | cons a l ih => rw [rowsOf_cons, ih]; rfl
theorem owns_set1 {B : Nat} {e : TypeId} {w : World} {v : Value} {l : List Value} (h : w.ownsRow B e 1 v l.length l) {i : Nat} (hi : i < l.length) (y : Value) :
  ∃ r cap, v = .slice (some ⟨r, 0, none⟩) l.length cap ∧ B ≤ r ∧ (∃ cur, Lies w r e cur) ∧ (w.setCell ⟨r, i, none⟩ y).ownsRow B e 1 v l.length (l.set i y) := by
 have h2 : w.ownsRow B e 1 v l.length (rowsOf (fun x => [x]) l) := by rw [rowsOf_id]; exact h
 obtain ⟨r, cap, e1, e2, e3, _, e5⟩ := owns_setCells (f := fun x => [x]) (fun _ => rfl) h2 hi y
 rw [rowsOf_id, Nat.mul_one] at e5
 exact ⟨r, cap, e1, e2, e3, e5⟩
section
variable {w q q1 : World} {B F : Nat} {f : Fb} {z : Fv} {v u0 v' : Value} {vs : List Value} {ss : List (List Nat)} {s' : List Nat} {i r : Nat}
def ownIs (u : Value) (k : Nat) : Prop := u.ownBlock = some k
theorem SnsAt.turn (h : SnsAt w B v vs ss) (hi : i < ss.length) (hu : vs[i]? = some u0) (k : Kept (ownIs u0) w q1) {A' : Option Addr} {c' : Nat} (hv : v' = .slice A' s'.length c') (ho : q1.ownsRow B 37 1 v' s'.length (cells64 s'))
  (hb : ∀ g, v'.ownBlock = some g → u0.ownBlock = some g ∨ w.heap.size ≤ g) (hvr : v.ownBlock = some r) : SnsAt (q1.setCell ⟨r, i, none⟩ v') B v (vs.set i v') (ss.set i s') := by
 have hlen := h.len
 have hu0 : ∃ A c s, ss[i]? = some s ∧ u0 = .slice A s.length c ∧ w.ownsRow B 37 1 u0 s.length (cells64 s) := by
  obtain ⟨A, c, e, ho⟩ := h.each i _ (List.getElem?_eq_getElem hi)
  rw [hu] at e
  simp only [Option.some.injEq] at e
  subst e
  exact ⟨A, c, _, List.getElem?_eq_getElem hi, rfl, ho⟩
 obtain ⟨A0, c0, s0, hs0, _, hown0⟩ := hu0
 have hrl : ∃ cur, Lies w r 66 cur := (own_lies h.row hvr).2
 obtain ⟨cr, hcr⟩ := hrl
 have hnr : ¬ ownIs u0 r := fun e => by
  obtain ⟨_, c2, h2⟩ := own_lies hown0 e
  exact absurd (h2.same hcr).1 (by decide)
 have hrow1 : q1.ownsRow B 66 1 v vs.length vs := by
  rw [hlen]
  exact owns_kept h.row k (fun r2 cur hr hl => by rw [hvr] at hr; cases hr; exact hnr)
 have hcr1 := hcr.kept k hnr
 obtain ⟨r', cap, e1, _, _, hrow2⟩ := owns_set1 hrow1 (i := i) (by omega) v'
 have hrr : r' = r := by
  rw [e1] at hvr
  simpa [Value.ownBlock] using hvr
 subst hrr
 have kp := Kept.put q1 r' i v'
 refine ⟨by rw [List.length_set, ← hlen]; exact hrow2, fun j s hs => ?_, fun a b x y g hab hx hy hg hg2 => ?_⟩
 ·by_cases hji : j = i
  ·subst hji
   rw [List.getElem?_set_self hi] at hs
   simp only [Option.some.injEq] at hs
   subst hs
   refine ⟨A', c', by rw [List.getElem?_set_self (by omega), hv], ?_⟩
   rw [← hv]
   exact owns_kept ho kp (fun g cur hg hl (e : g = r') => by subst e; exact absurd (hl.same hcr1).1 (by decide))
  ·rw [List.getElem?_set_ne (Ne.symm hji)] at hs
   obtain ⟨A, c, e, hoj⟩ := h.each j s hs
   refine ⟨A, c, by rw [List.getElem?_set_ne (Ne.symm hji)]; exact e, ?_⟩
   have h1 : q1.ownsRow B 37 1 (.slice A s.length c) s.length (cells64 s) := owns_kept hoj k (fun g cur hg hl he => h.apart j i _ _ g hji e hu hg he)
   exact owns_kept h1 kp (fun g cur hg hl (e : g = r') => by subst e; exact absurd (hl.same hcr1).1 (by decide))
 ·have old : ∀ (j : Nat) (u : Value) (g : Nat), vs[j]? = some u → u.ownBlock = some g → g < w.heap.size := by
   intro j u g hj hg
   have hjl : j < vs.length := (List.getElem?_eq_some_iff.1 hj).1
   obtain ⟨A, c, e, hoj⟩ := h.each j _ (List.getElem?_eq_getElem (by omega))
   rw [hj] at e
   simp only [Option.some.injEq] at e
   rw [e] at hg
   obtain ⟨_, cur, hl⟩ := own_lies hoj hg
   exact hl.lt
  by_cases hai : a = i
  ·subst hai
   rw [List.getElem?_set_self (by omega)] at hx
   rw [List.getElem?_set_ne hab] at hy
   simp only [Option.some.injEq] at hx
   subst hx
   rcases hb g hg with hb | hb
   ·exact h.apart a b _ _ g hab hu hy hb hg2
   ·have := old b y g hy hg2
    omega
  ·rw [List.getElem?_set_ne (Ne.symm hai)] at hx
   by_cases hbi : b = i
   ·subst hbi
    rw [List.getElem?_set_self (by omega)] at hy
    simp only [Option.some.injEq] at hy
    subst hy
    rcases hb g hg2 with hb | hb
    ·exact h.apart a b _ _ g hab hx hu hg hb
    ·have := old a x g hx hg
     omega
   ·rw [List.getElem?_set_ne (Ne.symm hbi)] at hy
    exact h.apart a b _ _ g hab hx hy hg hg2
theorem FabAt.keptS {S : Nat → Prop} {sn : List (List Nat)} {vs : List Value} (h : FabAt w B F f z) (k : Kept S w q) (hS : ∀ g e cur, Lies w g e cur → S g → e = 66 ∨ e = 37) (hn : SnsAt q B z.sv vs sn) : FabAt q B F { f with sn := sn } { z with vs := vs } := by
 have no : ∀ {g e cur}, Lies w g e cur → e ≠ 66 → e ≠ 37 → ¬ S g := fun {g e cur} h1 h2 h3 h4 => by rcases hS _ _ _ h1 h4 with h5 | h5; exact h2 h5; exact h3 h5
 exact ⟨h.box.kept k (no h.box (by decide) (by decide)), h.pg.kept k (fun r e cur he h1 => no h1 (by rcases he with rfl | rfl | rfl <;> decide) (by rcases he with rfl | rfl | rfl <;> decide)), owns_kept h.tr k (fun r cur _ h1 => no h1 (by decide) (by decide)),
  hn, h.lr.kept k (fun r cur h1 => no h1 (by decide) (by decide)), h.hB⟩
theorem FabAt.seen (h : FabAt w B F f z) (ok : FbOk f) {t : Nat} (ht : t < f.p.ts.length) : ∃ S cs A c s, z.sv = .slice (some ⟨S, 0, none⟩) f.p.ts.length cs ∧ f.p.ts.length ≤ cs ∧ cs ≤ 9223372036854775807 ∧ f.sn[t]? = some s ∧ z.vs[t]? = some (.slice A s.length c) ∧ w.ownsRow B 37 1 (.slice A s.length c) s.length (cells64 s) ∧
  (∃ cur, Lies w S 66 cur) ∧ w.cell? ⟨S, t, none⟩ = some (.slice A s.length c) ∧
  ∀ (q1 : World) (v' : Value) (s' : List Nat) (A' : Option Addr) (c' : Nat), v' = .slice A' s'.length c' → Kept (ownIs (.slice A s.length c)) w q1 → q1.ownsRow B 37 1 v' s'.length (cells64 s') → (∀ g, v'.ownBlock = some g → (Value.slice A s.length c).ownBlock = some g ∨ w.heap.size ≤ g) →
   FabAt (q1.setCell ⟨S, t, none⟩ v') B F { f with sn := f.sn.set t s' } { z with vs := z.vs.set t v' } ∧ Kept (FpOf F z) w (q1.setCell ⟨S, t, none⟩ v') ∧ (∀ k, FpOf F { z with vs := z.vs.set t v' } k → FpOf F z k ∨ w.heap.size ≤ k) := by
 have htl : t < f.sn.length := by rw [ok.sl]; exact ht
 obtain ⟨A, c, e, ho⟩ := h.sr.each t _ (List.getElem?_eq_getElem htl)
 rcases owns_row h.sr.row with ⟨_, e0, _⟩ | ⟨S, cs, cur, e2, hT, hl, hc1, hc2⟩
 ·omega
 have hrow := h.sr.row
 rw [e2, ok.sl] at hrow
 have hcell := (SeqS.of_owns hrow)
 unfold maxLen at hc2
 have hbS : z.sv.ownBlock = some S := by rw [e2]; rfl
 refine ⟨S, cs, A, c, _, by rw [e2, ok.sl], by have := ok.sl; omega, by omega, List.getElem?_eq_getElem htl, e, ho, ⟨cur, hl⟩, ?_, fun q1 v' s' A' c' hv k ho' hb => ?_⟩
 ·obtain ⟨_, A2, c2, e3, _, _, _, hcl⟩ := hcell
  obtain ⟨b, off, e4, e5⟩ := hcl t _ e
  simp only [Value.slice.injEq, true_and] at e3
  obtain ⟨rfl, _⟩ := e3
  simp only [Option.some.injEq, Addr.mk.injEq, and_true] at e4
  obtain ⟨rfl, rfl⟩ := e4
  rwa [Nat.zero_add] at e5
 ·have hn := h.sr.turn htl e k hv ho' hb hbS
  have hmem : Value.slice A (f.sn[t]'htl).length c ∈ z.vs := List.mem_of_getElem? e
  have kp := (k.mono (T := fun g => g = S ∨ ownIs (.slice A (f.sn[t]'htl).length c) g) (fun _ _ h => .inr h)).trans (Kept.put q1 S t v') (fun i _ (h : i = S) => .inl h)
  refine ⟨h.keptS kp (fun g e2 c2 h1 h2 => ?_) hn, kp.mono (fun g _ h2 => ?_), fun g hg => ?_⟩
  ·rcases h2 with h2 | h2
   ·subst h2; exact .inl (h1.same hl).1
   ·obtain ⟨_, c3, h3⟩ := own_lies ho h2
    exact .inr (h1.same h3).1
  ·rcases h2 with h2 | h2
   ·subst h2; exact .inr (.inr (.inl hbS))
   ·exact .inr (.inr (.inr (.inr ⟨_, hmem, h2⟩)))
  ·rcases hg with hg | hg | hg | hg | ⟨u, hu, hg⟩
   ·exact .inl (.inl hg)
   ·exact .inl (.inr (.inl hg))
   ·exact .inl (.inr (.inr (.inl hg)))
   ·exact .inl (.inr (.inr (.inr (.inl hg))))
   ·rcases List.mem_or_eq_of_mem_set hu with hu | hu
    ·exact .inl (.inr (.inr (.inr (.inr ⟨u, hu, hg⟩))))
    ·subst hu
     rcases hb g hg with hb | hb
     ·exact .inl (.inr (.inr (.inr (.inr ⟨_, hmem, hb⟩))))
     ·exact .inr hb
end
theorem append_argS_at {P : Program} {ops : Array Oper} {rest : List Oper} {o : Oper} {a : Act} {Q : Exit → Act → World → Prop} (w : World) (sz : Nat)
  (hg : o.guard = none) (s y : Operand) (t : TypeId) (hop : o.op = Op.call { callee := Callee.builtin Builtin.append, args := #[s, y], argTypes := #[t, t] })
  (base : Nat) (e : TypeId) (z : Value) (bytes : Nat) (ht : P.underlying t = some (.slice e)) (hi : (P.info? e).map (fun i => (i.zero, i.size, i.bytes)) = some (some z, sz, bytes))
  (hzs : z.cells.size = sz) (hsz : 0 < sz)
  (v : Value) (n : Nat) (ys : List Value) (hs : a.eval s = v) (hown : w.ownsRow base e sz v n ys) (A : Option Addr) (len cap : Nat) (hy : a.eval y = .slice A len cap)
  (xs : List Value) (hx : SeqS w sz (.slice A len cap) len xs) (h1 : ∀ u ∈ xs, u.oneCell' = true)
  (b1 : n + len ≤ maxLen) (b2 : (n + len) * bytes ≤ 140737488355328) (b3 : base ≤ w.heap.size)
  (hK : ∀ v' w', w'.ownsRow base e sz v' (n + len) (ys ++ xs) → Below base w w' → w.grownBy w' v.ownBlock → (v'.ownBlock = v.ownBlock ∨ (v'.ownBlock = some w.heap.size ∧ w.heap.size < w'.heap.size)) → wpList P ops Q rest (a.put o.dst v') w') :
  wpList P ops Q (o :: rest) a w := by
 obtain ⟨i0, hi, hz0, hz1, hz2⟩ := info_parts hi
 obtain ⟨hl, A', c', e1, hlc, hcm, h0, hcell⟩ := hx
 simp only [Value.slice.injEq, true_and] at e1
 obtain ⟨rfl, rfl⟩ := e1
 cases A with
 | none =>
  have hc0 := h0 rfl
  subst hc0
  obtain rfl : len = 0 := by omega
  have hx0 : xs = [] := List.length_eq_zero_iff.1 (by simpa using hl)
  subst hx0
  refine wpList_append_own_none hg s y t hop base e i0 sz ht hi v n ys hs hown hy ?_
  exact hK v w (by simpa using hown) (Below.refl _ _) ⟨rfl, rfl, rfl, Nat.le_refl _, fun _ _ _ => rfl⟩ (.inl rfl)
 | some ad =>
  refine wpList_append_own_at _ hg s y t hop base e i0 z sz bytes ht hi hz0 hz1 hz2 hzs hsz v n ys hs hown ad len cap xs hy hl ?_ h1 b1 b2 b3 ?_
  ·intro j u hj
   obtain ⟨b, off, he, hc⟩ := hcell j u hj
   injection he with he
   subst he
   rw [addr_plus]; exact hc
  ·intro v' w' ho hgr _ hat
   refine hK v' w' ho ((Below.refl _ _).grown hgr b3 (fun k hk => (hown.lt k hk).1)) hgr ?_
   rcases hat with hat | hat
   ·exact .inl hat
   ·exact .inr ⟨hat, (ho.lt _ hat).2⟩
theorem infoU6 : (Tryz.prog.info? 37).map (fun i => (i.zero, i.size, i.bytes)) = some (some (.int .u64 0), 1, 8) := by kernel_rfl
theorem thCells {w : World} {g : Nat} {x : Th} {v : Value} (h : Lies w g 73 (thC x v)) : w.cell? ⟨g, 0, none⟩ = some (Value.int .i64 x.at_) ∧ w.cell? ⟨g, 1, none⟩ = some (Value.int .i64 x.ph) ∧ w.cell? ⟨g, 2, none⟩ = some (Value.int .i64 x.rg) ∧ w.cell? ⟨g, 3, none⟩ = some (Value.int .i64 x.st) ∧ w.cell? ⟨g, 4, none⟩ = some (Value.int .u64 (x.tk : Int)) ∧ w.cell? ⟨g, 5, none⟩ = some (Value.int .u64 (x.r 0 : Int)) ∧ w.cell? ⟨g, 6, none⟩ = some (Value.int .u64 (x.r 1 : Int)) ∧ w.cell? ⟨g, 7, none⟩ = some (Value.int .u64 (x.r 2 : Int)) ∧ w.cell? ⟨g, 8, none⟩ = some (Value.int .u64 (x.r 3 : Int)) ∧ w.cell? ⟨g, 9, none⟩ = some (Value.int .u64 (x.r 4 : Int)) ∧ w.cell? ⟨g, 10, none⟩ = some (Value.int .u64 (x.r 5 : Int)) ∧ w.cell? ⟨g, 11, none⟩ = some (Value.int .u64 (x.r 6 : Int)) ∧ w.cell? ⟨g, 12, none⟩ = some (Value.int .u64 (x.r 7 : Int)) ∧ w.cell? ⟨g, 13, none⟩ = some (v) :=
 ⟨h.cell 0, h.cell 1, h.cell 2, h.cell 3, h.cell 4, h.cell 5, h.cell 6, h.cell 7, h.cell 8, h.cell 9, h.cell 10, h.cell 11, h.cell 12, h.cell 13⟩
theorem infoThS : (Tryz.prog.info? 73).map (·.size) = some 14 := by kernel_rfl
theorem doZ_sn {l : List In} {x : Th} {e : Ev} {v : Nat} (hx : thOk x) (h0 : x.sn = []) (hok : ∀ i ∈ l, inOk i) : (doZ l x e v).1.sn.length ≤ 1 := by
 unfold doZ
 by_cases h : thB l x = true
 ·rw [if_pos h]
  have hy := (nxT_facts h hx hok).2.2
  rw [h0] at hy
  repeat' split
  ·unfold behT
   repeat' split
   all_goals first
    | (show (nxT l x).sn.length ≤ 1; rw [hy]; decide)
    | (show ((nxT l x).sn ++ [e.vl]).length ≤ 1; rw [hy]; exact Nat.le_refl 1)
    | (show (regT _ (nxT l x) e v).sn.length ≤ 1; rw [regT_sn, hy]; decide)
  all_goals exact Nat.zero_le 1
 ·rw [if_neg h]; exact Nat.zero_le 1
def Sn14 (B : Nat) (w9 : World) (u0 : Value) (m : List Nat) (v : Value) (q : World) : Prop := ∃ A' c', v = .slice A' m.length c' ∧ q.ownsRow B 37 1 v m.length (cells64 m) ∧ (v.ownBlock = u0.ownBlock ∨ ∃ k, w9.heap.size ≤ k ∧ v.ownBlock = some k)
def SnS (w9 : World) (B S t : Nat) (u0 : Value) (m : List Nat) (x : Nat → Value) (L : Nat → Bool) (q : World) : Prop :=
 ∃ q1, (L 16 = false → q = q1) ∧ (L 16 = true → q = q1.setCell ⟨S, t, none⟩ (x 14) ∧ ∀ j, j < 16 → L j = true) ∧ Kept (ownIs u0) w9 q1 ∧ (L 14 = false → Below w9.heap.size w9 q1) ∧ (L 14 = true → Sn14 B w9 u0 m (x 14) q1)
section
variable {w9 : World} {B S t : Nat} {u0 v : Value} {m : List Nat} {x : Nat → Value} {L : Nat → Bool} {q q' : World} {i : Nat}
theorem fupdL_ne {k : Nat} (h : k ≠ i) : updL L i k = L k := by unfold updL; simp [h]
theorem fupdL_self : updL L i i = true := by unfold updL; simp
theorem fupdX_ne {k : Nat} (h : k ≠ i) : updX x i v k = x k := if_neg h
theorem fupdX_self : updX x i v i = v := if_pos rfl
theorem sn_start : SnS w9 B S t u0 m x (fun _ => false) (w9.drewN 1) := ⟨_, fun _ => rfl, fun h => (Bool.false_ne_true h).elim, Kept.drewN _ _ _, fun _ => below_drewN (Below.refl _ _) 1, fun h => (Bool.false_ne_true h).elim⟩
theorem sn_no (h : SnS w9 B S t u0 m x L q) (hL : L i = false) (hi : i < 16) : L 16 = false := by
 obtain ⟨q1, _, h2, _⟩ := h
 by_cases h16 : L 16 = true
 ·have := (h2 h16).2 i hi
  rw [hL] at this; exact (Bool.false_ne_true this).elim
 ·exact Bool.eq_false_iff.2 h16
theorem sn_at (h : SnS w9 B S t u0 m x L q) (hL : L i = false) (hi : i < 16) : Kept (ownIs u0) w9 q := by
 have h16 := sn_no h hL hi
 obtain ⟨q1, h1, _, h3, _⟩ := h
 rw [h1 h16]; exact h3
theorem sn_op (hi : (decide (i < 16) && i != 14) = true) (h : SnS w9 B S t u0 m x L q) (hL : L i = false := by assumption) : SnS w9 B S t u0 m (updX x i v) (updL L i) q := by
 rw [Bool.and_eq_true, decide_eq_true_eq, bne_iff_ne] at hi
 have h16 := sn_no h hL hi.1
 obtain ⟨q1, h1, h2, h3, h4, h5⟩ := h
 refine ⟨q1, fun _ => h1 h16, fun e => ?_, h3, fun e => h4 ?_, fun e => ?_⟩
 ·rw [fupdL_ne (by omega)] at e; rw [h16] at e; exact (Bool.false_ne_true e).elim
 ·rwa [fupdL_ne (Ne.symm hi.2)] at e
 ·rw [fupdL_ne (Ne.symm hi.2)] at e
  rw [fupdX_ne (Ne.symm hi.2)]; exact h5 e
theorem sn_bel (h : SnS w9 B S t u0 m x L q) (hL : L 14 = false) : Below w9.heap.size w9 q := by
 have h16 := sn_no h hL (by decide)
 obtain ⟨q1, h1, _, _, h4, _⟩ := h
 rw [h1 h16]; exact h4 hL
theorem sn_app (h : SnS w9 B S t u0 m x L q) (hL : L 14 = false) (hk : Kept (ownIs u0) q q') (hv : Sn14 B w9 u0 m v q') : SnS w9 B S t u0 m (updX x 14 v) (updL L 14) q' := by
 have h16 := sn_no h hL (by decide)
 have hb := sn_bel h hL
 refine ⟨q', fun _ => rfl, fun e => ?_, ((Kept.of_below hb).mono (fun _ _ (hx : False) => hx.elim)).trans hk (fun _ _ h => h), fun e => ?_, fun _ => ?_⟩
 ·rw [fupdL_ne (by omega), h16] at e; exact (Bool.false_ne_true e).elim
 ·rw [fupdL_self] at e; exact (Bool.false_ne_true e.symm).elim
 ·rw [fupdX_self]; exact hv
theorem sn_store (h : SnS w9 B S t u0 m x L q) (hL : L 16 = false) (hall : ∀ j, j < 16 → L j = true) : SnS w9 B S t u0 m (updX x 16 v) (updL L 16) (q.setCell ⟨S, t, none⟩ (x 14)) := by
 obtain ⟨q1, h1, _, h3, _, h5⟩ := h
 have e := h1 hL
 subst e
 refine ⟨q, fun e => ?_, fun _ => ⟨by rw [fupdX_ne (by omega)], fun j hj => by rw [fupdL_ne (by omega)]; exact hall j hj⟩, h3, fun e => ?_, fun _ => ?_⟩
 ·rw [fupdL_self] at e; exact (Bool.false_ne_true e.symm).elim
 ·rw [fupdL_ne (by omega), hall 14 (by omega)] at e; exact (Bool.false_ne_true e.symm).elim
 ·rw [fupdX_ne (by omega)]; exact h5 (hall 14 (by omega))
theorem sn_end (h : SnS w9 B S t u0 m x L q) (hall : ∀ j, j < 17 → L j = true) : ∃ q1, q = q1.setCell ⟨S, t, none⟩ (x 14) ∧ Kept (ownIs u0) w9 q1 ∧ Sn14 B w9 u0 m (x 14) q1 := by
 obtain ⟨q1, _, h2, h3, _, h5⟩ := h
 exact ⟨q1, (h2 (hall 16 (by omega))).1, h3, h5 (hall 14 (by omega))⟩
theorem sn_st (h : SnS w9 B S t u0 m x L q) (hL : L 16 = false) (h14 : L 14 = true) : Kept (ownIs u0) w9 q ∧ Sn14 B w9 u0 m (x 14) q := by
 obtain ⟨q1, h1, _, h3, _, h5⟩ := h
 have e := h1 hL
 subst e
 exact ⟨h3, h5 h14⟩
theorem FabAt.keptB {P : Nat → Prop} {w w' : World} {F : Nat} {f : Fb} {z : Fv} (h : FabAt w B F f z) (k : Kept P w w') (h1 : ∀ k, FpOf F z k → ¬ P k) (h2 : ∀ r e cur, (e = 84 ∨ e = 78 ∨ e = 122) → Lies w r e cur → ¬ P r) (h3 : ∀ r cur, Lies w r 97 cur → ¬ P r) : FabAt w' B F f z :=
 ⟨h.box.kept k (h1 F (.inl rfl)), h.pg.kept k h2, owns_kept h.tr k (fun r cur hr _ => h1 r (.inr (.inl hr))), h.sr.kept k (fun r a hr _ => h1 r (.inr (.inr (.inl hr)))) (fun u r a hu hr _ => h1 r (.inr (.inr (.inr (.inr ⟨u, hu, hr⟩))))), h.lr.kept k h3, h.hB⟩
theorem fkV_eqs {N : Nat} {fs : List Fk} {j : Nat} {u : Value} {l : List Nat} (hl : l.all (fun j => (fs.getD j .any).typ == none) = true) (hj : j ∈ l) (h : fkV N fs j u q) : fkV N fs j u q' := by
 have h1 := List.all_eq_true.1 hl j hj
 rw [beq_iff_eq] at h1
 unfold fkV at h ⊢
 generalize fs.getD j .any = k at h h1 ⊢
 cases k <;> first | exact h | cases h1
end
end Go.Proofs.YtdffpbfebgcmaaaGreat
