import Derived.Test.YtiegmpjoiekekaaThd
import Derived.StillTailTactics
/-
  What an event makes of a thread (layer 16): thread.Do: events of the kinds 14 and 15.
-/
namespace Go.Proofs.Ytiegmpjoiekekaa
open Go.RowKit
set_option linter.unusedVariables false
set_option linter.unusedSimpArgs false
set_option maxHeartbeats 8000000 in
set_option maxRecDepth 100000 in
theorem do16k14 (l : List In) (A : Option Addr) (c : Nat) (x : Th) (S : Option Addr) (cs : Nat) (e : Ev) (v : Nat) (w : World) (h : InsAt w A c l) (hok : ∀ i ∈ l, inOk i) (hx : thOk x) (hs : SeqS w 1 (.slice S x.sn.length cs) x.sn.length (cells64 x.sn)) (hl : x.sn.length ≤ 1000000) (hr : thB l x = true) (hre : rightE e = true) (hf : fitB (reqA l (nxT l x)) e = true) (hk : e.kd = 14) :
    Calls Try.prog 18 #[.slice A l.length c, .agg (thC x (.slice S x.sn.length cs)), .agg (evC e), .int .u64 (v : Int)] w fun q w' => ∃ A' c', q = .returned (.tuple #[.agg (thC (behT (atT l (nxT l x)) (nxT l x) e v) (.slice A' (behT (atT l (nxT l x)) (nxT l x) e v).sn.length c')), .int .i64 0]) ∧ w'.ownsRow w.heap.size 23 1 (.slice A' (behT (atT l (nxT l x)) (nxT l x) e v).sn.length c') (behT (atT l (nxT l x)) (nxT l x) e v).sn.length (cells64 (behT (atT l (nxT l x)) (nxT l x) e v).sn) ∧ Below w.heap.size w w' := by
  obtain ⟨hc1, hc2⟩ := seq_form h
  have hb3 : Below w.heap.size w (((w.alloc (.cells (thC x (.slice S x.sn.length cs)) 27)).alloc (.cells (evC e) 42)).alloc (.cells thZ 27)) := (((Below.refl _ _).alloc (Nat.le_refl _) _).alloc (by simp) _).alloc (by simp; omega) _
  have l1 := ((Lies.made w 27 (thC x (.slice S x.sn.length cs))).alloc (.cells (evC e) 42)).alloc (.cells thZ 27)
  have l2 := (Lies.made (w.alloc (.cells (thC x (.slice S x.sn.length cs)) 27)) 42 (evC e)).alloc (.cells thZ 27)
  have l3 := Lies.made ((w.alloc (.cells (thC x (.slice S x.sn.length cs)) 27)).alloc (.cells (evC e) 42)) 27 thZ
  rw [show (w.alloc (.cells (thC x (.slice S x.sn.length cs)) 27)).heap.size = w.heap.size + 1 by simp] at l2
  rw [show ((w.alloc (.cells (thC x (.slice S x.sn.length cs)) 27)).alloc (.cells (evC e) 42)).heap.size = w.heap.size + 1 + 1 by simp] at l3
  have HB := Lib.hid hb3
  have HG := Lib.hid l1
  have HE := Lib.hid l2
  have H4 := Lib.hid l3
  have HH := Lib.hid (fun (q : World) (hq : Below w.heap.size w q) => h.later hq)
  clear hb3 l1 l2 l3
  have hnf := nxT_facts hr hx hok
  have HNX := Lib.hid (fun q hq hs => next16 l A c x S cs q hq hok hx hs hl hr)
  have HSQ := Lib.hid (fun (q : World) (hq : Below w.heap.size w q) => hs.later hq)
  have HRI := Lib.hid (fun q => right15 e q)
  rw [hre] at HRI
  have HMT := Lib.hid (fun q => matches16 (reqA l (nxT l x)) e q)
  rw [hf] at HMT
  have HKD := Lib.hid hk
  clear hk
  clear hre hf
  obtain ⟨n, hn⟩ : ∃ n, x.sn.length = n := ⟨_, rfl⟩
  have HNE : Hid ((nxT l x).sn.length = n) := by show _ = _; rw [hnf.2.2, hn]
  have HSE : Hid (cells64 x.sn = cells64 (nxT l x).sn) := by show _ = _; rw [hnf.2.2]
  have HIV := Lib.hid hnf.1
  have HCD := Lib.hid (thB_parts hr).1
  have hlen := (codeB_parts HCD.out).1
  have HOK := Lib.hid hok
  have hn6 : n ≤ 1000000 := by omega
  have HNN := Lib.hid hn
  clear h hs hl hr hx hok hnf hn
  go_enter Try.func18, Try.ntmps18
  go_upto_region 1 with (fail)
  generalize (((w.alloc (.cells (thC x (.slice S x.sn.length cs)) 27)).alloc (.cells (evC e) 42)).alloc (.cells thZ 27)) = w1 at *
  have c0 := (HG.out.cell 0).trans (show _ = some (Value.int .i64 x.at_) from rfl)
  have c1 := (HG.out.cell 1).trans (show _ = some (Value.int .i64 x.ph) from rfl)
  have c2 := (HG.out.cell 2).trans (show _ = some (Value.int .i64 x.rg) from rfl)
  have c3 := (HG.out.cell 3).trans (show _ = some (Value.int .i64 x.st) from rfl)
  have c4 := (HG.out.cell 4).trans (show _ = some (Value.int .u64 (x.tk : Int)) from rfl)
  have c5 := (HG.out.cell 5).trans (show _ = some (Value.int .u64 (x.r 0 : Int)) from rfl)
  have c6 := (HG.out.cell 6).trans (show _ = some (Value.int .u64 (x.r 1 : Int)) from rfl)
  have c7 := (HG.out.cell 7).trans (show _ = some (Value.int .u64 (x.r 2 : Int)) from rfl)
  have c8 := (HG.out.cell 8).trans (show _ = some (Value.int .u64 (x.r 3 : Int)) from rfl)
  have c9 := (HG.out.cell 9).trans (show _ = some (Value.int .u64 (x.r 4 : Int)) from rfl)
  have c10 := (HG.out.cell 10).trans (show _ = some (Value.int .u64 (x.r 5 : Int)) from rfl)
  have c11 := (HG.out.cell 11).trans (show _ = some (Value.int .u64 (x.r 6 : Int)) from rfl)
  have c12 := (HG.out.cell 12).trans (show _ = some (Value.int .u64 (x.r 7 : Int)) from rfl)
  have c13 := (HG.out.cell 13).trans (show _ = some ((.slice S x.sn.length cs)) from rfl)
  have cl := HG.out.lt
  go_wp2_with fail
  refine (HNX.out _ (HH.out _ HB.out) (HSQ.out _ HB.out)).mono ?_
  rintro e1 w2 ⟨A', c', rfl, ho, hbm⟩
  have HN2 : Hid (w.heap.size + 1 + 1 < w2.heap.size) := Nat.lt_of_lt_of_le H4.out.lt hbm.size
  have HO0 := owns_mono ho HB.out.size
  rw [HSE.out] at HO0
  rw [HNN.out] at HO0 ⊢
  have HO := Lib.hid HO0
  replace HG := Lib.hid (HG.out.below hbm HG.out.lt)
  replace HE := Lib.hid (HE.out.below hbm HE.out.lt)
  replace H4 := Lib.hid (H4.out.below hbm H4.out.lt)
  replace HB := Lib.hid (HB.out.trans (hbm.mono HB.out.size))
  clear hbm HNX HSQ ho HO0 HSE
  generalize hyy : nxT l x = y at *
  have HYE := Lib.hid hyy
  clear hyy
  generalize hzz : reqA l y = z at *
  have HZE := Lib.hid hzz
  clear hzz
  clear c0 c1 c2 c3 c4 c5 c6 c7 c8 c9 c10 c11 c12 c13 cl
  have hba := (Below.refl w2.heap.size w2).alloc (Nat.le_refl _) (.cells akZ 31)
  have H5 := Lib.hid (Lies.made w2 31 akZ)
  replace HG := Lib.hid (HG.out.below hba HG.out.lt)
  replace HE := Lib.hid (HE.out.below hba HE.out.lt)
  replace H4 := Lib.hid (H4.out.below hba H4.out.lt)
  replace HB := Lib.hid (HB.out.trans (hba.mono HB.out.size))
  replace HO := Lib.hid (owned_below HO.out hba)
  have hn5 : w.heap.size + 1 + 1 < w2.heap.size := HN2.out
  clear hba HN2
  generalize hw3 : w2.alloc (.cells akZ 31) = w3 at *
  generalize hn5e : w2.heap.size = n5 at *
  go_wp2_with (
    refine wpList_store_row rfl 27 _ _ rfl (w.heap.size) (thC y (.slice A' n c')) rfl rfl 27 (thC x (.slice S x.sn.length cs)) HG.out infoTh rfl (thC_one _ rfl) ?_
    try clear hw3
    have hk4 := kept_rowT (w := w3) (g := w.heap.size) (thC y (.slice A' n c'))
    replace HO := Lib.hid (owns_kept HO.out hk4 (fun r cur hr hl (e : r = w.heap.size) => by subst e; exact absurd (hl.same HG.out).1 (by decide)))
    replace HG := Lib.hid (lies_row HG.out (thC y (.slice A' n c')))
    replace HE := Lib.hid (HE.out.kept hk4 (fun (e : w.heap.size + 1 = w.heap.size) => by omega))
    replace H4 := Lib.hid (H4.out.kept hk4 (fun (e : w.heap.size + 1 + 1 = w.heap.size) => by omega))
    replace H5 := Lib.hid (H5.out.kept hk4 (fun (e : n5 = w.heap.size) => by omega))
    replace HB := Lib.hid (HB.out.trans (hk4.below HB.out.size (fun k hk (e : k = w.heap.size) => by omega)))
    clear hk4
    generalize w3.setRow (w.heap.size) (thC y (.slice A' n c')) = w4 at *
    go_wp2_with (
      refine wpList_store_row rfl 31 _ _ rfl n5 (akC z) rfl rfl 31 akZ H5.out infoAk rfl (akC_one _) ?_
      have hk5 := kept_rowT (w := w4) (g := n5) (akC z)
      replace HO := Lib.hid (owns_kept HO.out hk5 (fun r cur hr hl (e : r = n5) => by subst e; exact absurd (hl.same H5.out).1 (by decide)))
      replace HG := Lib.hid (HG.out.kept hk5 (fun (e : w.heap.size = n5) => by omega))
      replace HE := Lib.hid (HE.out.kept hk5 (fun (e : w.heap.size + 1 = n5) => by omega))
      replace H4 := Lib.hid (H4.out.kept hk5 (fun (e : w.heap.size + 1 + 1 = n5) => by omega))
      replace H5 := Lib.hid (lies_row H5.out (akC z))
      replace HB := Lib.hid (HB.out.trans (hk5.below HB.out.size (fun k hk (e : k = n5) => by omega)))
      clear hk5
      generalize w4.setRow n5 (akC z) = wq at *
      have q0 := (HE.out.cell 0).trans (show _ = some (Value.int .i64 e.th) from rfl)
      have q1 := (HE.out.cell 1).trans (show _ = some (Value.int .i64 e.kd) from rfl)
      have q2 := (HE.out.cell 2).trans (show _ = some (Value.int .i64 e.rg) from rfl)
      have q3 := (HE.out.cell 3).trans (show _ = some (Value.int .u64 (e.tk : Int)) from rfl)
      have q4 := (HE.out.cell 4).trans (show _ = some (Value.int .u64 (e.vl : Int)) from rfl)
      have ql := HE.out.lt
      go_wp2_with fail
      refine (HRI.out _).mono ?_
      rintro e1 w5 ⟨rfl, hbm⟩
      clear q0 q1 q2 q3 q4 ql
      replace H5 := Lib.hid (H5.out.below hbm H5.out.lt)
      replace HO := Lib.hid (owned_below HO.out hbm)
      replace HG := Lib.hid (HG.out.below hbm HG.out.lt)
      replace HE := Lib.hid (HE.out.below hbm HE.out.lt)
      replace H4 := Lib.hid (H4.out.below hbm H4.out.lt)
      replace HB := Lib.hid (HB.out.trans (hbm.mono HB.out.size))
      clear hbm HRI
      clear wq
      have q0 := (HE.out.cell 0).trans (show _ = some (Value.int .i64 e.th) from rfl)
      have q1 := (HE.out.cell 1).trans (show _ = some (Value.int .i64 e.kd) from rfl)
      have q2 := (HE.out.cell 2).trans (show _ = some (Value.int .i64 e.rg) from rfl)
      have q3 := (HE.out.cell 3).trans (show _ = some (Value.int .u64 (e.tk : Int)) from rfl)
      have q4 := (HE.out.cell 4).trans (show _ = some (Value.int .u64 (e.vl : Int)) from rfl)
      have ql := HE.out.lt
      have k0 := (H5.out.cell 0).trans (show _ = some (.int .i64 z.kd) from rfl)
      have k1 := (H5.out.cell 1).trans (show _ = some (.int .i64 z.rg) from rfl)
      have k2 := (H5.out.cell 2).trans (show _ = some (.int .i64 z.md) from rfl)
      have k3 := (H5.out.cell 3).trans (show _ = some (.int .i64 z.rd) from rfl)
      have k4 := (H5.out.cell 4).trans (show _ = some (.int .u64 (z.tk : Int)) from rfl)
      have k5 := (H5.out.cell 5).trans (show _ = some (.int .u64 (z.vl : Int)) from rfl)
      have kl := H5.out.lt
      go_wp2_with fail
      refine (HMT.out _).mono ?_
      rintro e1 wq ⟨rfl, hbm⟩
      clear q0 q1 q2 q3 q4 ql
      clear k0 k1 k2 k3 k4 k5 kl
      replace HO := Lib.hid (owned_below HO.out hbm)
      replace HG := Lib.hid (HG.out.below hbm HG.out.lt)
      replace HE := Lib.hid (HE.out.below hbm HE.out.lt)
      replace H4 := Lib.hid (H4.out.below hbm H4.out.lt)
      replace HB := Lib.hid (HB.out.trans (hbm.mono HB.out.size))
      clear hbm HMT H5 w5
      have q0 := (HE.out.cell 0).trans (show _ = some (Value.int .i64 e.th) from rfl)
      have q1 := (HE.out.cell 1).trans (show _ = some (Value.int .i64 e.kd) from rfl)
      have q2 := (HE.out.cell 2).trans (show _ = some (Value.int .i64 e.rg) from rfl)
      have q3 := (HE.out.cell 3).trans (show _ = some (Value.int .u64 (e.tk : Int)) from rfl)
      have q4 := (HE.out.cell 4).trans (show _ = some (Value.int .u64 (e.vl : Int)) from rfl)
      have ql := HE.out.lt
      rw [HKD.out] at q1
      have c3 := (HG.out.cell 3).trans (show _ = some (.int .i64 y.st) from rfl)
      have cl := HG.out.lt
      have f3 := HG.out.free 3
      go_upto_region 18 with (fail)
      clear q0 q1 q2 q3 q4 ql
      clear c3 cl f3
      replace H4 := Lib.hid (H4.out.far (p := ⟨w.heap.size, 3, none⟩) (show w.heap.size + 1 + 1 ≠ w.heap.size by omega) (.int .i64 1))
      replace HO := Lib.hid (owns_put HO.out HG.out (by decide) 3 (.int .i64 1))
      replace HB := Lib.hid (HB.out.setCell (p := ⟨w.heap.size, 3, none⟩) (Nat.le_refl _) (.int .i64 1))
      replace HG := Lib.hid (show Lies (wq.setCell ⟨w.heap.size, 3, none⟩ (.int .i64 1)) (w.heap.size) 27 (thC ({ y with st := 1 } : Th) (.slice A' n c')) from HG.out.put 3 (.int .i64 1))
      generalize wq.setCell ⟨w.heap.size, 3, none⟩ (.int .i64 1) = w9 at *
      clear HE HIV HCD HOK
      have HBE : Hid (behT (atT l y) y e v = ({ y with st := 1 } : Th)) := by show _ = _; unfold behT; rw [HKD.out]; simp
      replace HO : Hid (World.ownsRow w9 w.heap.size 23 1 (.slice A' n c') n (cells64 (({ y with st := 1 } : Th)).sn)) := HO
      have HZN : Hid ((({ y with st := 1 } : Th)).sn.length = n) := HNE
      have c0 := (HG.out.cell 0).trans (show _ = some (Value.int .i64 ({ y with st := 1 } : Th).at_) from rfl)
      have c1 := (HG.out.cell 1).trans (show _ = some (Value.int .i64 ({ y with st := 1 } : Th).ph) from rfl)
      have c2 := (HG.out.cell 2).trans (show _ = some (Value.int .i64 ({ y with st := 1 } : Th).rg) from rfl)
      have c3 := (HG.out.cell 3).trans (show _ = some (Value.int .i64 ({ y with st := 1 } : Th).st) from rfl)
      have c4 := (HG.out.cell 4).trans (show _ = some (Value.int .u64 (({ y with st := 1 } : Th).tk : Int)) from rfl)
      have c5 := (HG.out.cell 5).trans (show _ = some (Value.int .u64 (({ y with st := 1 } : Th).r 0 : Int)) from rfl)
      have c6 := (HG.out.cell 6).trans (show _ = some (Value.int .u64 (({ y with st := 1 } : Th).r 1 : Int)) from rfl)
      have c7 := (HG.out.cell 7).trans (show _ = some (Value.int .u64 (({ y with st := 1 } : Th).r 2 : Int)) from rfl)
      have c8 := (HG.out.cell 8).trans (show _ = some (Value.int .u64 (({ y with st := 1 } : Th).r 3 : Int)) from rfl)
      have c9 := (HG.out.cell 9).trans (show _ = some (Value.int .u64 (({ y with st := 1 } : Th).r 4 : Int)) from rfl)
      have c10 := (HG.out.cell 10).trans (show _ = some (Value.int .u64 (({ y with st := 1 } : Th).r 5 : Int)) from rfl)
      have c11 := (HG.out.cell 11).trans (show _ = some (Value.int .u64 (({ y with st := 1 } : Th).r 6 : Int)) from rfl)
      have c12 := (HG.out.cell 12).trans (show _ = some (Value.int .u64 (({ y with st := 1 } : Th).r 7 : Int)) from rfl)
      have c13 := (HG.out.cell 13).trans (show _ = some ((.slice A' n c')) from rfl)
      have cl := HG.out.lt
      go_wp2_with (
        refine wpList_store_row rfl 27 _ _ rfl (w.heap.size + 1 + 1) (thC ({ y with st := 1 } : Th) (.slice A' n c')) rfl rfl 27 thZ H4.out infoTh rfl (thC_one _ rfl) ?_
        clear c0 c1 c2 c3 c4 c5 c6 c7 c8 c9 c10 c11 c12 c13 cl
        have hk9 := kept_rowT (w := w9) (g := w.heap.size + 1 + 1) (thC ({ y with st := 1 } : Th) (.slice A' n c'))
        have HBZ := Lib.hid (HB.out.trans (hk9.below HB.out.size (fun k hk (e : k = w.heap.size + 1 + 1) => by omega)))
        have Q4 := Lib.hid (lies_row H4.out (thC ({ y with st := 1 } : Th) (.slice A' n c')))
        have HOZ := Lib.hid (owns_kept HO.out hk9 (fun r cur hr hl (e : r = w.heap.size + 1 + 1) => by subst e; exact absurd (hl.same H4.out).1 (by decide)))
        clear hk9
        generalize w9.setRow (w.heap.size + 1 + 1) (thC ({ y with st := 1 } : Th) (.slice A' n c')) = wF at *
        clear HB H4 HG HO
        generalize hz9 : ({ y with st := 1 } : Th) = Z9 at *
        have z0 := (Q4.out.cell 0).trans (show _ = some (Value.int .i64 Z9.at_) from rfl)
        have z1 := (Q4.out.cell 1).trans (show _ = some (Value.int .i64 Z9.ph) from rfl)
        have z2 := (Q4.out.cell 2).trans (show _ = some (Value.int .i64 Z9.rg) from rfl)
        have z3 := (Q4.out.cell 3).trans (show _ = some (Value.int .i64 Z9.st) from rfl)
        have z4 := (Q4.out.cell 4).trans (show _ = some (Value.int .u64 (Z9.tk : Int)) from rfl)
        have z5 := (Q4.out.cell 5).trans (show _ = some (Value.int .u64 (Z9.r 0 : Int)) from rfl)
        have z6 := (Q4.out.cell 6).trans (show _ = some (Value.int .u64 (Z9.r 1 : Int)) from rfl)
        have z7 := (Q4.out.cell 7).trans (show _ = some (Value.int .u64 (Z9.r 2 : Int)) from rfl)
        have z8 := (Q4.out.cell 8).trans (show _ = some (Value.int .u64 (Z9.r 3 : Int)) from rfl)
        have z9 := (Q4.out.cell 9).trans (show _ = some (Value.int .u64 (Z9.r 4 : Int)) from rfl)
        have z10 := (Q4.out.cell 10).trans (show _ = some (Value.int .u64 (Z9.r 5 : Int)) from rfl)
        have z11 := (Q4.out.cell 11).trans (show _ = some (Value.int .u64 (Z9.r 6 : Int)) from rfl)
        have z12 := (Q4.out.cell 12).trans (show _ = some (Value.int .u64 (Z9.r 7 : Int)) from rfl)
        have z13 := (Q4.out.cell 13).trans (show _ = some ((.slice A' n c')) from rfl)
        have zl := Q4.out.lt
        go_wp2
        exact bodyPost_ret (v := .tuple #[.agg (thC Z9 (.slice A' n c')), .int .i64 0]) (by simp [results, Try.results18, go_sem, z0, z1, z2, z3, z4, z5, z6, z7, z8, z9, z10, z11, z12, z13]) rfl ⟨_, _, by rw [HYE.out, HBE.out, HZN.out], by rw [HYE.out, HBE.out, HZN.out]; exact HOZ.out, HBZ.out⟩)))
set_option maxHeartbeats 8000000 in
set_option maxRecDepth 100000 in
theorem do16k15 (l : List In) (A : Option Addr) (c : Nat) (x : Th) (S : Option Addr) (cs : Nat) (e : Ev) (v : Nat) (w : World) (h : InsAt w A c l) (hok : ∀ i ∈ l, inOk i) (hx : thOk x) (hs : SeqS w 1 (.slice S x.sn.length cs) x.sn.length (cells64 x.sn)) (hl : x.sn.length ≤ 1000000) (hr : thB l x = true) (hre : rightE e = true) (hf : fitB (reqA l (nxT l x)) e = true) (hk : e.kd = 15) :
    Calls Try.prog 18 #[.slice A l.length c, .agg (thC x (.slice S x.sn.length cs)), .agg (evC e), .int .u64 (v : Int)] w fun q w' => ∃ A' c', q = .returned (.tuple #[.agg (thC (behT (atT l (nxT l x)) (nxT l x) e v) (.slice A' (behT (atT l (nxT l x)) (nxT l x) e v).sn.length c')), .int .i64 0]) ∧ w'.ownsRow w.heap.size 23 1 (.slice A' (behT (atT l (nxT l x)) (nxT l x) e v).sn.length c') (behT (atT l (nxT l x)) (nxT l x) e v).sn.length (cells64 (behT (atT l (nxT l x)) (nxT l x) e v).sn) ∧ Below w.heap.size w w' := by
  obtain ⟨hc1, hc2⟩ := seq_form h
  have hb3 : Below w.heap.size w (((w.alloc (.cells (thC x (.slice S x.sn.length cs)) 27)).alloc (.cells (evC e) 42)).alloc (.cells thZ 27)) := (((Below.refl _ _).alloc (Nat.le_refl _) _).alloc (by simp) _).alloc (by simp; omega) _
  have l1 := ((Lies.made w 27 (thC x (.slice S x.sn.length cs))).alloc (.cells (evC e) 42)).alloc (.cells thZ 27)
  have l2 := (Lies.made (w.alloc (.cells (thC x (.slice S x.sn.length cs)) 27)) 42 (evC e)).alloc (.cells thZ 27)
  have l3 := Lies.made ((w.alloc (.cells (thC x (.slice S x.sn.length cs)) 27)).alloc (.cells (evC e) 42)) 27 thZ
  rw [show (w.alloc (.cells (thC x (.slice S x.sn.length cs)) 27)).heap.size = w.heap.size + 1 by simp] at l2
  rw [show ((w.alloc (.cells (thC x (.slice S x.sn.length cs)) 27)).alloc (.cells (evC e) 42)).heap.size = w.heap.size + 1 + 1 by simp] at l3
  have HB := Lib.hid hb3
  have HG := Lib.hid l1
  have HE := Lib.hid l2
  have H4 := Lib.hid l3
  have HH := Lib.hid (fun (q : World) (hq : Below w.heap.size w q) => h.later hq)
  clear hb3 l1 l2 l3
  have hnf := nxT_facts hr hx hok
  have HNX := Lib.hid (fun q hq hs => next16 l A c x S cs q hq hok hx hs hl hr)
  have HSQ := Lib.hid (fun (q : World) (hq : Below w.heap.size w q) => hs.later hq)
  have HRI := Lib.hid (fun q => right15 e q)
  rw [hre] at HRI
  have HMT := Lib.hid (fun q => matches16 (reqA l (nxT l x)) e q)
  rw [hf] at HMT
  have HKD := Lib.hid hk
  clear hk
  clear hre hf
  obtain ⟨n, hn⟩ : ∃ n, x.sn.length = n := ⟨_, rfl⟩
  have HNE : Hid ((nxT l x).sn.length = n) := by show _ = _; rw [hnf.2.2, hn]
  have HSE : Hid (cells64 x.sn = cells64 (nxT l x).sn) := by show _ = _; rw [hnf.2.2]
  have HIV := Lib.hid hnf.1
  have HCD := Lib.hid (thB_parts hr).1
  have hlen := (codeB_parts HCD.out).1
  have HOK := Lib.hid hok
  have hn6 : n ≤ 1000000 := by omega
  have HNN := Lib.hid hn
  clear h hs hl hr hx hok hnf hn
  go_enter Try.func18, Try.ntmps18
  go_upto_region 1 with (fail)
  generalize (((w.alloc (.cells (thC x (.slice S x.sn.length cs)) 27)).alloc (.cells (evC e) 42)).alloc (.cells thZ 27)) = w1 at *
  have c0 := (HG.out.cell 0).trans (show _ = some (Value.int .i64 x.at_) from rfl)
  have c1 := (HG.out.cell 1).trans (show _ = some (Value.int .i64 x.ph) from rfl)
  have c2 := (HG.out.cell 2).trans (show _ = some (Value.int .i64 x.rg) from rfl)
  have c3 := (HG.out.cell 3).trans (show _ = some (Value.int .i64 x.st) from rfl)
  have c4 := (HG.out.cell 4).trans (show _ = some (Value.int .u64 (x.tk : Int)) from rfl)
  have c5 := (HG.out.cell 5).trans (show _ = some (Value.int .u64 (x.r 0 : Int)) from rfl)
  have c6 := (HG.out.cell 6).trans (show _ = some (Value.int .u64 (x.r 1 : Int)) from rfl)
  have c7 := (HG.out.cell 7).trans (show _ = some (Value.int .u64 (x.r 2 : Int)) from rfl)
  have c8 := (HG.out.cell 8).trans (show _ = some (Value.int .u64 (x.r 3 : Int)) from rfl)
  have c9 := (HG.out.cell 9).trans (show _ = some (Value.int .u64 (x.r 4 : Int)) from rfl)
  have c10 := (HG.out.cell 10).trans (show _ = some (Value.int .u64 (x.r 5 : Int)) from rfl)
  have c11 := (HG.out.cell 11).trans (show _ = some (Value.int .u64 (x.r 6 : Int)) from rfl)
  have c12 := (HG.out.cell 12).trans (show _ = some (Value.int .u64 (x.r 7 : Int)) from rfl)
  have c13 := (HG.out.cell 13).trans (show _ = some ((.slice S x.sn.length cs)) from rfl)
  have cl := HG.out.lt
  go_wp2_with fail
  refine (HNX.out _ (HH.out _ HB.out) (HSQ.out _ HB.out)).mono ?_
  rintro e1 w2 ⟨A', c', rfl, ho, hbm⟩
  have HN2 : Hid (w.heap.size + 1 + 1 < w2.heap.size) := Nat.lt_of_lt_of_le H4.out.lt hbm.size
  have HO0 := owns_mono ho HB.out.size
  rw [HSE.out] at HO0
  rw [HNN.out] at HO0 ⊢
  have HO := Lib.hid HO0
  replace HG := Lib.hid (HG.out.below hbm HG.out.lt)
  replace HE := Lib.hid (HE.out.below hbm HE.out.lt)
  replace H4 := Lib.hid (H4.out.below hbm H4.out.lt)
  replace HB := Lib.hid (HB.out.trans (hbm.mono HB.out.size))
  clear hbm HNX HSQ ho HO0 HSE
  generalize hyy : nxT l x = y at *
  have HYE := Lib.hid hyy
  clear hyy
  generalize hzz : reqA l y = z at *
  have HZE := Lib.hid hzz
  clear hzz
  clear c0 c1 c2 c3 c4 c5 c6 c7 c8 c9 c10 c11 c12 c13 cl
  have hba := (Below.refl w2.heap.size w2).alloc (Nat.le_refl _) (.cells akZ 31)
  have H5 := Lib.hid (Lies.made w2 31 akZ)
  replace HG := Lib.hid (HG.out.below hba HG.out.lt)
  replace HE := Lib.hid (HE.out.below hba HE.out.lt)
  replace H4 := Lib.hid (H4.out.below hba H4.out.lt)
  replace HB := Lib.hid (HB.out.trans (hba.mono HB.out.size))
  replace HO := Lib.hid (owned_below HO.out hba)
  have hn5 : w.heap.size + 1 + 1 < w2.heap.size := HN2.out
  clear hba HN2
  generalize hw3 : w2.alloc (.cells akZ 31) = w3 at *
  generalize hn5e : w2.heap.size = n5 at *
  go_wp2_with (
    refine wpList_store_row rfl 27 _ _ rfl (w.heap.size) (thC y (.slice A' n c')) rfl rfl 27 (thC x (.slice S x.sn.length cs)) HG.out infoTh rfl (thC_one _ rfl) ?_
    try clear hw3
    have hk4 := kept_rowT (w := w3) (g := w.heap.size) (thC y (.slice A' n c'))
    replace HO := Lib.hid (owns_kept HO.out hk4 (fun r cur hr hl (e : r = w.heap.size) => by subst e; exact absurd (hl.same HG.out).1 (by decide)))
    replace HG := Lib.hid (lies_row HG.out (thC y (.slice A' n c')))
    replace HE := Lib.hid (HE.out.kept hk4 (fun (e : w.heap.size + 1 = w.heap.size) => by omega))
    replace H4 := Lib.hid (H4.out.kept hk4 (fun (e : w.heap.size + 1 + 1 = w.heap.size) => by omega))
    replace H5 := Lib.hid (H5.out.kept hk4 (fun (e : n5 = w.heap.size) => by omega))
    replace HB := Lib.hid (HB.out.trans (hk4.below HB.out.size (fun k hk (e : k = w.heap.size) => by omega)))
    clear hk4
    generalize w3.setRow (w.heap.size) (thC y (.slice A' n c')) = w4 at *
    go_wp2_with (
      refine wpList_store_row rfl 31 _ _ rfl n5 (akC z) rfl rfl 31 akZ H5.out infoAk rfl (akC_one _) ?_
      have hk5 := kept_rowT (w := w4) (g := n5) (akC z)
      replace HO := Lib.hid (owns_kept HO.out hk5 (fun r cur hr hl (e : r = n5) => by subst e; exact absurd (hl.same H5.out).1 (by decide)))
      replace HG := Lib.hid (HG.out.kept hk5 (fun (e : w.heap.size = n5) => by omega))
      replace HE := Lib.hid (HE.out.kept hk5 (fun (e : w.heap.size + 1 = n5) => by omega))
      replace H4 := Lib.hid (H4.out.kept hk5 (fun (e : w.heap.size + 1 + 1 = n5) => by omega))
      replace H5 := Lib.hid (lies_row H5.out (akC z))
      replace HB := Lib.hid (HB.out.trans (hk5.below HB.out.size (fun k hk (e : k = n5) => by omega)))
      clear hk5
      generalize w4.setRow n5 (akC z) = wq at *
      have q0 := (HE.out.cell 0).trans (show _ = some (Value.int .i64 e.th) from rfl)
      have q1 := (HE.out.cell 1).trans (show _ = some (Value.int .i64 e.kd) from rfl)
      have q2 := (HE.out.cell 2).trans (show _ = some (Value.int .i64 e.rg) from rfl)
      have q3 := (HE.out.cell 3).trans (show _ = some (Value.int .u64 (e.tk : Int)) from rfl)
      have q4 := (HE.out.cell 4).trans (show _ = some (Value.int .u64 (e.vl : Int)) from rfl)
      have ql := HE.out.lt
      go_wp2_with fail
      refine (HRI.out _).mono ?_
      rintro e1 w5 ⟨rfl, hbm⟩
      clear q0 q1 q2 q3 q4 ql
      replace H5 := Lib.hid (H5.out.below hbm H5.out.lt)
      replace HO := Lib.hid (owned_below HO.out hbm)
      replace HG := Lib.hid (HG.out.below hbm HG.out.lt)
      replace HE := Lib.hid (HE.out.below hbm HE.out.lt)
      replace H4 := Lib.hid (H4.out.below hbm H4.out.lt)
      replace HB := Lib.hid (HB.out.trans (hbm.mono HB.out.size))
      clear hbm HRI
      clear wq
      have q0 := (HE.out.cell 0).trans (show _ = some (Value.int .i64 e.th) from rfl)
      have q1 := (HE.out.cell 1).trans (show _ = some (Value.int .i64 e.kd) from rfl)
      have q2 := (HE.out.cell 2).trans (show _ = some (Value.int .i64 e.rg) from rfl)
      have q3 := (HE.out.cell 3).trans (show _ = some (Value.int .u64 (e.tk : Int)) from rfl)
      have q4 := (HE.out.cell 4).trans (show _ = some (Value.int .u64 (e.vl : Int)) from rfl)
      have ql := HE.out.lt
      have k0 := (H5.out.cell 0).trans (show _ = some (.int .i64 z.kd) from rfl)
      have k1 := (H5.out.cell 1).trans (show _ = some (.int .i64 z.rg) from rfl)
      have k2 := (H5.out.cell 2).trans (show _ = some (.int .i64 z.md) from rfl)
      have k3 := (H5.out.cell 3).trans (show _ = some (.int .i64 z.rd) from rfl)
      have k4 := (H5.out.cell 4).trans (show _ = some (.int .u64 (z.tk : Int)) from rfl)
      have k5 := (H5.out.cell 5).trans (show _ = some (.int .u64 (z.vl : Int)) from rfl)
      have kl := H5.out.lt
      go_wp2_with fail
      refine (HMT.out _).mono ?_
      rintro e1 wq ⟨rfl, hbm⟩
      clear q0 q1 q2 q3 q4 ql
      clear k0 k1 k2 k3 k4 k5 kl
      replace HO := Lib.hid (owned_below HO.out hbm)
      replace HG := Lib.hid (HG.out.below hbm HG.out.lt)
      replace HE := Lib.hid (HE.out.below hbm HE.out.lt)
      replace H4 := Lib.hid (H4.out.below hbm H4.out.lt)
      replace HB := Lib.hid (HB.out.trans (hbm.mono HB.out.size))
      clear hbm HMT H5 w5
      have q0 := (HE.out.cell 0).trans (show _ = some (Value.int .i64 e.th) from rfl)
      have q1 := (HE.out.cell 1).trans (show _ = some (Value.int .i64 e.kd) from rfl)
      have q2 := (HE.out.cell 2).trans (show _ = some (Value.int .i64 e.rg) from rfl)
      have q3 := (HE.out.cell 3).trans (show _ = some (Value.int .u64 (e.tk : Int)) from rfl)
      have q4 := (HE.out.cell 4).trans (show _ = some (Value.int .u64 (e.vl : Int)) from rfl)
      have ql := HE.out.lt
      rw [HKD.out] at q1
      have c3 := (HG.out.cell 3).trans (show _ = some (.int .i64 y.st) from rfl)
      have cl := HG.out.lt
      have f3 := HG.out.free 3
      go_upto_region 18 with (fail)
      clear q0 q1 q2 q3 q4 ql
      clear c3 cl f3
      replace H4 := Lib.hid (H4.out.far (p := ⟨w.heap.size, 3, none⟩) (show w.heap.size + 1 + 1 ≠ w.heap.size by omega) (.int .i64 2))
      replace HO := Lib.hid (owns_put HO.out HG.out (by decide) 3 (.int .i64 2))
      replace HB := Lib.hid (HB.out.setCell (p := ⟨w.heap.size, 3, none⟩) (Nat.le_refl _) (.int .i64 2))
      replace HG := Lib.hid (show Lies (wq.setCell ⟨w.heap.size, 3, none⟩ (.int .i64 2)) (w.heap.size) 27 (thC ({ y with st := 2 } : Th) (.slice A' n c')) from HG.out.put 3 (.int .i64 2))
      generalize wq.setCell ⟨w.heap.size, 3, none⟩ (.int .i64 2) = w9 at *
      clear HE HIV HCD HOK
      have HBE : Hid (behT (atT l y) y e v = ({ y with st := 2 } : Th)) := by show _ = _; unfold behT; rw [HKD.out]; simp
      replace HO : Hid (World.ownsRow w9 w.heap.size 23 1 (.slice A' n c') n (cells64 (({ y with st := 2 } : Th)).sn)) := HO
      have HZN : Hid ((({ y with st := 2 } : Th)).sn.length = n) := HNE
      have c0 := (HG.out.cell 0).trans (show _ = some (Value.int .i64 ({ y with st := 2 } : Th).at_) from rfl)
      have c1 := (HG.out.cell 1).trans (show _ = some (Value.int .i64 ({ y with st := 2 } : Th).ph) from rfl)
      have c2 := (HG.out.cell 2).trans (show _ = some (Value.int .i64 ({ y with st := 2 } : Th).rg) from rfl)
      have c3 := (HG.out.cell 3).trans (show _ = some (Value.int .i64 ({ y with st := 2 } : Th).st) from rfl)
      have c4 := (HG.out.cell 4).trans (show _ = some (Value.int .u64 (({ y with st := 2 } : Th).tk : Int)) from rfl)
      have c5 := (HG.out.cell 5).trans (show _ = some (Value.int .u64 (({ y with st := 2 } : Th).r 0 : Int)) from rfl)
      have c6 := (HG.out.cell 6).trans (show _ = some (Value.int .u64 (({ y with st := 2 } : Th).r 1 : Int)) from rfl)
      have c7 := (HG.out.cell 7).trans (show _ = some (Value.int .u64 (({ y with st := 2 } : Th).r 2 : Int)) from rfl)
      have c8 := (HG.out.cell 8).trans (show _ = some (Value.int .u64 (({ y with st := 2 } : Th).r 3 : Int)) from rfl)
      have c9 := (HG.out.cell 9).trans (show _ = some (Value.int .u64 (({ y with st := 2 } : Th).r 4 : Int)) from rfl)
      have c10 := (HG.out.cell 10).trans (show _ = some (Value.int .u64 (({ y with st := 2 } : Th).r 5 : Int)) from rfl)
      have c11 := (HG.out.cell 11).trans (show _ = some (Value.int .u64 (({ y with st := 2 } : Th).r 6 : Int)) from rfl)
      have c12 := (HG.out.cell 12).trans (show _ = some (Value.int .u64 (({ y with st := 2 } : Th).r 7 : Int)) from rfl)
      have c13 := (HG.out.cell 13).trans (show _ = some ((.slice A' n c')) from rfl)
      have cl := HG.out.lt
      go_wp2_with (
        refine wpList_store_row rfl 27 _ _ rfl (w.heap.size + 1 + 1) (thC ({ y with st := 2 } : Th) (.slice A' n c')) rfl rfl 27 thZ H4.out infoTh rfl (thC_one _ rfl) ?_
        clear c0 c1 c2 c3 c4 c5 c6 c7 c8 c9 c10 c11 c12 c13 cl
        have hk9 := kept_rowT (w := w9) (g := w.heap.size + 1 + 1) (thC ({ y with st := 2 } : Th) (.slice A' n c'))
        have HBZ := Lib.hid (HB.out.trans (hk9.below HB.out.size (fun k hk (e : k = w.heap.size + 1 + 1) => by omega)))
        have Q4 := Lib.hid (lies_row H4.out (thC ({ y with st := 2 } : Th) (.slice A' n c')))
        have HOZ := Lib.hid (owns_kept HO.out hk9 (fun r cur hr hl (e : r = w.heap.size + 1 + 1) => by subst e; exact absurd (hl.same H4.out).1 (by decide)))
        clear hk9
        generalize w9.setRow (w.heap.size + 1 + 1) (thC ({ y with st := 2 } : Th) (.slice A' n c')) = wF at *
        clear HB H4 HG HO
        generalize hz9 : ({ y with st := 2 } : Th) = Z9 at *
        have z0 := (Q4.out.cell 0).trans (show _ = some (Value.int .i64 Z9.at_) from rfl)
        have z1 := (Q4.out.cell 1).trans (show _ = some (Value.int .i64 Z9.ph) from rfl)
        have z2 := (Q4.out.cell 2).trans (show _ = some (Value.int .i64 Z9.rg) from rfl)
        have z3 := (Q4.out.cell 3).trans (show _ = some (Value.int .i64 Z9.st) from rfl)
        have z4 := (Q4.out.cell 4).trans (show _ = some (Value.int .u64 (Z9.tk : Int)) from rfl)
        have z5 := (Q4.out.cell 5).trans (show _ = some (Value.int .u64 (Z9.r 0 : Int)) from rfl)
        have z6 := (Q4.out.cell 6).trans (show _ = some (Value.int .u64 (Z9.r 1 : Int)) from rfl)
        have z7 := (Q4.out.cell 7).trans (show _ = some (Value.int .u64 (Z9.r 2 : Int)) from rfl)
        have z8 := (Q4.out.cell 8).trans (show _ = some (Value.int .u64 (Z9.r 3 : Int)) from rfl)
        have z9 := (Q4.out.cell 9).trans (show _ = some (Value.int .u64 (Z9.r 4 : Int)) from rfl)
        have z10 := (Q4.out.cell 10).trans (show _ = some (Value.int .u64 (Z9.r 5 : Int)) from rfl)
        have z11 := (Q4.out.cell 11).trans (show _ = some (Value.int .u64 (Z9.r 6 : Int)) from rfl)
        have z12 := (Q4.out.cell 12).trans (show _ = some (Value.int .u64 (Z9.r 7 : Int)) from rfl)
        have z13 := (Q4.out.cell 13).trans (show _ = some ((.slice A' n c')) from rfl)
        have zl := Q4.out.lt
        go_wp2
        exact bodyPost_ret (v := .tuple #[.agg (thC Z9 (.slice A' n c')), .int .i64 0]) (by simp [results, Try.results18, go_sem, z0, z1, z2, z3, z4, z5, z6, z7, z8, z9, z10, z11, z12, z13]) rfl ⟨_, _, by rw [HYE.out, HBE.out, HZN.out], by rw [HYE.out, HBE.out, HZN.out]; exact HOZ.out, HBZ.out⟩)))
end Go.Proofs.Ytiegmpjoiekekaa
/-
  What an event makes of a thread (layer 16): thread.Do: events of the kinds 1 and 3.
-/
namespace Go.Proofs.Ytiegmpjoiekekaa
open Go.RowKit
set_option linter.unusedVariables false
set_option linter.unusedSimpArgs false
set_option maxHeartbeats 8000000 in
set_option maxRecDepth 100000 in
theorem do16k1 (l : List In) (A : Option Addr) (c : Nat) (x : Th) (S : Option Addr) (cs : Nat) (e : Ev) (v : Nat) (w : World) (h : InsAt w A c l) (hok : ∀ i ∈ l, inOk i) (hx : thOk x) (hs : SeqS w 1 (.slice S x.sn.length cs) x.sn.length (cells64 x.sn)) (hl : x.sn.length ≤ 1000000) (hr : thB l x = true) (hre : rightE e = true) (hf : fitB (reqA l (nxT l x)) e = true) (hk : e.kd = 1) :
    Calls Try.prog 18 #[.slice A l.length c, .agg (thC x (.slice S x.sn.length cs)), .agg (evC e), .int .u64 (v : Int)] w fun q w' => ∃ A' c', q = .returned (.tuple #[.agg (thC (behT (atT l (nxT l x)) (nxT l x) e v) (.slice A' (behT (atT l (nxT l x)) (nxT l x) e v).sn.length c')), .int .i64 0]) ∧ w'.ownsRow w.heap.size 23 1 (.slice A' (behT (atT l (nxT l x)) (nxT l x) e v).sn.length c') (behT (atT l (nxT l x)) (nxT l x) e v).sn.length (cells64 (behT (atT l (nxT l x)) (nxT l x) e v).sn) ∧ Below w.heap.size w w' := by
  obtain ⟨hc1, hc2⟩ := seq_form h
  have hb3 : Below w.heap.size w (((w.alloc (.cells (thC x (.slice S x.sn.length cs)) 27)).alloc (.cells (evC e) 42)).alloc (.cells thZ 27)) := (((Below.refl _ _).alloc (Nat.le_refl _) _).alloc (by simp) _).alloc (by simp; omega) _
  have l1 := ((Lies.made w 27 (thC x (.slice S x.sn.length cs))).alloc (.cells (evC e) 42)).alloc (.cells thZ 27)
  have l2 := (Lies.made (w.alloc (.cells (thC x (.slice S x.sn.length cs)) 27)) 42 (evC e)).alloc (.cells thZ 27)
  have l3 := Lies.made ((w.alloc (.cells (thC x (.slice S x.sn.length cs)) 27)).alloc (.cells (evC e) 42)) 27 thZ
  rw [show (w.alloc (.cells (thC x (.slice S x.sn.length cs)) 27)).heap.size = w.heap.size + 1 by simp] at l2
  rw [show ((w.alloc (.cells (thC x (.slice S x.sn.length cs)) 27)).alloc (.cells (evC e) 42)).heap.size = w.heap.size + 1 + 1 by simp] at l3
  have HB := Lib.hid hb3
  have HG := Lib.hid l1
  have HE := Lib.hid l2
  have H4 := Lib.hid l3
  have HH := Lib.hid (fun (q : World) (hq : Below w.heap.size w q) => h.later hq)
  clear hb3 l1 l2 l3
  have hnf := nxT_facts hr hx hok
  have HNX := Lib.hid (fun q hq hs => next16 l A c x S cs q hq hok hx hs hl hr)
  have HSQ := Lib.hid (fun (q : World) (hq : Below w.heap.size w q) => hs.later hq)
  have HRI := Lib.hid (fun q => right15 e q)
  rw [hre] at HRI
  have HMT := Lib.hid (fun q => matches16 (reqA l (nxT l x)) e q)
  rw [hf] at HMT
  have HKD := Lib.hid hk
  clear hk
  clear hre hf
  obtain ⟨n, hn⟩ : ∃ n, x.sn.length = n := ⟨_, rfl⟩
  have HNE : Hid ((nxT l x).sn.length = n) := by show _ = _; rw [hnf.2.2, hn]
  have HSE : Hid (cells64 x.sn = cells64 (nxT l x).sn) := by show _ = _; rw [hnf.2.2]
  have HIV := Lib.hid hnf.1
  have HCD := Lib.hid (thB_parts hr).1
  have hlen := (codeB_parts HCD.out).1
  have HOK := Lib.hid hok
  have hn6 : n ≤ 1000000 := by omega
  have HNN := Lib.hid hn
  clear h hs hl hr hx hok hnf hn
  go_enter Try.func18, Try.ntmps18
  go_upto_region 1 with (fail)
  generalize (((w.alloc (.cells (thC x (.slice S x.sn.length cs)) 27)).alloc (.cells (evC e) 42)).alloc (.cells thZ 27)) = w1 at *
  have c0 := (HG.out.cell 0).trans (show _ = some (Value.int .i64 x.at_) from rfl)
  have c1 := (HG.out.cell 1).trans (show _ = some (Value.int .i64 x.ph) from rfl)
  have c2 := (HG.out.cell 2).trans (show _ = some (Value.int .i64 x.rg) from rfl)
  have c3 := (HG.out.cell 3).trans (show _ = some (Value.int .i64 x.st) from rfl)
  have c4 := (HG.out.cell 4).trans (show _ = some (Value.int .u64 (x.tk : Int)) from rfl)
  have c5 := (HG.out.cell 5).trans (show _ = some (Value.int .u64 (x.r 0 : Int)) from rfl)
  have c6 := (HG.out.cell 6).trans (show _ = some (Value.int .u64 (x.r 1 : Int)) from rfl)
  have c7 := (HG.out.cell 7).trans (show _ = some (Value.int .u64 (x.r 2 : Int)) from rfl)
  have c8 := (HG.out.cell 8).trans (show _ = some (Value.int .u64 (x.r 3 : Int)) from rfl)
  have c9 := (HG.out.cell 9).trans (show _ = some (Value.int .u64 (x.r 4 : Int)) from rfl)
  have c10 := (HG.out.cell 10).trans (show _ = some (Value.int .u64 (x.r 5 : Int)) from rfl)
  have c11 := (HG.out.cell 11).trans (show _ = some (Value.int .u64 (x.r 6 : Int)) from rfl)
  have c12 := (HG.out.cell 12).trans (show _ = some (Value.int .u64 (x.r 7 : Int)) from rfl)
  have c13 := (HG.out.cell 13).trans (show _ = some ((.slice S x.sn.length cs)) from rfl)
  have cl := HG.out.lt
  go_wp2_with fail
  refine (HNX.out _ (HH.out _ HB.out) (HSQ.out _ HB.out)).mono ?_
  rintro e1 w2 ⟨A', c', rfl, ho, hbm⟩
  have HN2 : Hid (w.heap.size + 1 + 1 < w2.heap.size) := Nat.lt_of_lt_of_le H4.out.lt hbm.size
  have HO0 := owns_mono ho HB.out.size
  rw [HSE.out] at HO0
  rw [HNN.out] at HO0 ⊢
  have HO := Lib.hid HO0
  replace HG := Lib.hid (HG.out.below hbm HG.out.lt)
  replace HE := Lib.hid (HE.out.below hbm HE.out.lt)
  replace H4 := Lib.hid (H4.out.below hbm H4.out.lt)
  replace HB := Lib.hid (HB.out.trans (hbm.mono HB.out.size))
  clear hbm HNX HSQ ho HO0 HSE
  generalize hyy : nxT l x = y at *
  have HYE := Lib.hid hyy
  clear hyy
  generalize hzz : reqA l y = z at *
  have HZE := Lib.hid hzz
  clear hzz
  clear c0 c1 c2 c3 c4 c5 c6 c7 c8 c9 c10 c11 c12 c13 cl
  have hba := (Below.refl w2.heap.size w2).alloc (Nat.le_refl _) (.cells akZ 31)
  have H5 := Lib.hid (Lies.made w2 31 akZ)
  replace HG := Lib.hid (HG.out.below hba HG.out.lt)
  replace HE := Lib.hid (HE.out.below hba HE.out.lt)
  replace H4 := Lib.hid (H4.out.below hba H4.out.lt)
  replace HB := Lib.hid (HB.out.trans (hba.mono HB.out.size))
  replace HO := Lib.hid (owned_below HO.out hba)
  have hn5 : w.heap.size + 1 + 1 < w2.heap.size := HN2.out
  clear hba HN2
  generalize hw3 : w2.alloc (.cells akZ 31) = w3 at *
  generalize hn5e : w2.heap.size = n5 at *
  have hk4 := kept_rowT (w := w3) (g := w.heap.size) (thC y (.slice A' n c'))
  have HO2 := Lib.hid (owns_kept HO.out hk4 (fun r cur hr hl (e : r = w.heap.size) => by subst e; exact absurd (hl.same HG.out).1 (by decide)))
  have HG2 := Lib.hid (lies_row HG.out (thC y (.slice A' n c')))
  have HE2 := Lib.hid (HE.out.kept hk4 (fun (e : w.heap.size + 1 = w.heap.size) => by omega))
  have H42 := Lib.hid (H4.out.kept hk4 (fun (e : w.heap.size + 1 + 1 = w.heap.size) => by omega))
  have H5B := Lib.hid (H5.out.kept hk4 (fun (e : n5 = w.heap.size) => by omega))
  have HB2 := Lib.hid (HB.out.trans (hk4.below HB.out.size (fun k hk (e : k = w.heap.size) => by omega)))
  clear hk4
  go_upto_region 2 with (first | refine wpList_store_row rfl 27 _ _ rfl (w.heap.size) (thC y (.slice A' n c')) rfl rfl 27 (thC x (.slice S x.sn.length cs)) HG.out infoTh rfl (thC_one _ rfl) ?_ | refine wpList_store_row rfl 31 _ _ rfl n5 (akC z) rfl rfl 31 akZ H5B.out infoAk rfl (akC_one _) ?_)
  clear HG HE H4 H5 HB HO
  generalize w3.setRow (w.heap.size) (thC y (.slice A' n c')) = w4 at *
  have hk5 := kept_rowT (w := w4) (g := n5) (akC z)
  have HO := Lib.hid (owns_kept HO2.out hk5 (fun r cur hr hl (e : r = n5) => by subst e; exact absurd (hl.same H5B.out).1 (by decide)))
  clear HO2
  have HG := Lib.hid (HG2.out.kept hk5 (fun (e : w.heap.size = n5) => by omega))
  have HE := Lib.hid (HE2.out.kept hk5 (fun (e : w.heap.size + 1 = n5) => by omega))
  have H4 := Lib.hid (H42.out.kept hk5 (fun (e : w.heap.size + 1 + 1 = n5) => by omega))
  have H5 := Lib.hid (lies_row H5B.out (akC z))
  have HB := Lib.hid (HB2.out.trans (hk5.below HB2.out.size (fun k hk (e : k = n5) => by omega)))
  clear hk5 HG2 HE2 H42 H5B HB2
  generalize w4.setRow n5 (akC z) = wq at *
  have q0 := (HE.out.cell 0).trans (show _ = some (Value.int .i64 e.th) from rfl)
  have q1 := (HE.out.cell 1).trans (show _ = some (Value.int .i64 e.kd) from rfl)
  have q2 := (HE.out.cell 2).trans (show _ = some (Value.int .i64 e.rg) from rfl)
  have q3 := (HE.out.cell 3).trans (show _ = some (Value.int .u64 (e.tk : Int)) from rfl)
  have q4 := (HE.out.cell 4).trans (show _ = some (Value.int .u64 (e.vl : Int)) from rfl)
  have ql := HE.out.lt
  go_wp2_with fail
  refine (HRI.out _).mono ?_
  rintro e1 w5 ⟨rfl, hbm⟩
  clear q0 q1 q2 q3 q4 ql
  replace H5 := Lib.hid (H5.out.below hbm H5.out.lt)
  replace HO := Lib.hid (owned_below HO.out hbm)
  replace HG := Lib.hid (HG.out.below hbm HG.out.lt)
  replace HE := Lib.hid (HE.out.below hbm HE.out.lt)
  replace H4 := Lib.hid (H4.out.below hbm H4.out.lt)
  replace HB := Lib.hid (HB.out.trans (hbm.mono HB.out.size))
  clear hbm HRI
  clear wq
  have q0 := (HE.out.cell 0).trans (show _ = some (Value.int .i64 e.th) from rfl)
  have q1 := (HE.out.cell 1).trans (show _ = some (Value.int .i64 e.kd) from rfl)
  have q2 := (HE.out.cell 2).trans (show _ = some (Value.int .i64 e.rg) from rfl)
  have q3 := (HE.out.cell 3).trans (show _ = some (Value.int .u64 (e.tk : Int)) from rfl)
  have q4 := (HE.out.cell 4).trans (show _ = some (Value.int .u64 (e.vl : Int)) from rfl)
  have ql := HE.out.lt
  have k0 := (H5.out.cell 0).trans (show _ = some (.int .i64 z.kd) from rfl)
  have k1 := (H5.out.cell 1).trans (show _ = some (.int .i64 z.rg) from rfl)
  have k2 := (H5.out.cell 2).trans (show _ = some (.int .i64 z.md) from rfl)
  have k3 := (H5.out.cell 3).trans (show _ = some (.int .i64 z.rd) from rfl)
  have k4 := (H5.out.cell 4).trans (show _ = some (.int .u64 (z.tk : Int)) from rfl)
  have k5 := (H5.out.cell 5).trans (show _ = some (.int .u64 (z.vl : Int)) from rfl)
  have kl := H5.out.lt
  go_wp2_with fail
  refine (HMT.out _).mono ?_
  rintro e1 wq ⟨rfl, hbm⟩
  clear q0 q1 q2 q3 q4 ql
  clear k0 k1 k2 k3 k4 k5 kl
  replace HO := Lib.hid (owned_below HO.out hbm)
  replace HG := Lib.hid (HG.out.below hbm HG.out.lt)
  replace HE := Lib.hid (HE.out.below hbm HE.out.lt)
  replace H4 := Lib.hid (H4.out.below hbm H4.out.lt)
  replace HB := Lib.hid (HB.out.trans (hbm.mono HB.out.size))
  clear hbm HMT H5 w5
  have q0 := (HE.out.cell 0).trans (show _ = some (Value.int .i64 e.th) from rfl)
  have q1 := (HE.out.cell 1).trans (show _ = some (Value.int .i64 e.kd) from rfl)
  have q2 := (HE.out.cell 2).trans (show _ = some (Value.int .i64 e.rg) from rfl)
  have q3 := (HE.out.cell 3).trans (show _ = some (Value.int .u64 (e.tk : Int)) from rfl)
  have q4 := (HE.out.cell 4).trans (show _ = some (Value.int .u64 (e.vl : Int)) from rfl)
  have ql := HE.out.lt
  rw [HKD.out] at q1
  go_wp2_with fail
  clear q0 q1 q2 q3 q4 ql
  have HEK := Lib.hid (fun (q : World) (hq : Kept (oneRow (w.heap.size)) wq q) => HE.out.kept hq (fun (e : w.heap.size + 1 = w.heap.size) => by omega))
  refine wp_region_rely (fun q => Kept (oneRow (w.heap.size)) wq q) (rgV [some (.pointer (some ⟨w.heap.size + 1, 2, none⟩)), some (.int .i64 e.rg), some (.pointer (some ⟨w.heap.size + 1, 3, none⟩)), some (.int .u64 (e.tk : Int)), some (.pointer (some ⟨w.heap.size, 1, none⟩)), none, some (.pointer (some ⟨w.heap.size, 2, none⟩)), none, some (.pointer (some ⟨w.heap.size, 4, none⟩)), none, none] (fun j q => match j with | 5 => Lies q (w.heap.size) 27 (thC ({ y with ph := 1 } : Th) (.slice A' n c')) | 7 => Lies q (w.heap.size) 27 (thC ({ y with ph := 1, rg := e.rg } : Th) (.slice A' n c')) | 9 => Lies q (w.heap.size) 27 (thC ({ y with ph := 1, rg := e.rg, tk := e.tk } : Th) (.slice A' n c')) | 10 => Lies q (w.heap.size) 27 (thC y (.slice A' n c')) | _ => True)) [some 44, some 45, some 46, some 47, some 48, none, some 49, none, some 50, none] [[], [0], [], [2], [], [4, 10], [], [6, 1, 5], [], [8, 3, 7]] [[], [0], [], [2], [], [4, 10], [0, 4, 10], [0, 1, 4, 5, 6, 10], [0, 1, 2, 4, 5, 6, 10], [0, 1, 2, 3, 4, 5, 6, 7, 8, 10]] [[2, 3, 4, 5, 10], [2, 3, 4, 5, 10], [0, 1, 4, 5, 6, 7, 10], [0, 1, 4, 5, 6, 7, 10], [0, 1, 2, 3, 10], [0, 1, 2, 3], [1, 2, 3, 5], [2, 3], [3, 7], []] [0, 1, 2, 3, 4, 5, 6, 7, 8, 9] 11 (by kernel_rfl) (by kernel_rfl) (by kernel_rfl) (by kernel_rfl) ?rS ?rI ?rT ?rE
  case rS => exact Kept.drew _ _
  case rI =>
    intro j h1 h2
    have h1 : j < 11 := h1
    have h2 : 10 ≤ j := h2
    obtain rfl : j = 10 := by omega
    exact HG.out.drewN 1
  case rT =>
    refine RelySteps.cons (RelyStep.mk [] [2, 3, 4, 5, 10] rfl rfl rfl (fun xv wS hS hV bq hb K hK => ?_)) ?_
    · clear hV
      simp only [putsOf, List.foldl_cons, List.foldl_nil, List.getD_cons_zero, List.getD_cons_succ, List.getD_nil, cond_true, cond_false, Act.put, List.setIfInBounds_toArray, List.set_cons_zero, List.set_cons_succ] at hb
      subst hb
      rw [if_pos (by rfl)]
      go_wp2_with fail
      exact hK.out _ _ ⟨_, rfl, hS, rfl, AllP.same _⟩
    refine RelySteps.cons (RelyStep.mk [0] [2, 3, 4, 5, 10] rfl rfl rfl (fun xv wS hS hV bq hb K hK => ?_)) ?_
    · obtain ⟨h0, _⟩ := hV
      have h0 : xv 0 = _ := h0
      simp only [putsOf, List.foldl_cons, List.foldl_nil, List.getD_cons_zero, List.getD_cons_succ, List.getD_nil, cond_true, cond_false, Act.put, List.setIfInBounds_toArray, List.set_cons_zero, List.set_cons_succ, h0] at hb
      clear h0
      subst hb
      rw [if_pos (by rfl)]
      (have HZ := Lib.hid (HEK.out _ hS); have c9 := (HZ.out.cell 2).trans (show _ = some _ from rfl); have c8 := HZ.out.lt)
      go_wp2_with fail
      exact hK.out _ _ ⟨_, rfl, hS, rfl, AllP.same _⟩
    refine RelySteps.cons (RelyStep.mk [] [0, 1, 4, 5, 6, 7, 10] rfl rfl rfl (fun xv wS hS hV bq hb K hK => ?_)) ?_
    · clear hV
      simp only [putsOf, List.foldl_cons, List.foldl_nil, List.getD_cons_zero, List.getD_cons_succ, List.getD_nil, cond_true, cond_false, Act.put, List.setIfInBounds_toArray, List.set_cons_zero, List.set_cons_succ] at hb
      subst hb
      rw [if_pos (by rfl)]
      go_wp2_with fail
      exact hK.out _ _ ⟨_, rfl, hS, rfl, AllP.same _⟩
    refine RelySteps.cons (RelyStep.mk [2] [0, 1, 4, 5, 6, 7, 10] rfl rfl rfl (fun xv wS hS hV bq hb K hK => ?_)) ?_
    · obtain ⟨h2, _⟩ := hV
      have h2 : xv 2 = _ := h2
      simp only [putsOf, List.foldl_cons, List.foldl_nil, List.getD_cons_zero, List.getD_cons_succ, List.getD_nil, cond_true, cond_false, Act.put, List.setIfInBounds_toArray, List.set_cons_zero, List.set_cons_succ, h2] at hb
      clear h2
      subst hb
      rw [if_pos (by rfl)]
      (have HZ := Lib.hid (HEK.out _ hS); have c9 := (HZ.out.cell 3).trans (show _ = some _ from rfl); have c8 := HZ.out.lt)
      go_wp2_with fail
      exact hK.out _ _ ⟨_, rfl, hS, rfl, AllP.same _⟩
    refine RelySteps.cons (RelyStep.mk [] [0, 1, 2, 3, 10] rfl rfl rfl (fun xv wS hS hV bq hb K hK => ?_)) ?_
    · clear hV
      simp only [putsOf, List.foldl_cons, List.foldl_nil, List.getD_cons_zero, List.getD_cons_succ, List.getD_nil, cond_true, cond_false, Act.put, List.setIfInBounds_toArray, List.set_cons_zero, List.set_cons_succ] at hb
      subst hb
      rw [if_pos (by rfl)]
      go_wp2_with fail
      exact hK.out _ _ ⟨_, rfl, hS, rfl, AllP.same _⟩
    refine RelySteps.cons (RelyStep.mk [4, 10] [0, 1, 2, 3] rfl rfl rfl (fun xv wS hS hV bq hb K hK => ?_)) ?_
    · obtain ⟨h4, h10, _⟩ := hV
      have h4 : xv 4 = _ := h4
      simp only [putsOf, List.foldl_cons, List.foldl_nil, List.getD_cons_zero, List.getD_cons_succ, List.getD_nil, cond_true, cond_false, Act.put, List.setIfInBounds_toArray, List.set_cons_zero, List.set_cons_succ, h4] at hb
      clear h4
      generalize xv 10 = y10 at *
      subst hb
      rw [if_pos (by rfl)]
      have qq : Lies wS (w.heap.size) 27 (thC y (.slice A' n c')) := h10
      have HSS := Lib.hid hS
      have HQ := Lib.hid qq
      have c9 := qq.cell 1
      simp at c9
      have f9 := qq.free 1
      have c8 := qq.lt
      clear hS qq h10
      go_wp2_with fail
      exact hK.out _ _ ⟨undef, rfl, HSS.out.trans (Kept.put wS (w.heap.size) 1 _) (fun _ _ e => e), (show Lies _ _ _ _ from HQ.out.put 1 (.int .i64 1)), AllP.of _ (fun j hj u h => rgV_low (all_in (fun j => (List.getD ([some (.pointer (some ⟨w.heap.size + 1, 2, none⟩)), some (.int .i64 e.rg), some (.pointer (some ⟨w.heap.size + 1, 3, none⟩)), some (.int .u64 (e.tk : Int)), some (.pointer (some ⟨w.heap.size, 1, none⟩)), none, some (.pointer (some ⟨w.heap.size, 2, none⟩)), none, some (.pointer (some ⟨w.heap.size, 4, none⟩)), none, none] : List (Option Value)) j none).isSome) rfl hj) h)⟩
    refine RelySteps.cons (RelyStep.mk [] [1, 2, 3, 5] rfl rfl rfl (fun xv wS hS hV bq hb K hK => ?_)) ?_
    · clear hV
      simp only [putsOf, List.foldl_cons, List.foldl_nil, List.getD_cons_zero, List.getD_cons_succ, List.getD_nil, cond_true, cond_false, Act.put, List.setIfInBounds_toArray, List.set_cons_zero, List.set_cons_succ] at hb
      subst hb
      rw [if_pos (by rfl)]
      go_wp2_with fail
      exact hK.out _ _ ⟨_, rfl, hS, rfl, AllP.same _⟩
    refine RelySteps.cons (RelyStep.mk [6, 1, 5] [2, 3] rfl rfl rfl (fun xv wS hS hV bq hb K hK => ?_)) ?_
    · obtain ⟨h6, h1, h5, _⟩ := hV
      have h6 : xv 6 = _ := h6
      have h1 : xv 1 = _ := h1
      simp only [putsOf, List.foldl_cons, List.foldl_nil, List.getD_cons_zero, List.getD_cons_succ, List.getD_nil, cond_true, cond_false, Act.put, List.setIfInBounds_toArray, List.set_cons_zero, List.set_cons_succ, h6, h1] at hb
      clear h6
      clear h1
      generalize xv 5 = y5 at *
      subst hb
      rw [if_pos (by rfl)]
      have qq : Lies wS (w.heap.size) 27 (thC ({ y with ph := 1 } : Th) (.slice A' n c')) := h5
      have HSS := Lib.hid hS
      have HQ := Lib.hid qq
      have c9 := qq.cell 2
      simp at c9
      have f9 := qq.free 2
      have c8 := qq.lt
      clear hS qq h5
      go_wp2_with fail
      exact hK.out _ _ ⟨undef, rfl, HSS.out.trans (Kept.put wS (w.heap.size) 2 _) (fun _ _ e => e), (show Lies _ _ _ _ from HQ.out.put 2 (.int .i64 e.rg)), AllP.of _ (fun j hj u h => rgV_low (all_in (fun j => (List.getD ([some (.pointer (some ⟨w.heap.size + 1, 2, none⟩)), some (.int .i64 e.rg), some (.pointer (some ⟨w.heap.size + 1, 3, none⟩)), some (.int .u64 (e.tk : Int)), some (.pointer (some ⟨w.heap.size, 1, none⟩)), none, some (.pointer (some ⟨w.heap.size, 2, none⟩)), none, some (.pointer (some ⟨w.heap.size, 4, none⟩)), none, none] : List (Option Value)) j none).isSome) rfl hj) h)⟩
    refine RelySteps.cons (RelyStep.mk [] [3, 7] rfl rfl rfl (fun xv wS hS hV bq hb K hK => ?_)) ?_
    · clear hV
      simp only [putsOf, List.foldl_cons, List.foldl_nil, List.getD_cons_zero, List.getD_cons_succ, List.getD_nil, cond_true, cond_false, Act.put, List.setIfInBounds_toArray, List.set_cons_zero, List.set_cons_succ] at hb
      subst hb
      rw [if_pos (by rfl)]
      go_wp2_with fail
      exact hK.out _ _ ⟨_, rfl, hS, rfl, AllP.same _⟩
    refine RelySteps.cons (RelyStep.mk [8, 3, 7] [] rfl rfl rfl (fun xv wS hS hV bq hb K hK => ?_)) ?_
    · obtain ⟨h8, h3, h7, _⟩ := hV
      have h8 : xv 8 = _ := h8
      have h3 : xv 3 = _ := h3
      simp only [putsOf, List.foldl_cons, List.foldl_nil, List.getD_cons_zero, List.getD_cons_succ, List.getD_nil, cond_true, cond_false, Act.put, List.setIfInBounds_toArray, List.set_cons_zero, List.set_cons_succ, h8, h3] at hb
      clear h8
      clear h3
      generalize xv 7 = y7 at *
      subst hb
      rw [if_pos (by rfl)]
      have qq : Lies wS (w.heap.size) 27 (thC ({ y with ph := 1, rg := e.rg } : Th) (.slice A' n c')) := h7
      have HSS := Lib.hid hS
      have HQ := Lib.hid qq
      have c9 := qq.cell 4
      simp at c9
      have f9 := qq.free 4
      have c8 := qq.lt
      clear hS qq h7
      go_wp2_with fail
      exact hK.out _ _ ⟨undef, rfl, HSS.out.trans (Kept.put wS (w.heap.size) 4 _) (fun _ _ e => e), (show Lies _ _ _ _ from HQ.out.put 4 (.int .u64 (e.tk : Int))), AllP.of _ (fun j hj u h => rgV_low (all_in (fun j => (List.getD ([some (.pointer (some ⟨w.heap.size + 1, 2, none⟩)), some (.int .i64 e.rg), some (.pointer (some ⟨w.heap.size + 1, 3, none⟩)), some (.int .u64 (e.tk : Int)), some (.pointer (some ⟨w.heap.size, 1, none⟩)), none, some (.pointer (some ⟨w.heap.size, 2, none⟩)), none, some (.pointer (some ⟨w.heap.size, 4, none⟩)), none, none] : List (Option Value)) j none).isSome) rfl hj) h)⟩
    exact RelySteps.nil
  case rE =>
    intro xv wE hS hV
    have h9 := hV 9 (by decide) (by decide)
    clear hV
    simp only [putsOf, List.foldl_cons, List.foldl_nil, List.getD_cons_zero, List.getD_cons_succ, List.getD_nil, cond_true, cond_false, Act.put, List.setIfInBounds_toArray, List.set_cons_zero, List.set_cons_succ]
    generalize xv 0 = y0 at *
    generalize xv 1 = y1 at *
    generalize xv 2 = y2 at *
    generalize xv 3 = y3 at *
    generalize xv 4 = y4 at *
    generalize xv 5 = y5 at *
    generalize xv 6 = y6 at *
    generalize xv 7 = y7 at *
    generalize xv 8 = y8 at *
    generalize xv 9 = y9 at *
    replace H4 := Lib.hid (H4.out.kept hS (fun (e : w.heap.size + 1 + 1 = w.heap.size) => by omega))
    replace HO := Lib.hid (owns_kept HO.out hS (fun r cur hr hl (e : r = w.heap.size) => by subst e; exact absurd (hl.same HG.out).1 (by decide)))
    replace HB := Lib.hid (HB.out.trans (hS.below HB.out.size (fun k hk (e : k = w.heap.size) => by omega)))
    replace HG : Hid (Lies wE (w.heap.size) 27 (thC ({ y with ph := 1, rg := e.rg, tk := e.tk } : Th) (.slice A' n c'))) := h9
    clear hS h9 HEK HE HIV HCD HOK
    have HBE : Hid (behT (atT l y) y e v = ({ y with ph := 1, rg := e.rg, tk := e.tk } : Th)) := by show _ = _; unfold behT; rw [HKD.out]; simp
    replace HO : Hid (World.ownsRow wE w.heap.size 23 1 (.slice A' n c') n (cells64 (({ y with ph := 1, rg := e.rg, tk := e.tk } : Th)).sn)) := HO
    have HZN : Hid ((({ y with ph := 1, rg := e.rg, tk := e.tk } : Th)).sn.length = n) := HNE
    have c0 := (HG.out.cell 0).trans (show _ = some (Value.int .i64 ({ y with ph := 1, rg := e.rg, tk := e.tk } : Th).at_) from rfl)
    have c1 := (HG.out.cell 1).trans (show _ = some (Value.int .i64 ({ y with ph := 1, rg := e.rg, tk := e.tk } : Th).ph) from rfl)
    have c2 := (HG.out.cell 2).trans (show _ = some (Value.int .i64 ({ y with ph := 1, rg := e.rg, tk := e.tk } : Th).rg) from rfl)
    have c3 := (HG.out.cell 3).trans (show _ = some (Value.int .i64 ({ y with ph := 1, rg := e.rg, tk := e.tk } : Th).st) from rfl)
    have c4 := (HG.out.cell 4).trans (show _ = some (Value.int .u64 (({ y with ph := 1, rg := e.rg, tk := e.tk } : Th).tk : Int)) from rfl)
    have c5 := (HG.out.cell 5).trans (show _ = some (Value.int .u64 (({ y with ph := 1, rg := e.rg, tk := e.tk } : Th).r 0 : Int)) from rfl)
    have c6 := (HG.out.cell 6).trans (show _ = some (Value.int .u64 (({ y with ph := 1, rg := e.rg, tk := e.tk } : Th).r 1 : Int)) from rfl)
    have c7 := (HG.out.cell 7).trans (show _ = some (Value.int .u64 (({ y with ph := 1, rg := e.rg, tk := e.tk } : Th).r 2 : Int)) from rfl)
    have c8 := (HG.out.cell 8).trans (show _ = some (Value.int .u64 (({ y with ph := 1, rg := e.rg, tk := e.tk } : Th).r 3 : Int)) from rfl)
    have c9 := (HG.out.cell 9).trans (show _ = some (Value.int .u64 (({ y with ph := 1, rg := e.rg, tk := e.tk } : Th).r 4 : Int)) from rfl)
    have c10 := (HG.out.cell 10).trans (show _ = some (Value.int .u64 (({ y with ph := 1, rg := e.rg, tk := e.tk } : Th).r 5 : Int)) from rfl)
    have c11 := (HG.out.cell 11).trans (show _ = some (Value.int .u64 (({ y with ph := 1, rg := e.rg, tk := e.tk } : Th).r 6 : Int)) from rfl)
    have c12 := (HG.out.cell 12).trans (show _ = some (Value.int .u64 (({ y with ph := 1, rg := e.rg, tk := e.tk } : Th).r 7 : Int)) from rfl)
    have c13 := (HG.out.cell 13).trans (show _ = some ((.slice A' n c')) from rfl)
    have cl := HG.out.lt
    go_wp2_with (
      refine wpList_store_row rfl 27 _ _ rfl (w.heap.size + 1 + 1) (thC ({ y with ph := 1, rg := e.rg, tk := e.tk } : Th) (.slice A' n c')) rfl rfl 27 thZ H4.out infoTh rfl (thC_one _ rfl) ?_
      clear c0 c1 c2 c3 c4 c5 c6 c7 c8 c9 c10 c11 c12 c13 cl
      have hk9 := kept_rowT (w := wE) (g := w.heap.size + 1 + 1) (thC ({ y with ph := 1, rg := e.rg, tk := e.tk } : Th) (.slice A' n c'))
      have HBZ := Lib.hid (HB.out.trans (hk9.below HB.out.size (fun k hk (e : k = w.heap.size + 1 + 1) => by omega)))
      have Q4 := Lib.hid (lies_row H4.out (thC ({ y with ph := 1, rg := e.rg, tk := e.tk } : Th) (.slice A' n c')))
      have HOZ := Lib.hid (owns_kept HO.out hk9 (fun r cur hr hl (e : r = w.heap.size + 1 + 1) => by subst e; exact absurd (hl.same H4.out).1 (by decide)))
      clear hk9
      generalize wE.setRow (w.heap.size + 1 + 1) (thC ({ y with ph := 1, rg := e.rg, tk := e.tk } : Th) (.slice A' n c')) = wF at *
      clear HB H4 HG HO
      generalize hz9 : ({ y with ph := 1, rg := e.rg, tk := e.tk } : Th) = Z9 at *
      have z0 := (Q4.out.cell 0).trans (show _ = some (Value.int .i64 Z9.at_) from rfl)
      have z1 := (Q4.out.cell 1).trans (show _ = some (Value.int .i64 Z9.ph) from rfl)
      have z2 := (Q4.out.cell 2).trans (show _ = some (Value.int .i64 Z9.rg) from rfl)
      have z3 := (Q4.out.cell 3).trans (show _ = some (Value.int .i64 Z9.st) from rfl)
      have z4 := (Q4.out.cell 4).trans (show _ = some (Value.int .u64 (Z9.tk : Int)) from rfl)
      have z5 := (Q4.out.cell 5).trans (show _ = some (Value.int .u64 (Z9.r 0 : Int)) from rfl)
      have z6 := (Q4.out.cell 6).trans (show _ = some (Value.int .u64 (Z9.r 1 : Int)) from rfl)
      have z7 := (Q4.out.cell 7).trans (show _ = some (Value.int .u64 (Z9.r 2 : Int)) from rfl)
      have z8 := (Q4.out.cell 8).trans (show _ = some (Value.int .u64 (Z9.r 3 : Int)) from rfl)
      have z9 := (Q4.out.cell 9).trans (show _ = some (Value.int .u64 (Z9.r 4 : Int)) from rfl)
      have z10 := (Q4.out.cell 10).trans (show _ = some (Value.int .u64 (Z9.r 5 : Int)) from rfl)
      have z11 := (Q4.out.cell 11).trans (show _ = some (Value.int .u64 (Z9.r 6 : Int)) from rfl)
      have z12 := (Q4.out.cell 12).trans (show _ = some (Value.int .u64 (Z9.r 7 : Int)) from rfl)
      have z13 := (Q4.out.cell 13).trans (show _ = some ((.slice A' n c')) from rfl)
      have zl := Q4.out.lt
      go_wp2
      exact bodyPost_ret (v := .tuple #[.agg (thC Z9 (.slice A' n c')), .int .i64 0]) (by simp [results, Try.results18, go_sem, z0, z1, z2, z3, z4, z5, z6, z7, z8, z9, z10, z11, z12, z13]) rfl ⟨_, _, by rw [HYE.out, HBE.out, HZN.out], by rw [HYE.out, HBE.out, HZN.out]; exact HOZ.out, HBZ.out⟩)
set_option maxHeartbeats 8000000 in
set_option maxRecDepth 100000 in
theorem do16k3 (l : List In) (A : Option Addr) (c : Nat) (x : Th) (S : Option Addr) (cs : Nat) (e : Ev) (v : Nat) (w : World) (h : InsAt w A c l) (hok : ∀ i ∈ l, inOk i) (hx : thOk x) (hs : SeqS w 1 (.slice S x.sn.length cs) x.sn.length (cells64 x.sn)) (hl : x.sn.length ≤ 1000000) (hr : thB l x = true) (hre : rightE e = true) (hf : fitB (reqA l (nxT l x)) e = true) (hk : e.kd = 3) :
    Calls Try.prog 18 #[.slice A l.length c, .agg (thC x (.slice S x.sn.length cs)), .agg (evC e), .int .u64 (v : Int)] w fun q w' => ∃ A' c', q = .returned (.tuple #[.agg (thC (behT (atT l (nxT l x)) (nxT l x) e v) (.slice A' (behT (atT l (nxT l x)) (nxT l x) e v).sn.length c')), .int .i64 0]) ∧ w'.ownsRow w.heap.size 23 1 (.slice A' (behT (atT l (nxT l x)) (nxT l x) e v).sn.length c') (behT (atT l (nxT l x)) (nxT l x) e v).sn.length (cells64 (behT (atT l (nxT l x)) (nxT l x) e v).sn) ∧ Below w.heap.size w w' := by
  obtain ⟨hc1, hc2⟩ := seq_form h
  have hb3 : Below w.heap.size w (((w.alloc (.cells (thC x (.slice S x.sn.length cs)) 27)).alloc (.cells (evC e) 42)).alloc (.cells thZ 27)) := (((Below.refl _ _).alloc (Nat.le_refl _) _).alloc (by simp) _).alloc (by simp; omega) _
  have l1 := ((Lies.made w 27 (thC x (.slice S x.sn.length cs))).alloc (.cells (evC e) 42)).alloc (.cells thZ 27)
  have l2 := (Lies.made (w.alloc (.cells (thC x (.slice S x.sn.length cs)) 27)) 42 (evC e)).alloc (.cells thZ 27)
  have l3 := Lies.made ((w.alloc (.cells (thC x (.slice S x.sn.length cs)) 27)).alloc (.cells (evC e) 42)) 27 thZ
  rw [show (w.alloc (.cells (thC x (.slice S x.sn.length cs)) 27)).heap.size = w.heap.size + 1 by simp] at l2
  rw [show ((w.alloc (.cells (thC x (.slice S x.sn.length cs)) 27)).alloc (.cells (evC e) 42)).heap.size = w.heap.size + 1 + 1 by simp] at l3
  have HB := Lib.hid hb3
  have HG := Lib.hid l1
  have HE := Lib.hid l2
  have H4 := Lib.hid l3
  have HH := Lib.hid (fun (q : World) (hq : Below w.heap.size w q) => h.later hq)
  clear hb3 l1 l2 l3
  have hnf := nxT_facts hr hx hok
  have HNX := Lib.hid (fun q hq hs => next16 l A c x S cs q hq hok hx hs hl hr)
  have HSQ := Lib.hid (fun (q : World) (hq : Below w.heap.size w q) => hs.later hq)
  have HRI := Lib.hid (fun q => right15 e q)
  rw [hre] at HRI
  have HMT := Lib.hid (fun q => matches16 (reqA l (nxT l x)) e q)
  rw [hf] at HMT
  have HKD := Lib.hid hk
  clear hk
  clear hre hf
  obtain ⟨n, hn⟩ : ∃ n, x.sn.length = n := ⟨_, rfl⟩
  have HNE : Hid ((nxT l x).sn.length = n) := by show _ = _; rw [hnf.2.2, hn]
  have HSE : Hid (cells64 x.sn = cells64 (nxT l x).sn) := by show _ = _; rw [hnf.2.2]
  have HIV := Lib.hid hnf.1
  have HCD := Lib.hid (thB_parts hr).1
  have hlen := (codeB_parts HCD.out).1
  have HOK := Lib.hid hok
  have hn6 : n ≤ 1000000 := by omega
  have HNN := Lib.hid hn
  clear h hs hl hr hx hok hnf hn
  go_enter Try.func18, Try.ntmps18
  go_upto_region 1 with (fail)
  generalize (((w.alloc (.cells (thC x (.slice S x.sn.length cs)) 27)).alloc (.cells (evC e) 42)).alloc (.cells thZ 27)) = w1 at *
  have c0 := (HG.out.cell 0).trans (show _ = some (Value.int .i64 x.at_) from rfl)
  have c1 := (HG.out.cell 1).trans (show _ = some (Value.int .i64 x.ph) from rfl)
  have c2 := (HG.out.cell 2).trans (show _ = some (Value.int .i64 x.rg) from rfl)
  have c3 := (HG.out.cell 3).trans (show _ = some (Value.int .i64 x.st) from rfl)
  have c4 := (HG.out.cell 4).trans (show _ = some (Value.int .u64 (x.tk : Int)) from rfl)
  have c5 := (HG.out.cell 5).trans (show _ = some (Value.int .u64 (x.r 0 : Int)) from rfl)
  have c6 := (HG.out.cell 6).trans (show _ = some (Value.int .u64 (x.r 1 : Int)) from rfl)
  have c7 := (HG.out.cell 7).trans (show _ = some (Value.int .u64 (x.r 2 : Int)) from rfl)
  have c8 := (HG.out.cell 8).trans (show _ = some (Value.int .u64 (x.r 3 : Int)) from rfl)
  have c9 := (HG.out.cell 9).trans (show _ = some (Value.int .u64 (x.r 4 : Int)) from rfl)
  have c10 := (HG.out.cell 10).trans (show _ = some (Value.int .u64 (x.r 5 : Int)) from rfl)
  have c11 := (HG.out.cell 11).trans (show _ = some (Value.int .u64 (x.r 6 : Int)) from rfl)
  have c12 := (HG.out.cell 12).trans (show _ = some (Value.int .u64 (x.r 7 : Int)) from rfl)
  have c13 := (HG.out.cell 13).trans (show _ = some ((.slice S x.sn.length cs)) from rfl)
  have cl := HG.out.lt
  go_wp2_with fail
  refine (HNX.out _ (HH.out _ HB.out) (HSQ.out _ HB.out)).mono ?_
  rintro e1 w2 ⟨A', c', rfl, ho, hbm⟩
  have HN2 : Hid (w.heap.size + 1 + 1 < w2.heap.size) := Nat.lt_of_lt_of_le H4.out.lt hbm.size
  have HO0 := owns_mono ho HB.out.size
  rw [HSE.out] at HO0
  rw [HNN.out] at HO0 ⊢
  have HO := Lib.hid HO0
  replace HG := Lib.hid (HG.out.below hbm HG.out.lt)
  replace HE := Lib.hid (HE.out.below hbm HE.out.lt)
  replace H4 := Lib.hid (H4.out.below hbm H4.out.lt)
  replace HB := Lib.hid (HB.out.trans (hbm.mono HB.out.size))
  clear hbm HNX HSQ ho HO0 HSE
  generalize hyy : nxT l x = y at *
  have HYE := Lib.hid hyy
  clear hyy
  generalize hzz : reqA l y = z at *
  have HZE := Lib.hid hzz
  clear hzz
  clear c0 c1 c2 c3 c4 c5 c6 c7 c8 c9 c10 c11 c12 c13 cl
  have hba := (Below.refl w2.heap.size w2).alloc (Nat.le_refl _) (.cells akZ 31)
  have H5 := Lib.hid (Lies.made w2 31 akZ)
  replace HG := Lib.hid (HG.out.below hba HG.out.lt)
  replace HE := Lib.hid (HE.out.below hba HE.out.lt)
  replace H4 := Lib.hid (H4.out.below hba H4.out.lt)
  replace HB := Lib.hid (HB.out.trans (hba.mono HB.out.size))
  replace HO := Lib.hid (owned_below HO.out hba)
  have hn5 : w.heap.size + 1 + 1 < w2.heap.size := HN2.out
  clear hba HN2
  generalize hw3 : w2.alloc (.cells akZ 31) = w3 at *
  generalize hn5e : w2.heap.size = n5 at *
  have hk4 := kept_rowT (w := w3) (g := w.heap.size) (thC y (.slice A' n c'))
  have HO2 := Lib.hid (owns_kept HO.out hk4 (fun r cur hr hl (e : r = w.heap.size) => by subst e; exact absurd (hl.same HG.out).1 (by decide)))
  have HG2 := Lib.hid (lies_row HG.out (thC y (.slice A' n c')))
  have HE2 := Lib.hid (HE.out.kept hk4 (fun (e : w.heap.size + 1 = w.heap.size) => by omega))
  have H42 := Lib.hid (H4.out.kept hk4 (fun (e : w.heap.size + 1 + 1 = w.heap.size) => by omega))
  have H5B := Lib.hid (H5.out.kept hk4 (fun (e : n5 = w.heap.size) => by omega))
  have HB2 := Lib.hid (HB.out.trans (hk4.below HB.out.size (fun k hk (e : k = w.heap.size) => by omega)))
  clear hk4
  go_upto_region 2 with (first | refine wpList_store_row rfl 27 _ _ rfl (w.heap.size) (thC y (.slice A' n c')) rfl rfl 27 (thC x (.slice S x.sn.length cs)) HG.out infoTh rfl (thC_one _ rfl) ?_ | refine wpList_store_row rfl 31 _ _ rfl n5 (akC z) rfl rfl 31 akZ H5B.out infoAk rfl (akC_one _) ?_)
  clear HG HE H4 H5 HB HO
  generalize w3.setRow (w.heap.size) (thC y (.slice A' n c')) = w4 at *
  have hk5 := kept_rowT (w := w4) (g := n5) (akC z)
  have HO := Lib.hid (owns_kept HO2.out hk5 (fun r cur hr hl (e : r = n5) => by subst e; exact absurd (hl.same H5B.out).1 (by decide)))
  clear HO2
  have HG := Lib.hid (HG2.out.kept hk5 (fun (e : w.heap.size = n5) => by omega))
  have HE := Lib.hid (HE2.out.kept hk5 (fun (e : w.heap.size + 1 = n5) => by omega))
  have H4 := Lib.hid (H42.out.kept hk5 (fun (e : w.heap.size + 1 + 1 = n5) => by omega))
  have H5 := Lib.hid (lies_row H5B.out (akC z))
  have HB := Lib.hid (HB2.out.trans (hk5.below HB2.out.size (fun k hk (e : k = n5) => by omega)))
  clear hk5 HG2 HE2 H42 H5B HB2
  generalize w4.setRow n5 (akC z) = wq at *
  have q0 := (HE.out.cell 0).trans (show _ = some (Value.int .i64 e.th) from rfl)
  have q1 := (HE.out.cell 1).trans (show _ = some (Value.int .i64 e.kd) from rfl)
  have q2 := (HE.out.cell 2).trans (show _ = some (Value.int .i64 e.rg) from rfl)
  have q3 := (HE.out.cell 3).trans (show _ = some (Value.int .u64 (e.tk : Int)) from rfl)
  have q4 := (HE.out.cell 4).trans (show _ = some (Value.int .u64 (e.vl : Int)) from rfl)
  have ql := HE.out.lt
  go_wp2_with fail
  refine (HRI.out _).mono ?_
  rintro e1 w5 ⟨rfl, hbm⟩
  clear q0 q1 q2 q3 q4 ql
  replace H5 := Lib.hid (H5.out.below hbm H5.out.lt)
  replace HO := Lib.hid (owned_below HO.out hbm)
  replace HG := Lib.hid (HG.out.below hbm HG.out.lt)
  replace HE := Lib.hid (HE.out.below hbm HE.out.lt)
  replace H4 := Lib.hid (H4.out.below hbm H4.out.lt)
  replace HB := Lib.hid (HB.out.trans (hbm.mono HB.out.size))
  clear hbm HRI
  clear wq
  have q0 := (HE.out.cell 0).trans (show _ = some (Value.int .i64 e.th) from rfl)
  have q1 := (HE.out.cell 1).trans (show _ = some (Value.int .i64 e.kd) from rfl)
  have q2 := (HE.out.cell 2).trans (show _ = some (Value.int .i64 e.rg) from rfl)
  have q3 := (HE.out.cell 3).trans (show _ = some (Value.int .u64 (e.tk : Int)) from rfl)
  have q4 := (HE.out.cell 4).trans (show _ = some (Value.int .u64 (e.vl : Int)) from rfl)
  have ql := HE.out.lt
  have k0 := (H5.out.cell 0).trans (show _ = some (.int .i64 z.kd) from rfl)
  have k1 := (H5.out.cell 1).trans (show _ = some (.int .i64 z.rg) from rfl)
  have k2 := (H5.out.cell 2).trans (show _ = some (.int .i64 z.md) from rfl)
  have k3 := (H5.out.cell 3).trans (show _ = some (.int .i64 z.rd) from rfl)
  have k4 := (H5.out.cell 4).trans (show _ = some (.int .u64 (z.tk : Int)) from rfl)
  have k5 := (H5.out.cell 5).trans (show _ = some (.int .u64 (z.vl : Int)) from rfl)
  have kl := H5.out.lt
  go_wp2_with fail
  refine (HMT.out _).mono ?_
  rintro e1 wq ⟨rfl, hbm⟩
  clear q0 q1 q2 q3 q4 ql
  clear k0 k1 k2 k3 k4 k5 kl
  replace HO := Lib.hid (owned_below HO.out hbm)
  replace HG := Lib.hid (HG.out.below hbm HG.out.lt)
  replace HE := Lib.hid (HE.out.below hbm HE.out.lt)
  replace H4 := Lib.hid (H4.out.below hbm H4.out.lt)
  replace HB := Lib.hid (HB.out.trans (hbm.mono HB.out.size))
  clear hbm HMT H5 w5
  have q0 := (HE.out.cell 0).trans (show _ = some (Value.int .i64 e.th) from rfl)
  have q1 := (HE.out.cell 1).trans (show _ = some (Value.int .i64 e.kd) from rfl)
  have q2 := (HE.out.cell 2).trans (show _ = some (Value.int .i64 e.rg) from rfl)
  have q3 := (HE.out.cell 3).trans (show _ = some (Value.int .u64 (e.tk : Int)) from rfl)
  have q4 := (HE.out.cell 4).trans (show _ = some (Value.int .u64 (e.vl : Int)) from rfl)
  have ql := HE.out.lt
  rw [HKD.out] at q1
  go_wp2_with fail
  clear q0 q1 q2 q3 q4 ql
  have HEK := Lib.hid (fun (q : World) (hq : Kept (oneRow (w.heap.size)) wq q) => HE.out.kept hq (fun (e : w.heap.size + 1 = w.heap.size) => by omega))
  refine wp_region_rely (fun q => Kept (oneRow (w.heap.size)) wq q) (rgV [some (.pointer (some ⟨w.heap.size + 1, 2, none⟩)), some (.int .i64 e.rg), some (.pointer (some ⟨w.heap.size + 1, 3, none⟩)), some (.int .u64 (e.tk : Int)), some (.pointer (some ⟨w.heap.size, 1, none⟩)), none, some (.pointer (some ⟨w.heap.size, 2, none⟩)), none, some (.pointer (some ⟨w.heap.size, 4, none⟩)), none, none] (fun j q => match j with | 5 => Lies q (w.heap.size) 27 (thC ({ y with ph := 2 } : Th) (.slice A' n c')) | 7 => Lies q (w.heap.size) 27 (thC ({ y with ph := 2, rg := e.rg } : Th) (.slice A' n c')) | 9 => Lies q (w.heap.size) 27 (thC ({ y with ph := 2, rg := e.rg, tk := e.tk } : Th) (.slice A' n c')) | 10 => Lies q (w.heap.size) 27 (thC y (.slice A' n c')) | _ => True)) [some 53, some 54, some 55, some 56, some 57, none, some 58, none, some 59, none] [[], [0], [], [2], [], [4, 10], [], [6, 1, 5], [], [8, 3, 7]] [[], [0], [], [2], [], [4, 10], [0, 4, 10], [0, 1, 4, 5, 6, 10], [0, 1, 2, 4, 5, 6, 10], [0, 1, 2, 3, 4, 5, 6, 7, 8, 10]] [[2, 3, 4, 5, 10], [2, 3, 4, 5, 10], [0, 1, 4, 5, 6, 7, 10], [0, 1, 4, 5, 6, 7, 10], [0, 1, 2, 3, 10], [0, 1, 2, 3], [1, 2, 3, 5], [2, 3], [3, 7], []] [0, 1, 2, 3, 4, 5, 6, 7, 8, 9] 11 (by kernel_rfl) (by kernel_rfl) (by kernel_rfl) (by kernel_rfl) ?rS ?rI ?rT ?rE
  case rS => exact Kept.drew _ _
  case rI =>
    intro j h1 h2
    have h1 : j < 11 := h1
    have h2 : 10 ≤ j := h2
    obtain rfl : j = 10 := by omega
    exact HG.out.drewN 1
  case rT =>
    refine RelySteps.cons (RelyStep.mk [] [2, 3, 4, 5, 10] rfl rfl rfl (fun xv wS hS hV bq hb K hK => ?_)) ?_
    · clear hV
      simp only [putsOf, List.foldl_cons, List.foldl_nil, List.getD_cons_zero, List.getD_cons_succ, List.getD_nil, cond_true, cond_false, Act.put, List.setIfInBounds_toArray, List.set_cons_zero, List.set_cons_succ] at hb
      subst hb
      rw [if_pos (by rfl)]
      go_wp2_with fail
      exact hK.out _ _ ⟨_, rfl, hS, rfl, AllP.same _⟩
    refine RelySteps.cons (RelyStep.mk [0] [2, 3, 4, 5, 10] rfl rfl rfl (fun xv wS hS hV bq hb K hK => ?_)) ?_
    · obtain ⟨h0, _⟩ := hV
      have h0 : xv 0 = _ := h0
      simp only [putsOf, List.foldl_cons, List.foldl_nil, List.getD_cons_zero, List.getD_cons_succ, List.getD_nil, cond_true, cond_false, Act.put, List.setIfInBounds_toArray, List.set_cons_zero, List.set_cons_succ, h0] at hb
      clear h0
      subst hb
      rw [if_pos (by rfl)]
      (have HZ := Lib.hid (HEK.out _ hS); have c9 := (HZ.out.cell 2).trans (show _ = some _ from rfl); have c8 := HZ.out.lt)
      go_wp2_with fail
      exact hK.out _ _ ⟨_, rfl, hS, rfl, AllP.same _⟩
    refine RelySteps.cons (RelyStep.mk [] [0, 1, 4, 5, 6, 7, 10] rfl rfl rfl (fun xv wS hS hV bq hb K hK => ?_)) ?_
    · clear hV
      simp only [putsOf, List.foldl_cons, List.foldl_nil, List.getD_cons_zero, List.getD_cons_succ, List.getD_nil, cond_true, cond_false, Act.put, List.setIfInBounds_toArray, List.set_cons_zero, List.set_cons_succ] at hb
      subst hb
      rw [if_pos (by rfl)]
      go_wp2_with fail
      exact hK.out _ _ ⟨_, rfl, hS, rfl, AllP.same _⟩
    refine RelySteps.cons (RelyStep.mk [2] [0, 1, 4, 5, 6, 7, 10] rfl rfl rfl (fun xv wS hS hV bq hb K hK => ?_)) ?_
    · obtain ⟨h2, _⟩ := hV
      have h2 : xv 2 = _ := h2
      simp only [putsOf, List.foldl_cons, List.foldl_nil, List.getD_cons_zero, List.getD_cons_succ, List.getD_nil, cond_true, cond_false, Act.put, List.setIfInBounds_toArray, List.set_cons_zero, List.set_cons_succ, h2] at hb
      clear h2
      subst hb
      rw [if_pos (by rfl)]
      (have HZ := Lib.hid (HEK.out _ hS); have c9 := (HZ.out.cell 3).trans (show _ = some _ from rfl); have c8 := HZ.out.lt)
      go_wp2_with fail
      exact hK.out _ _ ⟨_, rfl, hS, rfl, AllP.same _⟩
    refine RelySteps.cons (RelyStep.mk [] [0, 1, 2, 3, 10] rfl rfl rfl (fun xv wS hS hV bq hb K hK => ?_)) ?_
    · clear hV
      simp only [putsOf, List.foldl_cons, List.foldl_nil, List.getD_cons_zero, List.getD_cons_succ, List.getD_nil, cond_true, cond_false, Act.put, List.setIfInBounds_toArray, List.set_cons_zero, List.set_cons_succ] at hb
      subst hb
      rw [if_pos (by rfl)]
      go_wp2_with fail
      exact hK.out _ _ ⟨_, rfl, hS, rfl, AllP.same _⟩
    refine RelySteps.cons (RelyStep.mk [4, 10] [0, 1, 2, 3] rfl rfl rfl (fun xv wS hS hV bq hb K hK => ?_)) ?_
    · obtain ⟨h4, h10, _⟩ := hV
      have h4 : xv 4 = _ := h4
      simp only [putsOf, List.foldl_cons, List.foldl_nil, List.getD_cons_zero, List.getD_cons_succ, List.getD_nil, cond_true, cond_false, Act.put, List.setIfInBounds_toArray, List.set_cons_zero, List.set_cons_succ, h4] at hb
      clear h4
      generalize xv 10 = y10 at *
      subst hb
      rw [if_pos (by rfl)]
      have qq : Lies wS (w.heap.size) 27 (thC y (.slice A' n c')) := h10
      have HSS := Lib.hid hS
      have HQ := Lib.hid qq
      have c9 := qq.cell 1
      simp at c9
      have f9 := qq.free 1
      have c8 := qq.lt
      clear hS qq h10
      go_wp2_with fail
      exact hK.out _ _ ⟨undef, rfl, HSS.out.trans (Kept.put wS (w.heap.size) 1 _) (fun _ _ e => e), (show Lies _ _ _ _ from HQ.out.put 1 (.int .i64 2)), AllP.of _ (fun j hj u h => rgV_low (all_in (fun j => (List.getD ([some (.pointer (some ⟨w.heap.size + 1, 2, none⟩)), some (.int .i64 e.rg), some (.pointer (some ⟨w.heap.size + 1, 3, none⟩)), some (.int .u64 (e.tk : Int)), some (.pointer (some ⟨w.heap.size, 1, none⟩)), none, some (.pointer (some ⟨w.heap.size, 2, none⟩)), none, some (.pointer (some ⟨w.heap.size, 4, none⟩)), none, none] : List (Option Value)) j none).isSome) rfl hj) h)⟩
    refine RelySteps.cons (RelyStep.mk [] [1, 2, 3, 5] rfl rfl rfl (fun xv wS hS hV bq hb K hK => ?_)) ?_
    · clear hV
      simp only [putsOf, List.foldl_cons, List.foldl_nil, List.getD_cons_zero, List.getD_cons_succ, List.getD_nil, cond_true, cond_false, Act.put, List.setIfInBounds_toArray, List.set_cons_zero, List.set_cons_succ] at hb
      subst hb
      rw [if_pos (by rfl)]
      go_wp2_with fail
      exact hK.out _ _ ⟨_, rfl, hS, rfl, AllP.same _⟩
    refine RelySteps.cons (RelyStep.mk [6, 1, 5] [2, 3] rfl rfl rfl (fun xv wS hS hV bq hb K hK => ?_)) ?_
    · obtain ⟨h6, h1, h5, _⟩ := hV
      have h6 : xv 6 = _ := h6
      have h1 : xv 1 = _ := h1
      simp only [putsOf, List.foldl_cons, List.foldl_nil, List.getD_cons_zero, List.getD_cons_succ, List.getD_nil, cond_true, cond_false, Act.put, List.setIfInBounds_toArray, List.set_cons_zero, List.set_cons_succ, h6, h1] at hb
      clear h6
      clear h1
      generalize xv 5 = y5 at *
      subst hb
      rw [if_pos (by rfl)]
      have qq : Lies wS (w.heap.size) 27 (thC ({ y with ph := 2 } : Th) (.slice A' n c')) := h5
      have HSS := Lib.hid hS
      have HQ := Lib.hid qq
      have c9 := qq.cell 2
      simp at c9
      have f9 := qq.free 2
      have c8 := qq.lt
      clear hS qq h5
      go_wp2_with fail
      exact hK.out _ _ ⟨undef, rfl, HSS.out.trans (Kept.put wS (w.heap.size) 2 _) (fun _ _ e => e), (show Lies _ _ _ _ from HQ.out.put 2 (.int .i64 e.rg)), AllP.of _ (fun j hj u h => rgV_low (all_in (fun j => (List.getD ([some (.pointer (some ⟨w.heap.size + 1, 2, none⟩)), some (.int .i64 e.rg), some (.pointer (some ⟨w.heap.size + 1, 3, none⟩)), some (.int .u64 (e.tk : Int)), some (.pointer (some ⟨w.heap.size, 1, none⟩)), none, some (.pointer (some ⟨w.heap.size, 2, none⟩)), none, some (.pointer (some ⟨w.heap.size, 4, none⟩)), none, none] : List (Option Value)) j none).isSome) rfl hj) h)⟩
    refine RelySteps.cons (RelyStep.mk [] [3, 7] rfl rfl rfl (fun xv wS hS hV bq hb K hK => ?_)) ?_
    · clear hV
      simp only [putsOf, List.foldl_cons, List.foldl_nil, List.getD_cons_zero, List.getD_cons_succ, List.getD_nil, cond_true, cond_false, Act.put, List.setIfInBounds_toArray, List.set_cons_zero, List.set_cons_succ] at hb
      subst hb
      rw [if_pos (by rfl)]
      go_wp2_with fail
      exact hK.out _ _ ⟨_, rfl, hS, rfl, AllP.same _⟩
    refine RelySteps.cons (RelyStep.mk [8, 3, 7] [] rfl rfl rfl (fun xv wS hS hV bq hb K hK => ?_)) ?_
    · obtain ⟨h8, h3, h7, _⟩ := hV
      have h8 : xv 8 = _ := h8
      have h3 : xv 3 = _ := h3
      simp only [putsOf, List.foldl_cons, List.foldl_nil, List.getD_cons_zero, List.getD_cons_succ, List.getD_nil, cond_true, cond_false, Act.put, List.setIfInBounds_toArray, List.set_cons_zero, List.set_cons_succ, h8, h3] at hb
      clear h8
      clear h3
      generalize xv 7 = y7 at *
      subst hb
      rw [if_pos (by rfl)]
      have qq : Lies wS (w.heap.size) 27 (thC ({ y with ph := 2, rg := e.rg } : Th) (.slice A' n c')) := h7
      have HSS := Lib.hid hS
      have HQ := Lib.hid qq
      have c9 := qq.cell 4
      simp at c9
      have f9 := qq.free 4
      have c8 := qq.lt
      clear hS qq h7
      go_wp2_with fail
      exact hK.out _ _ ⟨undef, rfl, HSS.out.trans (Kept.put wS (w.heap.size) 4 _) (fun _ _ e => e), (show Lies _ _ _ _ from HQ.out.put 4 (.int .u64 (e.tk : Int))), AllP.of _ (fun j hj u h => rgV_low (all_in (fun j => (List.getD ([some (.pointer (some ⟨w.heap.size + 1, 2, none⟩)), some (.int .i64 e.rg), some (.pointer (some ⟨w.heap.size + 1, 3, none⟩)), some (.int .u64 (e.tk : Int)), some (.pointer (some ⟨w.heap.size, 1, none⟩)), none, some (.pointer (some ⟨w.heap.size, 2, none⟩)), none, some (.pointer (some ⟨w.heap.size, 4, none⟩)), none, none] : List (Option Value)) j none).isSome) rfl hj) h)⟩
    exact RelySteps.nil
  case rE =>
    intro xv wE hS hV
    have h9 := hV 9 (by decide) (by decide)
    clear hV
    simp only [putsOf, List.foldl_cons, List.foldl_nil, List.getD_cons_zero, List.getD_cons_succ, List.getD_nil, cond_true, cond_false, Act.put, List.setIfInBounds_toArray, List.set_cons_zero, List.set_cons_succ]
    generalize xv 0 = y0 at *
    generalize xv 1 = y1 at *
    generalize xv 2 = y2 at *
    generalize xv 3 = y3 at *
    generalize xv 4 = y4 at *
    generalize xv 5 = y5 at *
    generalize xv 6 = y6 at *
    generalize xv 7 = y7 at *
    generalize xv 8 = y8 at *
    generalize xv 9 = y9 at *
    replace H4 := Lib.hid (H4.out.kept hS (fun (e : w.heap.size + 1 + 1 = w.heap.size) => by omega))
    replace HO := Lib.hid (owns_kept HO.out hS (fun r cur hr hl (e : r = w.heap.size) => by subst e; exact absurd (hl.same HG.out).1 (by decide)))
    replace HB := Lib.hid (HB.out.trans (hS.below HB.out.size (fun k hk (e : k = w.heap.size) => by omega)))
    replace HG : Hid (Lies wE (w.heap.size) 27 (thC ({ y with ph := 2, rg := e.rg, tk := e.tk } : Th) (.slice A' n c'))) := h9
    clear hS h9 HEK HE HIV HCD HOK
    have HBE : Hid (behT (atT l y) y e v = ({ y with ph := 2, rg := e.rg, tk := e.tk } : Th)) := by show _ = _; unfold behT; rw [HKD.out]; simp
    replace HO : Hid (World.ownsRow wE w.heap.size 23 1 (.slice A' n c') n (cells64 (({ y with ph := 2, rg := e.rg, tk := e.tk } : Th)).sn)) := HO
    have HZN : Hid ((({ y with ph := 2, rg := e.rg, tk := e.tk } : Th)).sn.length = n) := HNE
    have c0 := (HG.out.cell 0).trans (show _ = some (Value.int .i64 ({ y with ph := 2, rg := e.rg, tk := e.tk } : Th).at_) from rfl)
    have c1 := (HG.out.cell 1).trans (show _ = some (Value.int .i64 ({ y with ph := 2, rg := e.rg, tk := e.tk } : Th).ph) from rfl)
    have c2 := (HG.out.cell 2).trans (show _ = some (Value.int .i64 ({ y with ph := 2, rg := e.rg, tk := e.tk } : Th).rg) from rfl)
    have c3 := (HG.out.cell 3).trans (show _ = some (Value.int .i64 ({ y with ph := 2, rg := e.rg, tk := e.tk } : Th).st) from rfl)
    have c4 := (HG.out.cell 4).trans (show _ = some (Value.int .u64 (({ y with ph := 2, rg := e.rg, tk := e.tk } : Th).tk : Int)) from rfl)
    have c5 := (HG.out.cell 5).trans (show _ = some (Value.int .u64 (({ y with ph := 2, rg := e.rg, tk := e.tk } : Th).r 0 : Int)) from rfl)
    have c6 := (HG.out.cell 6).trans (show _ = some (Value.int .u64 (({ y with ph := 2, rg := e.rg, tk := e.tk } : Th).r 1 : Int)) from rfl)
    have c7 := (HG.out.cell 7).trans (show _ = some (Value.int .u64 (({ y with ph := 2, rg := e.rg, tk := e.tk } : Th).r 2 : Int)) from rfl)
    have c8 := (HG.out.cell 8).trans (show _ = some (Value.int .u64 (({ y with ph := 2, rg := e.rg, tk := e.tk } : Th).r 3 : Int)) from rfl)
    have c9 := (HG.out.cell 9).trans (show _ = some (Value.int .u64 (({ y with ph := 2, rg := e.rg, tk := e.tk } : Th).r 4 : Int)) from rfl)
    have c10 := (HG.out.cell 10).trans (show _ = some (Value.int .u64 (({ y with ph := 2, rg := e.rg, tk := e.tk } : Th).r 5 : Int)) from rfl)
    have c11 := (HG.out.cell 11).trans (show _ = some (Value.int .u64 (({ y with ph := 2, rg := e.rg, tk := e.tk } : Th).r 6 : Int)) from rfl)
    have c12 := (HG.out.cell 12).trans (show _ = some (Value.int .u64 (({ y with ph := 2, rg := e.rg, tk := e.tk } : Th).r 7 : Int)) from rfl)
    have c13 := (HG.out.cell 13).trans (show _ = some ((.slice A' n c')) from rfl)
    have cl := HG.out.lt
    go_wp2_with (
      refine wpList_store_row rfl 27 _ _ rfl (w.heap.size + 1 + 1) (thC ({ y with ph := 2, rg := e.rg, tk := e.tk } : Th) (.slice A' n c')) rfl rfl 27 thZ H4.out infoTh rfl (thC_one _ rfl) ?_
      clear c0 c1 c2 c3 c4 c5 c6 c7 c8 c9 c10 c11 c12 c13 cl
      have hk9 := kept_rowT (w := wE) (g := w.heap.size + 1 + 1) (thC ({ y with ph := 2, rg := e.rg, tk := e.tk } : Th) (.slice A' n c'))
      have HBZ := Lib.hid (HB.out.trans (hk9.below HB.out.size (fun k hk (e : k = w.heap.size + 1 + 1) => by omega)))
      have Q4 := Lib.hid (lies_row H4.out (thC ({ y with ph := 2, rg := e.rg, tk := e.tk } : Th) (.slice A' n c')))
      have HOZ := Lib.hid (owns_kept HO.out hk9 (fun r cur hr hl (e : r = w.heap.size + 1 + 1) => by subst e; exact absurd (hl.same H4.out).1 (by decide)))
      clear hk9
      generalize wE.setRow (w.heap.size + 1 + 1) (thC ({ y with ph := 2, rg := e.rg, tk := e.tk } : Th) (.slice A' n c')) = wF at *
      clear HB H4 HG HO
      generalize hz9 : ({ y with ph := 2, rg := e.rg, tk := e.tk } : Th) = Z9 at *
      have z0 := (Q4.out.cell 0).trans (show _ = some (Value.int .i64 Z9.at_) from rfl)
      have z1 := (Q4.out.cell 1).trans (show _ = some (Value.int .i64 Z9.ph) from rfl)
      have z2 := (Q4.out.cell 2).trans (show _ = some (Value.int .i64 Z9.rg) from rfl)
      have z3 := (Q4.out.cell 3).trans (show _ = some (Value.int .i64 Z9.st) from rfl)
      have z4 := (Q4.out.cell 4).trans (show _ = some (Value.int .u64 (Z9.tk : Int)) from rfl)
      have z5 := (Q4.out.cell 5).trans (show _ = some (Value.int .u64 (Z9.r 0 : Int)) from rfl)
      have z6 := (Q4.out.cell 6).trans (show _ = some (Value.int .u64 (Z9.r 1 : Int)) from rfl)
      have z7 := (Q4.out.cell 7).trans (show _ = some (Value.int .u64 (Z9.r 2 : Int)) from rfl)
      have z8 := (Q4.out.cell 8).trans (show _ = some (Value.int .u64 (Z9.r 3 : Int)) from rfl)
      have z9 := (Q4.out.cell 9).trans (show _ = some (Value.int .u64 (Z9.r 4 : Int)) from rfl)
      have z10 := (Q4.out.cell 10).trans (show _ = some (Value.int .u64 (Z9.r 5 : Int)) from rfl)
      have z11 := (Q4.out.cell 11).trans (show _ = some (Value.int .u64 (Z9.r 6 : Int)) from rfl)
      have z12 := (Q4.out.cell 12).trans (show _ = some (Value.int .u64 (Z9.r 7 : Int)) from rfl)
      have z13 := (Q4.out.cell 13).trans (show _ = some ((.slice A' n c')) from rfl)
      have zl := Q4.out.lt
      go_wp2
      exact bodyPost_ret (v := .tuple #[.agg (thC Z9 (.slice A' n c')), .int .i64 0]) (by simp [results, Try.results18, go_sem, z0, z1, z2, z3, z4, z5, z6, z7, z8, z9, z10, z11, z12, z13]) rfl ⟨_, _, by rw [HYE.out, HBE.out, HZN.out], by rw [HYE.out, HBE.out, HZN.out]; exact HOZ.out, HBZ.out⟩)
end Go.Proofs.Ytiegmpjoiekekaa
/-
  What an event makes of a thread (layer 16): thread.Do: events of the kind 12.
-/
namespace Go.Proofs.Ytiegmpjoiekekaa
open Go.RowKit
set_option linter.unusedVariables false
set_option linter.unusedSimpArgs false
set_option maxHeartbeats 8000000 in
set_option maxRecDepth 100000 in
theorem do16k12 (l : List In) (A : Option Addr) (c : Nat) (x : Th) (S : Option Addr) (cs : Nat) (e : Ev) (v : Nat) (w : World) (h : InsAt w A c l) (hok : ∀ i ∈ l, inOk i) (hx : thOk x) (hs : SeqS w 1 (.slice S x.sn.length cs) x.sn.length (cells64 x.sn)) (hl : x.sn.length ≤ 1000000) (hr : thB l x = true) (hre : rightE e = true) (hf : fitB (reqA l (nxT l x)) e = true) (hk : e.kd = 12) :
    Calls Try.prog 18 #[.slice A l.length c, .agg (thC x (.slice S x.sn.length cs)), .agg (evC e), .int .u64 (v : Int)] w fun q w' => ∃ A' c', q = .returned (.tuple #[.agg (thC (behT (atT l (nxT l x)) (nxT l x) e v) (.slice A' (behT (atT l (nxT l x)) (nxT l x) e v).sn.length c')), .int .i64 0]) ∧ w'.ownsRow w.heap.size 23 1 (.slice A' (behT (atT l (nxT l x)) (nxT l x) e v).sn.length c') (behT (atT l (nxT l x)) (nxT l x) e v).sn.length (cells64 (behT (atT l (nxT l x)) (nxT l x) e v).sn) ∧ Below w.heap.size w w' := by
  obtain ⟨hc1, hc2⟩ := seq_form h
  have hb3 : Below w.heap.size w (((w.alloc (.cells (thC x (.slice S x.sn.length cs)) 27)).alloc (.cells (evC e) 42)).alloc (.cells thZ 27)) := (((Below.refl _ _).alloc (Nat.le_refl _) _).alloc (by simp) _).alloc (by simp; omega) _
  have l1 := ((Lies.made w 27 (thC x (.slice S x.sn.length cs))).alloc (.cells (evC e) 42)).alloc (.cells thZ 27)
  have l2 := (Lies.made (w.alloc (.cells (thC x (.slice S x.sn.length cs)) 27)) 42 (evC e)).alloc (.cells thZ 27)
  have l3 := Lies.made ((w.alloc (.cells (thC x (.slice S x.sn.length cs)) 27)).alloc (.cells (evC e) 42)) 27 thZ
  rw [show (w.alloc (.cells (thC x (.slice S x.sn.length cs)) 27)).heap.size = w.heap.size + 1 by simp] at l2
  rw [show ((w.alloc (.cells (thC x (.slice S x.sn.length cs)) 27)).alloc (.cells (evC e) 42)).heap.size = w.heap.size + 1 + 1 by simp] at l3
  have HB := Lib.hid hb3
  have HG := Lib.hid l1
  have HE := Lib.hid l2
  have H4 := Lib.hid l3
  have HH := Lib.hid (fun (q : World) (hq : Below w.heap.size w q) => h.later hq)
  clear hb3 l1 l2 l3
  have hnf := nxT_facts hr hx hok
  have HNX := Lib.hid (fun q hq hs => next16 l A c x S cs q hq hok hx hs hl hr)
  have HSQ := Lib.hid (fun (q : World) (hq : Below w.heap.size w q) => hs.later hq)
  have HRI := Lib.hid (fun q => right15 e q)
  rw [hre] at HRI
  have HMT := Lib.hid (fun q => matches16 (reqA l (nxT l x)) e q)
  rw [hf] at HMT
  have HKD := Lib.hid hk
  clear hk
  have HF := Lib.hid hf
  clear hre hf
  obtain ⟨n, hn⟩ : ∃ n, x.sn.length = n := ⟨_, rfl⟩
  have HNE : Hid ((nxT l x).sn.length = n) := by show _ = _; rw [hnf.2.2, hn]
  have HSE : Hid (cells64 x.sn = cells64 (nxT l x).sn) := by show _ = _; rw [hnf.2.2]
  have HIV := Lib.hid hnf.1
  have HCD := Lib.hid (thB_parts hr).1
  have hlen := (codeB_parts HCD.out).1
  have HOK := Lib.hid hok
  have hn6 : n ≤ 1000000 := by omega
  have HNN := Lib.hid hn
  clear h hs hl hr hx hok hnf hn
  go_enter Try.func18, Try.ntmps18
  go_upto_region 1 with (fail)
  generalize (((w.alloc (.cells (thC x (.slice S x.sn.length cs)) 27)).alloc (.cells (evC e) 42)).alloc (.cells thZ 27)) = w1 at *
  have c0 := (HG.out.cell 0).trans (show _ = some (Value.int .i64 x.at_) from rfl)
  have c1 := (HG.out.cell 1).trans (show _ = some (Value.int .i64 x.ph) from rfl)
  have c2 := (HG.out.cell 2).trans (show _ = some (Value.int .i64 x.rg) from rfl)
  have c3 := (HG.out.cell 3).trans (show _ = some (Value.int .i64 x.st) from rfl)
  have c4 := (HG.out.cell 4).trans (show _ = some (Value.int .u64 (x.tk : Int)) from rfl)
  have c5 := (HG.out.cell 5).trans (show _ = some (Value.int .u64 (x.r 0 : Int)) from rfl)
  have c6 := (HG.out.cell 6).trans (show _ = some (Value.int .u64 (x.r 1 : Int)) from rfl)
  have c7 := (HG.out.cell 7).trans (show _ = some (Value.int .u64 (x.r 2 : Int)) from rfl)
  have c8 := (HG.out.cell 8).trans (show _ = some (Value.int .u64 (x.r 3 : Int)) from rfl)
  have c9 := (HG.out.cell 9).trans (show _ = some (Value.int .u64 (x.r 4 : Int)) from rfl)
  have c10 := (HG.out.cell 10).trans (show _ = some (Value.int .u64 (x.r 5 : Int)) from rfl)
  have c11 := (HG.out.cell 11).trans (show _ = some (Value.int .u64 (x.r 6 : Int)) from rfl)
  have c12 := (HG.out.cell 12).trans (show _ = some (Value.int .u64 (x.r 7 : Int)) from rfl)
  have c13 := (HG.out.cell 13).trans (show _ = some ((.slice S x.sn.length cs)) from rfl)
  have cl := HG.out.lt
  go_wp2_with fail
  refine (HNX.out _ (HH.out _ HB.out) (HSQ.out _ HB.out)).mono ?_
  rintro e1 w2 ⟨A', c', rfl, ho, hbm⟩
  have HN2 : Hid (w.heap.size + 1 + 1 < w2.heap.size) := Nat.lt_of_lt_of_le H4.out.lt hbm.size
  have HO0 := owns_mono ho HB.out.size
  rw [HSE.out] at HO0
  rw [HNN.out] at HO0 ⊢
  have HO := Lib.hid HO0
  replace HG := Lib.hid (HG.out.below hbm HG.out.lt)
  replace HE := Lib.hid (HE.out.below hbm HE.out.lt)
  replace H4 := Lib.hid (H4.out.below hbm H4.out.lt)
  replace HB := Lib.hid (HB.out.trans (hbm.mono HB.out.size))
  clear hbm HNX HSQ ho HO0 HSE
  generalize hyy : nxT l x = y at *
  have HYE := Lib.hid hyy
  clear hyy
  have HMT2 := HMT
  clear HMT
  clear c0 c1 c2 c3 c4 c5 c6 c7 c8 c9 c10 c11 c12 c13 cl
  have hba := (Below.refl w2.heap.size w2).alloc (Nat.le_refl _) (.cells akZ 31)
  have H5 := Lib.hid (Lies.made w2 31 akZ)
  replace HG := Lib.hid (HG.out.below hba HG.out.lt)
  replace HE := Lib.hid (HE.out.below hba HE.out.lt)
  replace H4 := Lib.hid (H4.out.below hba H4.out.lt)
  replace HB := Lib.hid (HB.out.trans (hba.mono HB.out.size))
  replace HO := Lib.hid (owned_below HO.out hba)
  have hn5 : w.heap.size + 1 + 1 < w2.heap.size := HN2.out
  clear hba HN2
  generalize hw3 : w2.alloc (.cells akZ 31) = w3 at *
  generalize hn5e : w2.heap.size = n5 at *
  have hk4 := kept_rowT (w := w3) (g := w.heap.size) (thC y (.slice A' n c'))
  have HO2 := Lib.hid (owns_kept HO.out hk4 (fun r cur hr hl (e : r = w.heap.size) => by subst e; exact absurd (hl.same HG.out).1 (by decide)))
  have HG2 := Lib.hid (lies_row HG.out (thC y (.slice A' n c')))
  have HE2 := Lib.hid (HE.out.kept hk4 (fun (e : w.heap.size + 1 = w.heap.size) => by omega))
  have H42 := Lib.hid (H4.out.kept hk4 (fun (e : w.heap.size + 1 + 1 = w.heap.size) => by omega))
  have H5B := Lib.hid (H5.out.kept hk4 (fun (e : n5 = w.heap.size) => by omega))
  have HB2 := Lib.hid (HB.out.trans (hk4.below HB.out.size (fun k hk (e : k = w.heap.size) => by omega)))
  clear hk4
  go_upto_region 2 with (first | refine wpList_store_row rfl 27 _ _ rfl (w.heap.size) (thC y (.slice A' n c')) rfl rfl 27 (thC x (.slice S x.sn.length cs)) HG.out infoTh rfl (thC_one _ rfl) ?_ | refine wpList_store_row rfl 31 _ _ rfl n5 (akC (reqA l y)) rfl rfl 31 akZ H5B.out infoAk rfl (akC_one _) ?_)
  clear HG HE H4 H5 HB HO
  generalize w3.setRow (w.heap.size) (thC y (.slice A' n c')) = w4 at *
  have hk5 := kept_rowT (w := w4) (g := n5) (akC (reqA l y))
  have HO := Lib.hid (owns_kept HO2.out hk5 (fun r cur hr hl (e : r = n5) => by subst e; exact absurd (hl.same H5B.out).1 (by decide)))
  clear HO2
  have HG := Lib.hid (HG2.out.kept hk5 (fun (e : w.heap.size = n5) => by omega))
  have HE := Lib.hid (HE2.out.kept hk5 (fun (e : w.heap.size + 1 = n5) => by omega))
  have H4 := Lib.hid (H42.out.kept hk5 (fun (e : w.heap.size + 1 + 1 = n5) => by omega))
  have H5 := Lib.hid (lies_row H5B.out (akC (reqA l y)))
  have HB := Lib.hid (HB2.out.trans (hk5.below HB2.out.size (fun k hk (e : k = n5) => by omega)))
  clear hk5 HG2 HE2 H42 H5B HB2
  generalize w4.setRow n5 (akC (reqA l y)) = wq at *
  have q0 := (HE.out.cell 0).trans (show _ = some (Value.int .i64 e.th) from rfl)
  have q1 := (HE.out.cell 1).trans (show _ = some (Value.int .i64 e.kd) from rfl)
  have q2 := (HE.out.cell 2).trans (show _ = some (Value.int .i64 e.rg) from rfl)
  have q3 := (HE.out.cell 3).trans (show _ = some (Value.int .u64 (e.tk : Int)) from rfl)
  have q4 := (HE.out.cell 4).trans (show _ = some (Value.int .u64 (e.vl : Int)) from rfl)
  have ql := HE.out.lt
  go_wp2_with fail
  refine (HRI.out _).mono ?_
  rintro e1 w5 ⟨rfl, hbm⟩
  clear q0 q1 q2 q3 q4 ql
  replace H5 := Lib.hid (H5.out.below hbm H5.out.lt)
  replace HO := Lib.hid (owned_below HO.out hbm)
  replace HG := Lib.hid (HG.out.below hbm HG.out.lt)
  replace HE := Lib.hid (HE.out.below hbm HE.out.lt)
  replace H4 := Lib.hid (H4.out.below hbm H4.out.lt)
  replace HB := Lib.hid (HB.out.trans (hbm.mono HB.out.size))
  clear hbm HRI
  clear wq
  have q0 := (HE.out.cell 0).trans (show _ = some (Value.int .i64 e.th) from rfl)
  have q1 := (HE.out.cell 1).trans (show _ = some (Value.int .i64 e.kd) from rfl)
  have q2 := (HE.out.cell 2).trans (show _ = some (Value.int .i64 e.rg) from rfl)
  have q3 := (HE.out.cell 3).trans (show _ = some (Value.int .u64 (e.tk : Int)) from rfl)
  have q4 := (HE.out.cell 4).trans (show _ = some (Value.int .u64 (e.vl : Int)) from rfl)
  have ql := HE.out.lt
  have k0 := (H5.out.cell 0).trans (show _ = some (.int .i64 (reqA l y).kd) from rfl)
  have k1 := (H5.out.cell 1).trans (show _ = some (.int .i64 (reqA l y).rg) from rfl)
  have k2 := (H5.out.cell 2).trans (show _ = some (.int .i64 (reqA l y).md) from rfl)
  have k3 := (H5.out.cell 3).trans (show _ = some (.int .i64 (reqA l y).rd) from rfl)
  have k4 := (H5.out.cell 4).trans (show _ = some (.int .u64 ((reqA l y).tk : Int)) from rfl)
  have k5 := (H5.out.cell 5).trans (show _ = some (.int .u64 ((reqA l y).vl : Int)) from rfl)
  have kl := H5.out.lt
  go_wp2_with fail
  refine (HMT2.out _).mono ?_
  rintro e1 wq ⟨rfl, hbm⟩
  clear q0 q1 q2 q3 q4 ql
  clear k0 k1 k2 k3 k4 k5 kl
  replace HO := Lib.hid (owned_below HO.out hbm)
  replace HG := Lib.hid (HG.out.below hbm HG.out.lt)
  replace HE := Lib.hid (HE.out.below hbm HE.out.lt)
  replace H4 := Lib.hid (H4.out.below hbm H4.out.lt)
  replace HB := Lib.hid (HB.out.trans (hbm.mono HB.out.size))
  clear hbm HMT2 H5 w5
  have hmt := HF.out
  obtain ⟨hys, hat⟩ := fit_at hmt (by rw [HKD.out]; decide)
  obtain ⟨an, han⟩ : ∃ n : Nat, y.at_ = n := ⟨y.at_.toNat, by have := HIV.out.1; omega⟩
  have han2 : (an : Int) < (l.length : Int) := by have := HIV.out.2.1; omega
  obtain ⟨i, hi⟩ : ∃ i, l[an]? = some i := ⟨_, List.getElem?_eq_getElem (by omega)⟩
  have hgt := atT_get han hi
  have HR := ((codeB_parts HCD.out).2 i (List.mem_of_getElem? hi)).1
  have hih := HH.out _ HB.out
  obtain ⟨b, off, rfl, hbl, hg⟩ := InsAt.at_ hih hi
  have HGI := Lib.hid (fun (q : World) (hq : Below wq.heap.size wq q) (j : Nat) (u : Value) (hj : j < 6) (hu : (inF i)[j]? = some u) => cell_later (hg j u hj hu) hq)
  have hal : (an : Int) < (l.length : Int) := han2
  have HAN := Lib.hid han
  have hab := right_ab HR
  have hy256 : y.at_ ≤ 256 := by omega
  have hy0 : 0 ≤ y.at_ := by omega
  have HFN := Lib.hid (fun q hl ho hb => fin12 i y e v A' c' (w.heap.size) (w.heap.size) q hl ho (by rw [HNE.out]; exact hn6) hy0 hy256 HKD.out (Nat.le_refl _) hb)
  rw [HNE.out] at HFN
  have hKx := HKD.out
  have j1 : (e.kd == 1) = false := by rw [beq_eq_false_iff_ne]; omega
  have j3 : (e.kd == 3) = false := by rw [beq_eq_false_iff_ne]; omega
  have j14 : (e.kd == 14) = false := by rw [beq_eq_false_iff_ne]; omega
  have j15 : (e.kd == 15) = false := by rw [beq_eq_false_iff_ne]; omega
  clear hKx
  have HBE : Hid (behT (atT l y) y e v = (endT (seeT y e.vl))) := by show _ = _; rw [hgt]; unfold behT; rw [HKD.out]; simp
  clear hmt hys hat hi hgt HR hih hbl hg hab hy256 hy0 han HF HIV HCD HOK
  have q0 := (HE.out.cell 0).trans (show _ = some (Value.int .i64 e.th) from rfl)
  have q1 := (HE.out.cell 1).trans (show _ = some (Value.int .i64 e.kd) from rfl)
  have q2 := (HE.out.cell 2).trans (show _ = some (Value.int .i64 e.rg) from rfl)
  have q3 := (HE.out.cell 3).trans (show _ = some (Value.int .u64 (e.tk : Int)) from rfl)
  have q4 := (HE.out.cell 4).trans (show _ = some (Value.int .u64 (e.vl : Int)) from rfl)
  have ql := HE.out.lt
  have g0 := HGI.out wq (Below.refl _ _) 0 _ (by decide) rfl
  have g1 := HGI.out wq (Below.refl _ _) 1 _ (by decide) rfl
  have g2 := HGI.out wq (Below.refl _ _) 2 _ (by decide) rfl
  have g3 := HGI.out wq (Below.refl _ _) 3 _ (by decide) rfl
  have g4 := HGI.out wq (Below.refl _ _) 4 _ (by decide) rfl
  have g5 := HGI.out wq (Below.refl _ _) 5 _ (by decide) rfl
  rw [Nat.add_zero] at g0
  have c0 := (HG.out.cell 0).trans (show _ = some (Value.int .i64 y.at_) from rfl)
  rw [HAN.out] at c0
  have cl := HG.out.lt
  go_wp2_with fail
  go_still_tail 7, (by kernel_rfl)
  clear q0 q1 q2 q3 q4 ql
  clear g0 g1 g2 g3 g4 g5 c0 cl
  clear j1 j3 j14 j15
  replace HG := Lib.hid HG.out.drew
  replace H4 := Lib.hid H4.out.drew
  replace HO := Lib.hid (owns_drew HO.out)
  replace HB := Lib.hid HB.out.drew
  generalize hw9 : wq.drew = w9 at *
  go_wp2_with fail
  refine (HFN.out _ HG.out HO.out HB.out.size).mono ?_
  rintro e1 wE ⟨rfl, A2, k2, hl2, ho2, hb2, hk2⟩
  replace H4 := Lib.hid (H4.out.kept hk2 (fun e => by
    rcases e with e | e
    · omega
    · exact own_ne HO.out H4.out (by decide) e))
  replace HB := Lib.hid (HB.out.trans hb2)
  replace HG := Lib.hid hl2
  replace HO := Lib.hid ho2
  clear hl2 ho2 hb2 hk2 HE HGI HFN
  replace HO : Hid (World.ownsRow wE w.heap.size 23 1 (.slice A2 (n + 1) k2) (n + 1) (cells64 ((endT (seeT y e.vl))).sn)) := HO
  have HZN : Hid (((endT (seeT y e.vl))).sn.length = (n + 1)) := by show (y.sn ++ [e.vl]).length = _; rw [List.length_append, HNE.out]; rfl
  have c0 := (HG.out.cell 0).trans (show _ = some (Value.int .i64 (endT (seeT y e.vl)).at_) from rfl)
  have c1 := (HG.out.cell 1).trans (show _ = some (Value.int .i64 (endT (seeT y e.vl)).ph) from rfl)
  have c2 := (HG.out.cell 2).trans (show _ = some (Value.int .i64 (endT (seeT y e.vl)).rg) from rfl)
  have c3 := (HG.out.cell 3).trans (show _ = some (Value.int .i64 (endT (seeT y e.vl)).st) from rfl)
  have c4 := (HG.out.cell 4).trans (show _ = some (Value.int .u64 ((endT (seeT y e.vl)).tk : Int)) from rfl)
  have c5 := (HG.out.cell 5).trans (show _ = some (Value.int .u64 ((endT (seeT y e.vl)).r 0 : Int)) from rfl)
  have c6 := (HG.out.cell 6).trans (show _ = some (Value.int .u64 ((endT (seeT y e.vl)).r 1 : Int)) from rfl)
  have c7 := (HG.out.cell 7).trans (show _ = some (Value.int .u64 ((endT (seeT y e.vl)).r 2 : Int)) from rfl)
  have c8 := (HG.out.cell 8).trans (show _ = some (Value.int .u64 ((endT (seeT y e.vl)).r 3 : Int)) from rfl)
  have c9 := (HG.out.cell 9).trans (show _ = some (Value.int .u64 ((endT (seeT y e.vl)).r 4 : Int)) from rfl)
  have c10 := (HG.out.cell 10).trans (show _ = some (Value.int .u64 ((endT (seeT y e.vl)).r 5 : Int)) from rfl)
  have c11 := (HG.out.cell 11).trans (show _ = some (Value.int .u64 ((endT (seeT y e.vl)).r 6 : Int)) from rfl)
  have c12 := (HG.out.cell 12).trans (show _ = some (Value.int .u64 ((endT (seeT y e.vl)).r 7 : Int)) from rfl)
  have c13 := (HG.out.cell 13).trans (show _ = some ((.slice A2 (n + 1) k2)) from rfl)
  have cl := HG.out.lt
  go_wp2_with (
    refine wpList_store_row rfl 27 _ _ rfl (w.heap.size + 1 + 1) (thC (endT (seeT y e.vl)) (.slice A2 (n + 1) k2)) rfl rfl 27 thZ H4.out infoTh rfl (thC_one _ rfl) ?_
    clear c0 c1 c2 c3 c4 c5 c6 c7 c8 c9 c10 c11 c12 c13 cl
    have hk9 := kept_rowT (w := wE) (g := w.heap.size + 1 + 1) (thC (endT (seeT y e.vl)) (.slice A2 (n + 1) k2))
    have HBZ := Lib.hid (HB.out.trans (hk9.below HB.out.size (fun k hk (e : k = w.heap.size + 1 + 1) => by omega)))
    have Q4 := Lib.hid (lies_row H4.out (thC (endT (seeT y e.vl)) (.slice A2 (n + 1) k2)))
    have HOZ := Lib.hid (owns_kept HO.out hk9 (fun r cur hr hl (e : r = w.heap.size + 1 + 1) => by subst e; exact absurd (hl.same H4.out).1 (by decide)))
    clear hk9
    generalize wE.setRow (w.heap.size + 1 + 1) (thC (endT (seeT y e.vl)) (.slice A2 (n + 1) k2)) = wF at *
    clear HB H4 HG HO
    generalize hz9 : (endT (seeT y e.vl)) = Z9 at *
    have z0 := (Q4.out.cell 0).trans (show _ = some (Value.int .i64 Z9.at_) from rfl)
    have z1 := (Q4.out.cell 1).trans (show _ = some (Value.int .i64 Z9.ph) from rfl)
    have z2 := (Q4.out.cell 2).trans (show _ = some (Value.int .i64 Z9.rg) from rfl)
    have z3 := (Q4.out.cell 3).trans (show _ = some (Value.int .i64 Z9.st) from rfl)
    have z4 := (Q4.out.cell 4).trans (show _ = some (Value.int .u64 (Z9.tk : Int)) from rfl)
    have z5 := (Q4.out.cell 5).trans (show _ = some (Value.int .u64 (Z9.r 0 : Int)) from rfl)
    have z6 := (Q4.out.cell 6).trans (show _ = some (Value.int .u64 (Z9.r 1 : Int)) from rfl)
    have z7 := (Q4.out.cell 7).trans (show _ = some (Value.int .u64 (Z9.r 2 : Int)) from rfl)
    have z8 := (Q4.out.cell 8).trans (show _ = some (Value.int .u64 (Z9.r 3 : Int)) from rfl)
    have z9 := (Q4.out.cell 9).trans (show _ = some (Value.int .u64 (Z9.r 4 : Int)) from rfl)
    have z10 := (Q4.out.cell 10).trans (show _ = some (Value.int .u64 (Z9.r 5 : Int)) from rfl)
    have z11 := (Q4.out.cell 11).trans (show _ = some (Value.int .u64 (Z9.r 6 : Int)) from rfl)
    have z12 := (Q4.out.cell 12).trans (show _ = some (Value.int .u64 (Z9.r 7 : Int)) from rfl)
    have z13 := (Q4.out.cell 13).trans (show _ = some ((.slice A2 (n + 1) k2)) from rfl)
    have zl := Q4.out.lt
    go_wp2
    exact bodyPost_ret (v := .tuple #[.agg (thC Z9 (.slice A2 (n + 1) k2)), .int .i64 0]) (by simp [results, Try.results18, go_sem, z0, z1, z2, z3, z4, z5, z6, z7, z8, z9, z10, z11, z12, z13]) rfl ⟨_, _, by rw [HYE.out, HBE.out, HZN.out], by rw [HYE.out, HBE.out, HZN.out]; exact HOZ.out, HBZ.out⟩)
end Go.Proofs.Ytiegmpjoiekekaa
/-
  What an event makes of a thread (layer 16): thread.Do: all other events.
-/
namespace Go.Proofs.Ytiegmpjoiekekaa
open Go.RowKit
set_option linter.unusedVariables false
set_option linter.unusedSimpArgs false
set_option maxHeartbeats 8000000 in
set_option maxRecDepth 100000 in
theorem do16kF (l : List In) (A : Option Addr) (c : Nat) (x : Th) (S : Option Addr) (cs : Nat) (e : Ev) (v : Nat) (w : World) (h : InsAt w A c l) (hok : ∀ i ∈ l, inOk i) (hx : thOk x) (hs : SeqS w 1 (.slice S x.sn.length cs) x.sn.length (cells64 x.sn)) (hl : x.sn.length ≤ 1000000) (hr : thB l x = true) (hre : rightE e = true) (hf : fitB (reqA l (nxT l x)) e = true) (hk : e.kd ≠ 1 ∧ e.kd ≠ 3 ∧ e.kd ≠ 14 ∧ e.kd ≠ 15 ∧ e.kd ≠ 12) (hkk : 1 ≤ e.kd ∧ e.kd ≤ 15) :
    Calls Try.prog 18 #[.slice A l.length c, .agg (thC x (.slice S x.sn.length cs)), .agg (evC e), .int .u64 (v : Int)] w fun q w' => ∃ A' c', q = .returned (.tuple #[.agg (thC (behT (atT l (nxT l x)) (nxT l x) e v) (.slice A' (behT (atT l (nxT l x)) (nxT l x) e v).sn.length c')), .int .i64 0]) ∧ w'.ownsRow w.heap.size 23 1 (.slice A' (behT (atT l (nxT l x)) (nxT l x) e v).sn.length c') (behT (atT l (nxT l x)) (nxT l x) e v).sn.length (cells64 (behT (atT l (nxT l x)) (nxT l x) e v).sn) ∧ Below w.heap.size w w' := by
  obtain ⟨hc1, hc2⟩ := seq_form h
  have hb3 : Below w.heap.size w (((w.alloc (.cells (thC x (.slice S x.sn.length cs)) 27)).alloc (.cells (evC e) 42)).alloc (.cells thZ 27)) := (((Below.refl _ _).alloc (Nat.le_refl _) _).alloc (by simp) _).alloc (by simp; omega) _
  have l1 := ((Lies.made w 27 (thC x (.slice S x.sn.length cs))).alloc (.cells (evC e) 42)).alloc (.cells thZ 27)
  have l2 := (Lies.made (w.alloc (.cells (thC x (.slice S x.sn.length cs)) 27)) 42 (evC e)).alloc (.cells thZ 27)
  have l3 := Lies.made ((w.alloc (.cells (thC x (.slice S x.sn.length cs)) 27)).alloc (.cells (evC e) 42)) 27 thZ
  rw [show (w.alloc (.cells (thC x (.slice S x.sn.length cs)) 27)).heap.size = w.heap.size + 1 by simp] at l2
  rw [show ((w.alloc (.cells (thC x (.slice S x.sn.length cs)) 27)).alloc (.cells (evC e) 42)).heap.size = w.heap.size + 1 + 1 by simp] at l3
  have HB := Lib.hid hb3
  have HG := Lib.hid l1
  have HE := Lib.hid l2
  have H4 := Lib.hid l3
  have HH := Lib.hid (fun (q : World) (hq : Below w.heap.size w q) => h.later hq)
  clear hb3 l1 l2 l3
  have hnf := nxT_facts hr hx hok
  have HNX := Lib.hid (fun q hq hs => next16 l A c x S cs q hq hok hx hs hl hr)
  have HSQ := Lib.hid (fun (q : World) (hq : Below w.heap.size w q) => hs.later hq)
  have HRI := Lib.hid (fun q => right15 e q)
  rw [hre] at HRI
  have HMT := Lib.hid (fun q => matches16 (reqA l (nxT l x)) e q)
  rw [hf] at HMT
  have HKD := Lib.hid hk
  clear hk
  have HKR := Lib.hid hkk
  clear hkk
  have HF := Lib.hid hf
  clear hre hf
  obtain ⟨n, hn⟩ : ∃ n, x.sn.length = n := ⟨_, rfl⟩
  have HNE : Hid ((nxT l x).sn.length = n) := by show _ = _; rw [hnf.2.2, hn]
  have HSE : Hid (cells64 x.sn = cells64 (nxT l x).sn) := by show _ = _; rw [hnf.2.2]
  have HIV := Lib.hid hnf.1
  have HCD := Lib.hid (thB_parts hr).1
  have hlen := (codeB_parts HCD.out).1
  have HOK := Lib.hid hok
  have hn6 : n ≤ 1000000 := by omega
  have HNN := Lib.hid hn
  clear h hs hl hr hx hok hnf hn
  go_enter Try.func18, Try.ntmps18
  go_upto_region 1 with (fail)
  generalize (((w.alloc (.cells (thC x (.slice S x.sn.length cs)) 27)).alloc (.cells (evC e) 42)).alloc (.cells thZ 27)) = w1 at *
  have c0 := (HG.out.cell 0).trans (show _ = some (Value.int .i64 x.at_) from rfl)
  have c1 := (HG.out.cell 1).trans (show _ = some (Value.int .i64 x.ph) from rfl)
  have c2 := (HG.out.cell 2).trans (show _ = some (Value.int .i64 x.rg) from rfl)
  have c3 := (HG.out.cell 3).trans (show _ = some (Value.int .i64 x.st) from rfl)
  have c4 := (HG.out.cell 4).trans (show _ = some (Value.int .u64 (x.tk : Int)) from rfl)
  have c5 := (HG.out.cell 5).trans (show _ = some (Value.int .u64 (x.r 0 : Int)) from rfl)
  have c6 := (HG.out.cell 6).trans (show _ = some (Value.int .u64 (x.r 1 : Int)) from rfl)
  have c7 := (HG.out.cell 7).trans (show _ = some (Value.int .u64 (x.r 2 : Int)) from rfl)
  have c8 := (HG.out.cell 8).trans (show _ = some (Value.int .u64 (x.r 3 : Int)) from rfl)
  have c9 := (HG.out.cell 9).trans (show _ = some (Value.int .u64 (x.r 4 : Int)) from rfl)
  have c10 := (HG.out.cell 10).trans (show _ = some (Value.int .u64 (x.r 5 : Int)) from rfl)
  have c11 := (HG.out.cell 11).trans (show _ = some (Value.int .u64 (x.r 6 : Int)) from rfl)
  have c12 := (HG.out.cell 12).trans (show _ = some (Value.int .u64 (x.r 7 : Int)) from rfl)
  have c13 := (HG.out.cell 13).trans (show _ = some ((.slice S x.sn.length cs)) from rfl)
  have cl := HG.out.lt
  go_wp2_with fail
  refine (HNX.out _ (HH.out _ HB.out) (HSQ.out _ HB.out)).mono ?_
  rintro e1 w2 ⟨A', c', rfl, ho, hbm⟩
  have HN2 : Hid (w.heap.size + 1 + 1 < w2.heap.size) := Nat.lt_of_lt_of_le H4.out.lt hbm.size
  have HO0 := owns_mono ho HB.out.size
  rw [HSE.out] at HO0
  rw [HNN.out] at HO0 ⊢
  have HO := Lib.hid HO0
  replace HG := Lib.hid (HG.out.below hbm HG.out.lt)
  replace HE := Lib.hid (HE.out.below hbm HE.out.lt)
  replace H4 := Lib.hid (H4.out.below hbm H4.out.lt)
  replace HB := Lib.hid (HB.out.trans (hbm.mono HB.out.size))
  clear hbm HNX HSQ ho HO0 HSE
  generalize hyy : nxT l x = y at *
  have HYE := Lib.hid hyy
  clear hyy
  have HMT2 := HMT
  clear HMT
  clear c0 c1 c2 c3 c4 c5 c6 c7 c8 c9 c10 c11 c12 c13 cl
  have hba := (Below.refl w2.heap.size w2).alloc (Nat.le_refl _) (.cells akZ 31)
  have H5 := Lib.hid (Lies.made w2 31 akZ)
  replace HG := Lib.hid (HG.out.below hba HG.out.lt)
  replace HE := Lib.hid (HE.out.below hba HE.out.lt)
  replace H4 := Lib.hid (H4.out.below hba H4.out.lt)
  replace HB := Lib.hid (HB.out.trans (hba.mono HB.out.size))
  replace HO := Lib.hid (owned_below HO.out hba)
  have hn5 : w.heap.size + 1 + 1 < w2.heap.size := HN2.out
  clear hba HN2
  generalize hw3 : w2.alloc (.cells akZ 31) = w3 at *
  generalize hn5e : w2.heap.size = n5 at *
  have hk4 := kept_rowT (w := w3) (g := w.heap.size) (thC y (.slice A' n c'))
  have HO2 := Lib.hid (owns_kept HO.out hk4 (fun r cur hr hl (e : r = w.heap.size) => by subst e; exact absurd (hl.same HG.out).1 (by decide)))
  have HG2 := Lib.hid (lies_row HG.out (thC y (.slice A' n c')))
  have HE2 := Lib.hid (HE.out.kept hk4 (fun (e : w.heap.size + 1 = w.heap.size) => by omega))
  have H42 := Lib.hid (H4.out.kept hk4 (fun (e : w.heap.size + 1 + 1 = w.heap.size) => by omega))
  have H5B := Lib.hid (H5.out.kept hk4 (fun (e : n5 = w.heap.size) => by omega))
  have HB2 := Lib.hid (HB.out.trans (hk4.below HB.out.size (fun k hk (e : k = w.heap.size) => by omega)))
  clear hk4
  go_upto_region 2 with (first | refine wpList_store_row rfl 27 _ _ rfl (w.heap.size) (thC y (.slice A' n c')) rfl rfl 27 (thC x (.slice S x.sn.length cs)) HG.out infoTh rfl (thC_one _ rfl) ?_ | refine wpList_store_row rfl 31 _ _ rfl n5 (akC (reqA l y)) rfl rfl 31 akZ H5B.out infoAk rfl (akC_one _) ?_)
  clear HG HE H4 H5 HB HO
  generalize w3.setRow (w.heap.size) (thC y (.slice A' n c')) = w4 at *
  have hk5 := kept_rowT (w := w4) (g := n5) (akC (reqA l y))
  have HO := Lib.hid (owns_kept HO2.out hk5 (fun r cur hr hl (e : r = n5) => by subst e; exact absurd (hl.same H5B.out).1 (by decide)))
  clear HO2
  have HG := Lib.hid (HG2.out.kept hk5 (fun (e : w.heap.size = n5) => by omega))
  have HE := Lib.hid (HE2.out.kept hk5 (fun (e : w.heap.size + 1 = n5) => by omega))
  have H4 := Lib.hid (H42.out.kept hk5 (fun (e : w.heap.size + 1 + 1 = n5) => by omega))
  have H5 := Lib.hid (lies_row H5B.out (akC (reqA l y)))
  have HB := Lib.hid (HB2.out.trans (hk5.below HB2.out.size (fun k hk (e : k = n5) => by omega)))
  clear hk5 HG2 HE2 H42 H5B HB2
  generalize w4.setRow n5 (akC (reqA l y)) = wq at *
  have q0 := (HE.out.cell 0).trans (show _ = some (Value.int .i64 e.th) from rfl)
  have q1 := (HE.out.cell 1).trans (show _ = some (Value.int .i64 e.kd) from rfl)
  have q2 := (HE.out.cell 2).trans (show _ = some (Value.int .i64 e.rg) from rfl)
  have q3 := (HE.out.cell 3).trans (show _ = some (Value.int .u64 (e.tk : Int)) from rfl)
  have q4 := (HE.out.cell 4).trans (show _ = some (Value.int .u64 (e.vl : Int)) from rfl)
  have ql := HE.out.lt
  go_wp2_with fail
  refine (HRI.out _).mono ?_
  rintro e1 w5 ⟨rfl, hbm⟩
  clear q0 q1 q2 q3 q4 ql
  replace H5 := Lib.hid (H5.out.below hbm H5.out.lt)
  replace HO := Lib.hid (owned_below HO.out hbm)
  replace HG := Lib.hid (HG.out.below hbm HG.out.lt)
  replace HE := Lib.hid (HE.out.below hbm HE.out.lt)
  replace H4 := Lib.hid (H4.out.below hbm H4.out.lt)
  replace HB := Lib.hid (HB.out.trans (hbm.mono HB.out.size))
  clear hbm HRI
  clear wq
  have q0 := (HE.out.cell 0).trans (show _ = some (Value.int .i64 e.th) from rfl)
  have q1 := (HE.out.cell 1).trans (show _ = some (Value.int .i64 e.kd) from rfl)
  have q2 := (HE.out.cell 2).trans (show _ = some (Value.int .i64 e.rg) from rfl)
  have q3 := (HE.out.cell 3).trans (show _ = some (Value.int .u64 (e.tk : Int)) from rfl)
  have q4 := (HE.out.cell 4).trans (show _ = some (Value.int .u64 (e.vl : Int)) from rfl)
  have ql := HE.out.lt
  have k0 := (H5.out.cell 0).trans (show _ = some (.int .i64 (reqA l y).kd) from rfl)
  have k1 := (H5.out.cell 1).trans (show _ = some (.int .i64 (reqA l y).rg) from rfl)
  have k2 := (H5.out.cell 2).trans (show _ = some (.int .i64 (reqA l y).md) from rfl)
  have k3 := (H5.out.cell 3).trans (show _ = some (.int .i64 (reqA l y).rd) from rfl)
  have k4 := (H5.out.cell 4).trans (show _ = some (.int .u64 ((reqA l y).tk : Int)) from rfl)
  have k5 := (H5.out.cell 5).trans (show _ = some (.int .u64 ((reqA l y).vl : Int)) from rfl)
  have kl := H5.out.lt
  go_wp2_with fail
  refine (HMT2.out _).mono ?_
  rintro e1 wq ⟨rfl, hbm⟩
  clear q0 q1 q2 q3 q4 ql
  clear k0 k1 k2 k3 k4 k5 kl
  replace HO := Lib.hid (owned_below HO.out hbm)
  replace HG := Lib.hid (HG.out.below hbm HG.out.lt)
  replace HE := Lib.hid (HE.out.below hbm HE.out.lt)
  replace H4 := Lib.hid (H4.out.below hbm H4.out.lt)
  replace HB := Lib.hid (HB.out.trans (hbm.mono HB.out.size))
  clear hbm HMT2 H5 w5
  have hmt := HF.out
  obtain ⟨hys, hat⟩ := fit_at hmt (HKD.out.2.2.1)
  obtain ⟨an, han⟩ : ∃ n : Nat, y.at_ = n := ⟨y.at_.toNat, by have := HIV.out.1; omega⟩
  have han2 : (an : Int) < (l.length : Int) := by have := HIV.out.2.1; omega
  obtain ⟨i, hi⟩ : ∃ i, l[an]? = some i := ⟨_, List.getElem?_eq_getElem (by omega)⟩
  have hgt := atT_get han hi
  have HR := ((codeB_parts HCD.out).2 i (List.mem_of_getElem? hi)).1
  have hih := HH.out _ HB.out
  obtain ⟨b, off, rfl, hbl, hg⟩ := InsAt.at_ hih hi
  have HGI := Lib.hid (fun (q : World) (hq : Below wq.heap.size wq q) (j : Nat) (u : Value) (hj : j < 6) (hu : (inF i)[j]? = some u) => cell_later (hg j u hj hu) hq)
  have hal : (an : Int) < (l.length : Int) := han2
  have HAN := Lib.hid han
  have hab := right_ab HR
  have hy256 : y.at_ ≤ 256 := by omega
  have hy0 : 0 ≤ y.at_ := by omega
  have hkx := HKD.out
  have hkr := HKR.out
  have HFN := Lib.hid (fun q hl => finish16 i y e v (.slice A' n c') (w.heap.size) q hl hy0 hy256 (fun _ => hab.1) (fun _ => hab.2) (by omega))
  have HBE : Hid (behT (atT l y) y e v = (endT (regT i y e v))) := by show _ = _; rw [hgt]; unfold behT; rw [if_neg hkx.1, if_neg hkx.2.1, if_neg hkx.2.2.1, if_neg hkx.2.2.2.1, if_neg hkx.2.2.2.2]
  have j1 : (e.kd == 1) = false := by rw [beq_eq_false_iff_ne]; exact hkx.1
  have j3 : (e.kd == 3) = false := by rw [beq_eq_false_iff_ne]; exact hkx.2.1
  have j14 : (e.kd == 14) = false := by rw [beq_eq_false_iff_ne]; exact hkx.2.2.1
  have j15 : (e.kd == 15) = false := by rw [beq_eq_false_iff_ne]; exact hkx.2.2.2.1
  clear hkx hkr
  clear hmt hys hat hi hgt HR hih hbl hg hab hy256 hy0 han HF HIV HCD HOK
  have q0 := (HE.out.cell 0).trans (show _ = some (Value.int .i64 e.th) from rfl)
  have q1 := (HE.out.cell 1).trans (show _ = some (Value.int .i64 e.kd) from rfl)
  have q2 := (HE.out.cell 2).trans (show _ = some (Value.int .i64 e.rg) from rfl)
  have q3 := (HE.out.cell 3).trans (show _ = some (Value.int .u64 (e.tk : Int)) from rfl)
  have q4 := (HE.out.cell 4).trans (show _ = some (Value.int .u64 (e.vl : Int)) from rfl)
  have ql := HE.out.lt
  have g0 := HGI.out wq (Below.refl _ _) 0 _ (by decide) rfl
  have g1 := HGI.out wq (Below.refl _ _) 1 _ (by decide) rfl
  have g2 := HGI.out wq (Below.refl _ _) 2 _ (by decide) rfl
  have g3 := HGI.out wq (Below.refl _ _) 3 _ (by decide) rfl
  have g4 := HGI.out wq (Below.refl _ _) 4 _ (by decide) rfl
  have g5 := HGI.out wq (Below.refl _ _) 5 _ (by decide) rfl
  rw [Nat.add_zero] at g0
  have c0 := (HG.out.cell 0).trans (show _ = some (Value.int .i64 y.at_) from rfl)
  rw [HAN.out] at c0
  have cl := HG.out.lt
  go_wp2_with fail
  go_still_tail 7, (by kernel_rfl)
  clear q0 q1 q2 q3 q4 ql
  clear g0 g1 g2 g3 g4 g5 c0 cl
  clear j1 j3 j14 j15
  replace HG := Lib.hid HG.out.drew
  replace H4 := Lib.hid H4.out.drew
  replace HO := Lib.hid (owns_drew HO.out)
  replace HB := Lib.hid HB.out.drew
  generalize hw9 : wq.drew = w9 at *
  go_wp2_with fail
  refine (HFN.out _ HG.out).mono ?_
  rintro e1 wE ⟨rfl, hl2, hk2⟩
  replace H4 := Lib.hid (H4.out.kept hk2 (fun (e : w.heap.size + 1 + 1 = w.heap.size) => by omega))
  replace HO := Lib.hid (owns_kept HO.out hk2 (fun r cur hr hl (e : r = w.heap.size) => by subst e; exact absurd (hl.same HG.out).1 (by decide)))
  replace HB := Lib.hid (HB.out.trans (hk2.below HB.out.size (fun k hk (e : k = w.heap.size) => by omega)))
  replace HG := Lib.hid hl2
  have HRSN : Hid ((endT (regT i y e v)).sn = y.sn) := regT_sn i y e v
  clear hl2 hk2 HE HGI HFN
  replace HO : Hid (World.ownsRow wE w.heap.size 23 1 (.slice A' n c') n (cells64 ((endT (regT i y e v))).sn)) := by show World.ownsRow _ _ _ _ _ _ _; rw [HRSN.out]; exact HO.out
  have HZN : Hid (((endT (regT i y e v))).sn.length = n) := by show _ = _; rw [HRSN.out]; exact HNE.out
  have c0 := (HG.out.cell 0).trans (show _ = some (Value.int .i64 (endT (regT i y e v)).at_) from rfl)
  have c1 := (HG.out.cell 1).trans (show _ = some (Value.int .i64 (endT (regT i y e v)).ph) from rfl)
  have c2 := (HG.out.cell 2).trans (show _ = some (Value.int .i64 (endT (regT i y e v)).rg) from rfl)
  have c3 := (HG.out.cell 3).trans (show _ = some (Value.int .i64 (endT (regT i y e v)).st) from rfl)
  have c4 := (HG.out.cell 4).trans (show _ = some (Value.int .u64 ((endT (regT i y e v)).tk : Int)) from rfl)
  have c5 := (HG.out.cell 5).trans (show _ = some (Value.int .u64 ((endT (regT i y e v)).r 0 : Int)) from rfl)
  have c6 := (HG.out.cell 6).trans (show _ = some (Value.int .u64 ((endT (regT i y e v)).r 1 : Int)) from rfl)
  have c7 := (HG.out.cell 7).trans (show _ = some (Value.int .u64 ((endT (regT i y e v)).r 2 : Int)) from rfl)
  have c8 := (HG.out.cell 8).trans (show _ = some (Value.int .u64 ((endT (regT i y e v)).r 3 : Int)) from rfl)
  have c9 := (HG.out.cell 9).trans (show _ = some (Value.int .u64 ((endT (regT i y e v)).r 4 : Int)) from rfl)
  have c10 := (HG.out.cell 10).trans (show _ = some (Value.int .u64 ((endT (regT i y e v)).r 5 : Int)) from rfl)
  have c11 := (HG.out.cell 11).trans (show _ = some (Value.int .u64 ((endT (regT i y e v)).r 6 : Int)) from rfl)
  have c12 := (HG.out.cell 12).trans (show _ = some (Value.int .u64 ((endT (regT i y e v)).r 7 : Int)) from rfl)
  have c13 := (HG.out.cell 13).trans (show _ = some ((.slice A' n c')) from rfl)
  have cl := HG.out.lt
  go_wp2_with (
    refine wpList_store_row rfl 27 _ _ rfl (w.heap.size + 1 + 1) (thC (endT (regT i y e v)) (.slice A' n c')) rfl rfl 27 thZ H4.out infoTh rfl (thC_one _ rfl) ?_
    clear c0 c1 c2 c3 c4 c5 c6 c7 c8 c9 c10 c11 c12 c13 cl
    have hk9 := kept_rowT (w := wE) (g := w.heap.size + 1 + 1) (thC (endT (regT i y e v)) (.slice A' n c'))
    have HBZ := Lib.hid (HB.out.trans (hk9.below HB.out.size (fun k hk (e : k = w.heap.size + 1 + 1) => by omega)))
    have Q4 := Lib.hid (lies_row H4.out (thC (endT (regT i y e v)) (.slice A' n c')))
    have HOZ := Lib.hid (owns_kept HO.out hk9 (fun r cur hr hl (e : r = w.heap.size + 1 + 1) => by subst e; exact absurd (hl.same H4.out).1 (by decide)))
    clear hk9
    generalize wE.setRow (w.heap.size + 1 + 1) (thC (endT (regT i y e v)) (.slice A' n c')) = wF at *
    clear HB H4 HG HO
    clear HRSN
    generalize hz9 : (endT (regT i y e v)) = Z9 at *
    have z0 := (Q4.out.cell 0).trans (show _ = some (Value.int .i64 Z9.at_) from rfl)
    have z1 := (Q4.out.cell 1).trans (show _ = some (Value.int .i64 Z9.ph) from rfl)
    have z2 := (Q4.out.cell 2).trans (show _ = some (Value.int .i64 Z9.rg) from rfl)
    have z3 := (Q4.out.cell 3).trans (show _ = some (Value.int .i64 Z9.st) from rfl)
    have z4 := (Q4.out.cell 4).trans (show _ = some (Value.int .u64 (Z9.tk : Int)) from rfl)
    have z5 := (Q4.out.cell 5).trans (show _ = some (Value.int .u64 (Z9.r 0 : Int)) from rfl)
    have z6 := (Q4.out.cell 6).trans (show _ = some (Value.int .u64 (Z9.r 1 : Int)) from rfl)
    have z7 := (Q4.out.cell 7).trans (show _ = some (Value.int .u64 (Z9.r 2 : Int)) from rfl)
    have z8 := (Q4.out.cell 8).trans (show _ = some (Value.int .u64 (Z9.r 3 : Int)) from rfl)
    have z9 := (Q4.out.cell 9).trans (show _ = some (Value.int .u64 (Z9.r 4 : Int)) from rfl)
    have z10 := (Q4.out.cell 10).trans (show _ = some (Value.int .u64 (Z9.r 5 : Int)) from rfl)
    have z11 := (Q4.out.cell 11).trans (show _ = some (Value.int .u64 (Z9.r 6 : Int)) from rfl)
    have z12 := (Q4.out.cell 12).trans (show _ = some (Value.int .u64 (Z9.r 7 : Int)) from rfl)
    have z13 := (Q4.out.cell 13).trans (show _ = some ((.slice A' n c')) from rfl)
    have zl := Q4.out.lt
    go_wp2
    exact bodyPost_ret (v := .tuple #[.agg (thC Z9 (.slice A' n c')), .int .i64 0]) (by simp [results, Try.results18, go_sem, z0, z1, z2, z3, z4, z5, z6, z7, z8, z9, z10, z11, z12, z13]) rfl ⟨_, _, by rw [HYE.out, HBE.out, HZN.out], by rw [HYE.out, HBE.out, HZN.out]; exact HOZ.out, HBZ.out⟩)
end Go.Proofs.Ytiegmpjoiekekaa
/-
  What an event makes of a thread (layer 16): thread.Do, at any event that is waited for.
-/
namespace Go.Proofs.Ytiegmpjoiekekaa
open Go.RowKit
set_option linter.unusedVariables false
set_option linter.unusedSimpArgs false
theorem right_kind {e : Ev} (h : rightE e = true) : 1 ≤ e.kd ∧ e.kd ≤ 15 := by
  unfold rightE at h
  rw [Bool.and_eq_true] at h
  have h1 := h.1
  unfold kindB at h1
  rw [Bool.and_eq_true, decide_eq_true_eq, decide_eq_true_eq] at h1
  exact h1
theorem do16ok (l : List In) (A : Option Addr) (c : Nat) (x : Th) (S : Option Addr) (cs : Nat) (e : Ev) (v : Nat) (w : World) (h : InsAt w A c l) (hok : ∀ i ∈ l, inOk i) (hx : thOk x) (hs : SeqS w 1 (.slice S x.sn.length cs) x.sn.length (cells64 x.sn)) (hl : x.sn.length ≤ 1000000) (hr : thB l x = true) (hre : rightE e = true) (hf : fitB (reqA l (nxT l x)) e = true) :
    Calls Try.prog 18 #[.slice A l.length c, .agg (thC x (.slice S x.sn.length cs)), .agg (evC e), .int .u64 (v : Int)] w fun q w' => ∃ A' c', q = .returned (.tuple #[.agg (thC (behT (atT l (nxT l x)) (nxT l x) e v) (.slice A' (behT (atT l (nxT l x)) (nxT l x) e v).sn.length c')), .int .i64 0]) ∧ w'.ownsRow w.heap.size 23 1 (.slice A' (behT (atT l (nxT l x)) (nxT l x) e v).sn.length c') (behT (atT l (nxT l x)) (nxT l x) e v).sn.length (cells64 (behT (atT l (nxT l x)) (nxT l x) e v).sn) ∧ Below w.heap.size w w' := by
  have hkk := right_kind hre
  by_cases k1 : e.kd = 1
  · exact do16k1 l A c x S cs e v w h hok hx hs hl hr hre hf k1
  by_cases k3 : e.kd = 3
  · exact do16k3 l A c x S cs e v w h hok hx hs hl hr hre hf k3
  by_cases k14 : e.kd = 14
  · exact do16k14 l A c x S cs e v w h hok hx hs hl hr hre hf k14
  by_cases k15 : e.kd = 15
  · exact do16k15 l A c x S cs e v w h hok hx hs hl hr hre hf k15
  by_cases k12 : e.kd = 12
  · exact do16k12 l A c x S cs e v w h hok hx hs hl hr hre hf k12
  exact do16kF l A c x S cs e v w h hok hx hs hl hr hre hf ⟨k1, k3, k14, k15, k12⟩ hkk
end Go.Proofs.Ytiegmpjoiekekaa
