

import Derived.Test.YtiegmpjoiekekaaRfnb3
import Derived.Test.YtiegmpjoiekekaaRfnb4
import Derived.Test.YtiegmpjoiekekaaRfnb5
import Derived.Test.YtiegmpjoiekekaaRfnb6
import Derived.Test.YtiegmpjoiekekaaRfe5
import Derived.Test.YtiegmpjoiekekaaThd6
import Derived.Test.YtiegmpjoiekekaaEvrr
import Derived.Test.YtiegmpjoiekekaaThf3
/-
  Up to what is seen (layer 16): the document's Next, of any thread that may stand so.
-/
namespace Go.Proofs.Ytiegmpjoiekekaa
open Go.RowKit
set_option linter.unusedVariables false
set_option linter.unusedSimpArgs false
theorem atT_mem {l : List In} {x : Th} (h0 : 0 ≤ x.at_) (h1 : x.at_ < (l.length : Int)) : atT l x ∈ l := by
  unfold atT
  rw [List.getD_eq_getElem?_getD, List.getElem?_eq_getElem (show x.at_.toNat < l.length by omega)]
  exact List.getElem_mem _
theorem rfNext16 (l : List In) (A : Option Addr) (c : Nat) (x : Th) (v : Value) (w : World) (h : InsAt w A c l) (hok : ∀ i ∈ l, inOk i) (hx : thOk x) (hv : v.oneCell' = true) (hr : thB l x = true) :
    Calls Try.prog 15 #[.slice A l.length c, .agg (thC x v)] w fun e w' => e = .returned (.tuple #[.agg (thC (nxT l x) v), .agg (akC (reqA l (nxT l x)))]) ∧ Below w.heap.size w w' := by
  obtain ⟨hc, hin, hp⟩ := thB_parts hr
  by_cases hs : x.st = 0
  case neg => exact rfNextA l A c x v w h hok hx hv hr hs
  by_cases h1 : x.ph = 1
  · exact rfNextB l A c x v w h hok hx hv hr h1
  by_cases h2 : x.ph = 2
  · exact rfNextC l A c x v w h hok hx hv hr h2
  have h0 : x.ph = 0 := by
    by_cases h0 : x.ph = 0
    · exact h0
    · unfold phB at hp
      rw [if_neg h0, if_neg h1, if_neg h2] at hp
      cases hp
  obtain ⟨i0, i1, _⟩ := goT_inv hc hok 256 x (thB_inv hr hx)
  by_cases he : (goT l 256 x).at_ = (l.length : Int)
  · exact rfNextDE l A c x v w h hok hx hv hr hs h0 he
  have ho := right_op1 ((codeB_parts hc).2 _ (atT_mem i0 (by omega))).1
  have hcs : (atT l (goT l 256 x)).op ≤ 17 ∨ (atT l (goT l 256 x)).op = 18 ∨ (atT l (goT l 256 x)).op = 19 ∨ (atT l (goT l 256 x)).op = 20 ∨ (atT l (goT l 256 x)).op = 21 ∨ (atT l (goT l 256 x)).op = 22 ∨ (atT l (goT l 256 x)).op = 23 ∨ (atT l (goT l 256 x)).op = 24 ∨ (atT l (goT l 256 x)).op = 25 := by omega
  rcases hcs with q | q | q | q | q | q | q | q | q
  · exact rfNextDS l A c x v w h hok hx hv hr hs h0 ⟨he, q⟩
  · exact rfNextD18 l A c x v w h hok hx hv hr hs h0 ⟨he, q⟩
  · exact rfNextD19 l A c x v w h hok hx hv hr hs h0 ⟨he, q⟩
  · exact rfNextD20 l A c x v w h hok hx hv hr hs h0 ⟨he, q⟩
  · exact rfNextD21 l A c x v w h hok hx hv hr hs h0 ⟨he, q⟩
  · exact rfNextD22 l A c x v w h hok hx hv hr hs h0 ⟨he, q⟩
  · exact rfNextD23 l A c x v w h hok hx hv hr hs h0 ⟨he, q⟩
  · exact rfNextD24 l A c x v w h hok hx hv hr hs h0 ⟨he, q⟩
  · exact rfNextD25 l A c x v w h hok hx hv hr hs h0 ⟨he, q⟩
end Go.Proofs.Ytiegmpjoiekekaa
/-
  What an event makes of a thread (layer 16): the document's Do.
-/
namespace Go.Proofs.Ytiegmpjoiekekaa
open Go.RowKit
set_option linter.unusedVariables false
set_option linter.unusedSimpArgs false
theorem beh_at {l : List In} {y : Th} {e : Ev} (hi : InvT l y) (hf : fitB (reqA l y) e = true) : e.kd ≠ 1 ∧ e.kd ≠ 3 ∧ e.kd ≠ 14 ∧ e.kd ≠ 15 → y.at_ < (l.length : Int) := by
  intro h
  have := (fit_at hf h.2.2.1).2
  have := hi.2.1
  omega
theorem reqA_zero {l : List In} {y : Th} {e : Ev} (hf : fitB (reqA l y) e = true) : (reqA l y).kd ≠ 0 := by
  intro h
  have hz : reqA l y = ⟨0, (reqA l y).rg, (reqA l y).md, (reqA l y).rd, (reqA l y).tk, (reqA l y).vl⟩ := by rw [← h]
  rw [hz] at hf
  simp [fitB, mvB] at hf
set_option maxHeartbeats 8000000 in
set_option maxRecDepth 100000 in
theorem rfDoBad (l : List In) (A : Option Addr) (c : Nat) (x : Th) (S : Option Addr) (cs : Nat) (e : Ev) (v : Nat) (w : World) (h : InsAt w A c l) (hok : ∀ i ∈ l, inOk i) (hx : thOk x) (hr : thB l x = false) :
    Calls Try.prog 19 #[.slice A l.length c, .agg (thC x (.slice S x.sn.length cs)), .agg (evC e), .int .u64 (v : Int)] w fun q w' => q = .returned (.tuple #[.agg thZ, .int .i64 1]) ∧ Below w.heap.size w w' := by
  obtain ⟨hc1, hc2⟩ := seq_form h
  have hb3 : Below w.heap.size w (((w.alloc (.cells (thC x (.slice S x.sn.length cs)) 27)).alloc (.cells (evC e) 42)).alloc (.cells thZ 27)) := (((Below.refl _ _).alloc (Nat.le_refl _) _).alloc (by simp) _).alloc (by simp; omega) _
  have l1 := ((Lies.made w 27 (thC x (.slice S x.sn.length cs))).alloc (.cells (evC e) 42)).alloc (.cells thZ 27)
  have l2 := (Lies.made (w.alloc (.cells (thC x (.slice S x.sn.length cs)) 27)) 42 (evC e)).alloc (.cells thZ 27)
  have l3 := Lies.made ((w.alloc (.cells (thC x (.slice S x.sn.length cs)) 27)).alloc (.cells (evC e) 42)) 27 thZ
  rw [show (w.alloc (.cells (thC x (.slice S x.sn.length cs)) 27)).heap.size = w.heap.size + 1 by simp] at l2
  rw [show ((w.alloc (.cells (thC x (.slice S x.sn.length cs)) 27)).alloc (.cells (evC e) 42)).heap.size = w.heap.size + 1 + 1 by simp] at l3
  have HB := Lib.hid hb3
  have HG := Lib.hid l1
  have HE := Lib.hid l2
  have H4 := Lib.hid l3
  have HH := Lib.hid (fun (q : World) (hq : Below w.heap.size w q) => h.later hq)
  have HRT := Lib.hid (fun v0 q hq => rfThRight l A c x v0 q hq hok)
  have HRI := Lib.hid (fun q => rfRight15 e q)
  clear hb3 l1 l2 l3
  rw [hr] at HRT
  clear h hr hok hx
  go_enter Try.func19, Try.ntmps19
  go_upto_region 1 with (fail)
  generalize hw1 : (((w.alloc (.cells (thC x (.slice S x.sn.length cs)) 27)).alloc (.cells (evC e) 42)).alloc (.cells thZ 27)) = w1 at *
  clear hw1
  have c0 := (HG.out.cell 0).trans (show _ = some (Value.int .i64 x.at_) from rfl)
  have c1 := (HG.out.cell 1).trans (show _ = some (Value.int .i64 x.ph) from rfl)
  have c2 := (HG.out.cell 2).trans (show _ = some (Value.int .i64 x.rg) from rfl)
  have c3 := (HG.out.cell 3).trans (show _ = some (Value.int .i64 x.st) from rfl)
  have c4 := (HG.out.cell 4).trans (show _ = some (Value.int .u64 (x.tk : Int)) from rfl)
  have c5 := (HG.out.cell 5).trans (show _ = some (Value.int .u64 (x.r 0 : Int)) from rfl)
  have c6 := (HG.out.cell 6).trans (show _ = some (Value.int .u64 (x.r 1 : Int)) from rfl)
  have c7 := (HG.out.cell 7).trans (show _ = some (Value.int .u64 (x.r 2 : Int)) from rfl)
  have c8 := (HG.out.cell 8).trans (show _ = some (Value.int .u64 (x.r 3 : Int)) from rfl)
  have c9 := (HG.out.cell 9).trans (show _ = some (Value.int .u64 (x.r 4 : Int)) from rfl)
  have c10 := (HG.out.cell 10).trans (show _ = some (Value.int .u64 (x.r 5 : Int)) from rfl)
  have c11 := (HG.out.cell 11).trans (show _ = some (Value.int .u64 (x.r 6 : Int)) from rfl)
  have c12 := (HG.out.cell 12).trans (show _ = some (Value.int .u64 (x.r 7 : Int)) from rfl)
  have c13 := (HG.out.cell 13).trans (show _ = some ((.slice S x.sn.length cs)) from rfl)
  have cl := HG.out.lt
  go_wp2_with fail
  refine (HRT.out _ _ (HH.out _ HB.out)).mono ?_
  rintro e1 wq ⟨rfl, hbm⟩
  clear c0 c1 c2 c3 c4 c5 c6 c7 c8 c9 c10 c11 c12 c13 cl
  replace HG := Lib.hid (HG.out.below hbm HG.out.lt)
  replace HE := Lib.hid (HE.out.below hbm HE.out.lt)
  replace H4 := Lib.hid (H4.out.below hbm H4.out.lt)
  replace HB := Lib.hid (HB.out.trans (hbm.mono HB.out.size))
  clear hbm HRT
  go_wp2_with (
    refine wpList_store_row rfl 27 _ _ rfl (w.heap.size + 1 + 1) thZ rfl rfl 27 thZ H4.out infoTh rfl thZ_one ?_
    have hk9 := kept_rowT (w := wq) (g := w.heap.size + 1 + 1) thZ
    have HBZ := Lib.hid (HB.out.trans (hk9.below HB.out.size (fun k hk (e : k = w.heap.size + 1 + 1) => by omega)))
    have Q4 := Lib.hid (lies_row H4.out thZ)
    clear hk9
    generalize wq.setRow (w.heap.size + 1 + 1) thZ = wE at *
    clear HB H4 HG HE
    have z0 := (Q4.out.cell 0).trans (show _ = some (.int .i64 0) from rfl)
    have z1 := (Q4.out.cell 1).trans (show _ = some (.int .i64 0) from rfl)
    have z2 := (Q4.out.cell 2).trans (show _ = some (.int .i64 0) from rfl)
    have z3 := (Q4.out.cell 3).trans (show _ = some (.int .i64 0) from rfl)
    have z4 := (Q4.out.cell 4).trans (show _ = some (.int .u64 0) from rfl)
    have z5 := (Q4.out.cell 5).trans (show _ = some (.int .u64 0) from rfl)
    have z6 := (Q4.out.cell 6).trans (show _ = some (.int .u64 0) from rfl)
    have z7 := (Q4.out.cell 7).trans (show _ = some (.int .u64 0) from rfl)
    have z8 := (Q4.out.cell 8).trans (show _ = some (.int .u64 0) from rfl)
    have z9 := (Q4.out.cell 9).trans (show _ = some (.int .u64 0) from rfl)
    have z10 := (Q4.out.cell 10).trans (show _ = some (.int .u64 0) from rfl)
    have z11 := (Q4.out.cell 11).trans (show _ = some (.int .u64 0) from rfl)
    have z12 := (Q4.out.cell 12).trans (show _ = some (.int .u64 0) from rfl)
    have z13 := (Q4.out.cell 13).trans (show _ = some (.slice none 0 0) from rfl)
    go_wp2
    exact bodyPost_ret (v := .tuple #[.agg thZ, .int .i64 1]) (by simp [results, Try.results19, go_sem, z0, z1, z2, z3, z4, z5, z6, z7, z8, z9, z10, z11, z12, z13]) rfl ⟨rfl, HBZ.out⟩)
set_option maxHeartbeats 8000000 in
set_option maxRecDepth 100000 in
theorem rfDoForm (l : List In) (A : Option Addr) (c : Nat) (x : Th) (S : Option Addr) (cs : Nat) (e : Ev) (v : Nat) (w : World) (h : InsAt w A c l) (hok : ∀ i ∈ l, inOk i) (hx : thOk x) (hr : thB l x = true) (hre : rightE e = false) :
    Calls Try.prog 19 #[.slice A l.length c, .agg (thC x (.slice S x.sn.length cs)), .agg (evC e), .int .u64 (v : Int)] w fun q w' => q = .returned (.tuple #[.agg thZ, .int .i64 3]) ∧ Below w.heap.size w w' := by
  obtain ⟨hc1, hc2⟩ := seq_form h
  have hb3 : Below w.heap.size w (((w.alloc (.cells (thC x (.slice S x.sn.length cs)) 27)).alloc (.cells (evC e) 42)).alloc (.cells thZ 27)) := (((Below.refl _ _).alloc (Nat.le_refl _) _).alloc (by simp) _).alloc (by simp; omega) _
  have l1 := ((Lies.made w 27 (thC x (.slice S x.sn.length cs))).alloc (.cells (evC e) 42)).alloc (.cells thZ 27)
  have l2 := (Lies.made (w.alloc (.cells (thC x (.slice S x.sn.length cs)) 27)) 42 (evC e)).alloc (.cells thZ 27)
  have l3 := Lies.made ((w.alloc (.cells (thC x (.slice S x.sn.length cs)) 27)).alloc (.cells (evC e) 42)) 27 thZ
  rw [show (w.alloc (.cells (thC x (.slice S x.sn.length cs)) 27)).heap.size = w.heap.size + 1 by simp] at l2
  rw [show ((w.alloc (.cells (thC x (.slice S x.sn.length cs)) 27)).alloc (.cells (evC e) 42)).heap.size = w.heap.size + 1 + 1 by simp] at l3
  have HB := Lib.hid hb3
  have HG := Lib.hid l1
  have HE := Lib.hid l2
  have H4 := Lib.hid l3
  have HH := Lib.hid (fun (q : World) (hq : Below w.heap.size w q) => h.later hq)
  have HRT := Lib.hid (fun v0 q hq => rfThRight l A c x v0 q hq hok)
  have HRI := Lib.hid (fun q => rfRight15 e q)
  clear hb3 l1 l2 l3
  rw [hr] at HRT
  rw [hre] at HRI
  clear h hr hok hx hre
  go_enter Try.func19, Try.ntmps19
  go_upto_region 1 with (fail)
  generalize hw1 : (((w.alloc (.cells (thC x (.slice S x.sn.length cs)) 27)).alloc (.cells (evC e) 42)).alloc (.cells thZ 27)) = w1 at *
  clear hw1
  have c0 := (HG.out.cell 0).trans (show _ = some (Value.int .i64 x.at_) from rfl)
  have c1 := (HG.out.cell 1).trans (show _ = some (Value.int .i64 x.ph) from rfl)
  have c2 := (HG.out.cell 2).trans (show _ = some (Value.int .i64 x.rg) from rfl)
  have c3 := (HG.out.cell 3).trans (show _ = some (Value.int .i64 x.st) from rfl)
  have c4 := (HG.out.cell 4).trans (show _ = some (Value.int .u64 (x.tk : Int)) from rfl)
  have c5 := (HG.out.cell 5).trans (show _ = some (Value.int .u64 (x.r 0 : Int)) from rfl)
  have c6 := (HG.out.cell 6).trans (show _ = some (Value.int .u64 (x.r 1 : Int)) from rfl)
  have c7 := (HG.out.cell 7).trans (show _ = some (Value.int .u64 (x.r 2 : Int)) from rfl)
  have c8 := (HG.out.cell 8).trans (show _ = some (Value.int .u64 (x.r 3 : Int)) from rfl)
  have c9 := (HG.out.cell 9).trans (show _ = some (Value.int .u64 (x.r 4 : Int)) from rfl)
  have c10 := (HG.out.cell 10).trans (show _ = some (Value.int .u64 (x.r 5 : Int)) from rfl)
  have c11 := (HG.out.cell 11).trans (show _ = some (Value.int .u64 (x.r 6 : Int)) from rfl)
  have c12 := (HG.out.cell 12).trans (show _ = some (Value.int .u64 (x.r 7 : Int)) from rfl)
  have c13 := (HG.out.cell 13).trans (show _ = some ((.slice S x.sn.length cs)) from rfl)
  have cl := HG.out.lt
  go_wp2_with fail
  refine (HRT.out _ _ (HH.out _ HB.out)).mono ?_
  rintro e1 wq ⟨rfl, hbm⟩
  clear c0 c1 c2 c3 c4 c5 c6 c7 c8 c9 c10 c11 c12 c13 cl
  replace HG := Lib.hid (HG.out.below hbm HG.out.lt)
  replace HE := Lib.hid (HE.out.below hbm HE.out.lt)
  replace H4 := Lib.hid (H4.out.below hbm H4.out.lt)
  replace HB := Lib.hid (HB.out.trans (hbm.mono HB.out.size))
  clear hbm HRT
  have q0 := (HE.out.cell 0).trans (show _ = some (Value.int .i64 e.th) from rfl)
  have q1 := (HE.out.cell 1).trans (show _ = some (Value.int .i64 e.kd) from rfl)
  have q2 := (HE.out.cell 2).trans (show _ = some (Value.int .i64 e.rg) from rfl)
  have q3 := (HE.out.cell 3).trans (show _ = some (Value.int .u64 (e.tk : Int)) from rfl)
  have q4 := (HE.out.cell 4).trans (show _ = some (Value.int .u64 (e.vl : Int)) from rfl)
  have ql := HE.out.lt
  go_wp2_with fail
  refine (HRI.out _).mono ?_
  rintro e1 w5 ⟨rfl, hbm⟩
  clear q0 q1 q2 q3 q4 ql
  replace HG := Lib.hid (HG.out.below hbm HG.out.lt)
  replace HE := Lib.hid (HE.out.below hbm HE.out.lt)
  replace H4 := Lib.hid (H4.out.below hbm H4.out.lt)
  replace HB := Lib.hid (HB.out.trans (hbm.mono HB.out.size))
  clear hbm HRI
  clear wq
  generalize w5 = wq at *
  go_wp2_with (
    refine wpList_store_row rfl 27 _ _ rfl (w.heap.size + 1 + 1) thZ rfl rfl 27 thZ H4.out infoTh rfl thZ_one ?_
    have hk9 := kept_rowT (w := wq) (g := w.heap.size + 1 + 1) thZ
    have HBZ := Lib.hid (HB.out.trans (hk9.below HB.out.size (fun k hk (e : k = w.heap.size + 1 + 1) => by omega)))
    have Q4 := Lib.hid (lies_row H4.out thZ)
    clear hk9
    generalize wq.setRow (w.heap.size + 1 + 1) thZ = wE at *
    clear HB H4 HG HE
    have z0 := (Q4.out.cell 0).trans (show _ = some (.int .i64 0) from rfl)
    have z1 := (Q4.out.cell 1).trans (show _ = some (.int .i64 0) from rfl)
    have z2 := (Q4.out.cell 2).trans (show _ = some (.int .i64 0) from rfl)
    have z3 := (Q4.out.cell 3).trans (show _ = some (.int .i64 0) from rfl)
    have z4 := (Q4.out.cell 4).trans (show _ = some (.int .u64 0) from rfl)
    have z5 := (Q4.out.cell 5).trans (show _ = some (.int .u64 0) from rfl)
    have z6 := (Q4.out.cell 6).trans (show _ = some (.int .u64 0) from rfl)
    have z7 := (Q4.out.cell 7).trans (show _ = some (.int .u64 0) from rfl)
    have z8 := (Q4.out.cell 8).trans (show _ = some (.int .u64 0) from rfl)
    have z9 := (Q4.out.cell 9).trans (show _ = some (.int .u64 0) from rfl)
    have z10 := (Q4.out.cell 10).trans (show _ = some (.int .u64 0) from rfl)
    have z11 := (Q4.out.cell 11).trans (show _ = some (.int .u64 0) from rfl)
    have z12 := (Q4.out.cell 12).trans (show _ = some (.int .u64 0) from rfl)
    have z13 := (Q4.out.cell 13).trans (show _ = some (.slice none 0 0) from rfl)
    go_wp2
    exact bodyPost_ret (v := .tuple #[.agg thZ, .int .i64 3]) (by simp [results, Try.results19, go_sem, z0, z1, z2, z3, z4, z5, z6, z7, z8, z9, z10, z11, z12, z13]) rfl ⟨rfl, HBZ.out⟩)
set_option maxHeartbeats 8000000 in
set_option maxRecDepth 100000 in
theorem rfDoOrder (l : List In) (A : Option Addr) (c : Nat) (x : Th) (S : Option Addr) (cs : Nat) (e : Ev) (v : Nat) (w : World) (h : InsAt w A c l) (hok : ∀ i ∈ l, inOk i) (hx : thOk x) (hr : thB l x = true) (hre : rightE e = true) (hf : fitB (reqA l (nxT l x)) e = false) :
    Calls Try.prog 19 #[.slice A l.length c, .agg (thC x (.slice S x.sn.length cs)), .agg (evC e), .int .u64 (v : Int)] w fun q w' => q = .returned (.tuple #[.agg thZ, .int .i64 11]) ∧ Below w.heap.size w w' := by
  obtain ⟨hc1, hc2⟩ := seq_form h
  have hb3 : Below w.heap.size w (((w.alloc (.cells (thC x (.slice S x.sn.length cs)) 27)).alloc (.cells (evC e) 42)).alloc (.cells thZ 27)) := (((Below.refl _ _).alloc (Nat.le_refl _) _).alloc (by simp) _).alloc (by simp; omega) _
  have l1 := ((Lies.made w 27 (thC x (.slice S x.sn.length cs))).alloc (.cells (evC e) 42)).alloc (.cells thZ 27)
  have l2 := (Lies.made (w.alloc (.cells (thC x (.slice S x.sn.length cs)) 27)) 42 (evC e)).alloc (.cells thZ 27)
  have l3 := Lies.made ((w.alloc (.cells (thC x (.slice S x.sn.length cs)) 27)).alloc (.cells (evC e) 42)) 27 thZ
  rw [show (w.alloc (.cells (thC x (.slice S x.sn.length cs)) 27)).heap.size = w.heap.size + 1 by simp] at l2
  rw [show ((w.alloc (.cells (thC x (.slice S x.sn.length cs)) 27)).alloc (.cells (evC e) 42)).heap.size = w.heap.size + 1 + 1 by simp] at l3
  have HB := Lib.hid hb3
  have HG := Lib.hid l1
  have HE := Lib.hid l2
  have H4 := Lib.hid l3
  have HH := Lib.hid (fun (q : World) (hq : Below w.heap.size w q) => h.later hq)
  have HRT := Lib.hid (fun v0 q hq => rfThRight l A c x v0 q hq hok)
  have HRI := Lib.hid (fun q => rfRight15 e q)
  clear hb3 l1 l2 l3
  rw [hr] at HRT
  rw [hre] at HRI
  have hnf := nxT_facts hr hx hok
  have HNX := Lib.hid (fun q hq => rfNext16 l A c x (.slice S x.sn.length cs) q hq hok hx rfl hr)
  have HMT := Lib.hid (fun q => fits16 (reqA l (nxT l x)) e q)
  rw [hf] at HMT
  clear hf hnf
  clear h hok hx hre hr
  go_enter Try.func19, Try.ntmps19
  go_upto_region 1 with (fail)
  generalize hw1 : (((w.alloc (.cells (thC x (.slice S x.sn.length cs)) 27)).alloc (.cells (evC e) 42)).alloc (.cells thZ 27)) = w1 at *
  clear hw1
  have c0 := (HG.out.cell 0).trans (show _ = some (Value.int .i64 x.at_) from rfl)
  have c1 := (HG.out.cell 1).trans (show _ = some (Value.int .i64 x.ph) from rfl)
  have c2 := (HG.out.cell 2).trans (show _ = some (Value.int .i64 x.rg) from rfl)
  have c3 := (HG.out.cell 3).trans (show _ = some (Value.int .i64 x.st) from rfl)
  have c4 := (HG.out.cell 4).trans (show _ = some (Value.int .u64 (x.tk : Int)) from rfl)
  have c5 := (HG.out.cell 5).trans (show _ = some (Value.int .u64 (x.r 0 : Int)) from rfl)
  have c6 := (HG.out.cell 6).trans (show _ = some (Value.int .u64 (x.r 1 : Int)) from rfl)
  have c7 := (HG.out.cell 7).trans (show _ = some (Value.int .u64 (x.r 2 : Int)) from rfl)
  have c8 := (HG.out.cell 8).trans (show _ = some (Value.int .u64 (x.r 3 : Int)) from rfl)
  have c9 := (HG.out.cell 9).trans (show _ = some (Value.int .u64 (x.r 4 : Int)) from rfl)
  have c10 := (HG.out.cell 10).trans (show _ = some (Value.int .u64 (x.r 5 : Int)) from rfl)
  have c11 := (HG.out.cell 11).trans (show _ = some (Value.int .u64 (x.r 6 : Int)) from rfl)
  have c12 := (HG.out.cell 12).trans (show _ = some (Value.int .u64 (x.r 7 : Int)) from rfl)
  have c13 := (HG.out.cell 13).trans (show _ = some ((.slice S x.sn.length cs)) from rfl)
  have cl := HG.out.lt
  go_wp2_with fail
  refine (HRT.out _ _ (HH.out _ HB.out)).mono ?_
  rintro e1 wq ⟨rfl, hbm⟩
  clear c0 c1 c2 c3 c4 c5 c6 c7 c8 c9 c10 c11 c12 c13 cl
  replace HG := Lib.hid (HG.out.below hbm HG.out.lt)
  replace HE := Lib.hid (HE.out.below hbm HE.out.lt)
  replace H4 := Lib.hid (H4.out.below hbm H4.out.lt)
  replace HB := Lib.hid (HB.out.trans (hbm.mono HB.out.size))
  clear hbm HRT
  have q0 := (HE.out.cell 0).trans (show _ = some (Value.int .i64 e.th) from rfl)
  have q1 := (HE.out.cell 1).trans (show _ = some (Value.int .i64 e.kd) from rfl)
  have q2 := (HE.out.cell 2).trans (show _ = some (Value.int .i64 e.rg) from rfl)
  have q3 := (HE.out.cell 3).trans (show _ = some (Value.int .u64 (e.tk : Int)) from rfl)
  have q4 := (HE.out.cell 4).trans (show _ = some (Value.int .u64 (e.vl : Int)) from rfl)
  have ql := HE.out.lt
  go_wp2_with fail
  refine (HRI.out _).mono ?_
  rintro e1 w5 ⟨rfl, hbm⟩
  clear q0 q1 q2 q3 q4 ql
  replace HG := Lib.hid (HG.out.below hbm HG.out.lt)
  replace HE := Lib.hid (HE.out.below hbm HE.out.lt)
  replace H4 := Lib.hid (H4.out.below hbm H4.out.lt)
  replace HB := Lib.hid (HB.out.trans (hbm.mono HB.out.size))
  clear hbm HRI wq
  have c0 := (HG.out.cell 0).trans (show _ = some (Value.int .i64 x.at_) from rfl)
  have c1 := (HG.out.cell 1).trans (show _ = some (Value.int .i64 x.ph) from rfl)
  have c2 := (HG.out.cell 2).trans (show _ = some (Value.int .i64 x.rg) from rfl)
  have c3 := (HG.out.cell 3).trans (show _ = some (Value.int .i64 x.st) from rfl)
  have c4 := (HG.out.cell 4).trans (show _ = some (Value.int .u64 (x.tk : Int)) from rfl)
  have c5 := (HG.out.cell 5).trans (show _ = some (Value.int .u64 (x.r 0 : Int)) from rfl)
  have c6 := (HG.out.cell 6).trans (show _ = some (Value.int .u64 (x.r 1 : Int)) from rfl)
  have c7 := (HG.out.cell 7).trans (show _ = some (Value.int .u64 (x.r 2 : Int)) from rfl)
  have c8 := (HG.out.cell 8).trans (show _ = some (Value.int .u64 (x.r 3 : Int)) from rfl)
  have c9 := (HG.out.cell 9).trans (show _ = some (Value.int .u64 (x.r 4 : Int)) from rfl)
  have c10 := (HG.out.cell 10).trans (show _ = some (Value.int .u64 (x.r 5 : Int)) from rfl)
  have c11 := (HG.out.cell 11).trans (show _ = some (Value.int .u64 (x.r 6 : Int)) from rfl)
  have c12 := (HG.out.cell 12).trans (show _ = some (Value.int .u64 (x.r 7 : Int)) from rfl)
  have c13 := (HG.out.cell 13).trans (show _ = some ((.slice S x.sn.length cs)) from rfl)
  have cl := HG.out.lt
  go_wp2_with fail
  refine (HNX.out _ (HH.out _ HB.out)).mono ?_
  rintro e1 w2 ⟨rfl, hbm⟩
  clear c0 c1 c2 c3 c4 c5 c6 c7 c8 c9 c10 c11 c12 c13 cl
  replace HG := Lib.hid (HG.out.below hbm HG.out.lt)
  replace HE := Lib.hid (HE.out.below hbm HE.out.lt)
  replace H4 := Lib.hid (H4.out.below hbm H4.out.lt)
  replace HB := Lib.hid (HB.out.trans (hbm.mono HB.out.size))
  clear hbm HNX w5
  generalize hyy : nxT l x = y at *
  have HYE := Lib.hid hyy
  clear hyy
  have hn5 : w.heap.size + 1 + 1 < w2.heap.size := H4.out.lt
  have hba := ((Below.refl w2.heap.size w2).alloc (Nat.le_refl _) (.cells thZ 27)).alloc (by simp) (.cells akZ 37)
  have H6 := Lib.hid ((Lies.made w2 27 thZ).alloc (.cells akZ 37))
  have l7 := Lies.made (w2.alloc (.cells thZ 27)) 37 akZ
  rw [show (w2.alloc (.cells thZ 27)).heap.size = w2.heap.size + 1 by simp] at l7
  have H7 := Lib.hid l7
  clear l7
  replace HG := Lib.hid (HG.out.below hba HG.out.lt)
  replace HE := Lib.hid (HE.out.below hba HE.out.lt)
  replace H4 := Lib.hid (H4.out.below hba H4.out.lt)
  replace HB := Lib.hid (HB.out.trans (hba.mono HB.out.size))
  clear hba
  generalize hw3 : (w2.alloc (.cells thZ 27)).alloc (.cells akZ 37) = w3 at *
  generalize hn5e : w2.heap.size = n5 at *

  have hk4 := kept_rowT (w := w3) (g := n5) (thC y (.slice S x.sn.length cs))
  have HG2 := Lib.hid (HG.out.kept hk4 (fun (e : w.heap.size = n5) => by omega))
  have HE2 := Lib.hid (HE.out.kept hk4 (fun (e : w.heap.size + 1 = n5) => by omega))
  have H42 := Lib.hid (H4.out.kept hk4 (fun (e : w.heap.size + 1 + 1 = n5) => by omega))
  have H6B := Lib.hid (lies_row H6.out (thC y (.slice S x.sn.length cs)))
  have H7B := Lib.hid (H7.out.kept hk4 (fun (e : n5 + 1 = n5) => by omega))
  have HB2 := Lib.hid (HB.out.trans (hk4.below HB.out.size (fun k hk (e : k = n5) => by omega)))
  clear hk4
  go_upto_region 6 with (first | refine wpList_store_row rfl 27 _ _ rfl n5 (thC y (.slice S x.sn.length cs)) rfl rfl 27 thZ H6.out infoTh rfl (thC_one _ rfl) ?_ | refine wpList_store_row rfl 37 _ _ rfl (n5 + 1) (akC (reqA l y)) rfl rfl 37 akZ H7B.out infoAk2 rfl (akC_one _) ?_)
  clear HG HE H4 H6 H7 HB
  generalize w3.setRow n5 (thC y (.slice S x.sn.length cs)) = w4 at *
  have hk5 := kept_rowT (w := w4) (g := n5 + 1) (akC (reqA l y))
  have HE := Lib.hid (HE2.out.kept hk5 (fun (e : w.heap.size + 1 = n5 + 1) => by omega))
  have H4 := Lib.hid (H42.out.kept hk5 (fun (e : w.heap.size + 1 + 1 = n5 + 1) => by omega))
  have HG := Lib.hid (H6B.out.kept hk5 (fun (e : n5 = n5 + 1) => by omega))
  have H5 := Lib.hid (lies_row H7B.out (akC (reqA l y)))
  have HB := Lib.hid (HB2.out.trans (hk5.below HB2.out.size (fun k hk (e : k = n5 + 1) => by omega)))
  clear hk5 HG2 HE2 H42 H6B H7B HB2
  generalize w4.setRow (n5 + 1) (akC (reqA l y)) = w6 at *
  by_cases hz : (reqA l y).kd = 0
  · have j0 : ((reqA l y).kd == 0) = true := by rw [beq_iff_eq]; exact hz
    have k0 := (H5.out.cell 0).trans (show _ = some (.int .i64 (reqA l y).kd) from rfl)
    have k1 := (H5.out.cell 1).trans (show _ = some (.int .i64 (reqA l y).rg) from rfl)
    have k2 := (H5.out.cell 2).trans (show _ = some (.int .i64 (reqA l y).md) from rfl)
    have k3 := (H5.out.cell 3).trans (show _ = some (.int .i64 (reqA l y).rd) from rfl)
    have k4 := (H5.out.cell 4).trans (show _ = some (.int .u64 ((reqA l y).tk : Int)) from rfl)
    have k5 := (H5.out.cell 5).trans (show _ = some (.int .u64 ((reqA l y).vl : Int)) from rfl)
    have kl := H5.out.lt
    generalize w6 = wq at *
    clear hz
    go_wp2_with (
      refine wpList_store_row rfl 27 _ _ rfl (w.heap.size + 1 + 1) thZ rfl rfl 27 thZ H4.out infoTh rfl thZ_one ?_
      have hk9 := kept_rowT (w := wq) (g := w.heap.size + 1 + 1) thZ
      have HBZ := Lib.hid (HB.out.trans (hk9.below HB.out.size (fun k hk (e : k = w.heap.size + 1 + 1) => by omega)))
      have Q4 := Lib.hid (lies_row H4.out thZ)
      clear hk9
      generalize wq.setRow (w.heap.size + 1 + 1) thZ = wE at *
      clear HB H4 HG HE
      have z0 := (Q4.out.cell 0).trans (show _ = some (.int .i64 0) from rfl)
      have z1 := (Q4.out.cell 1).trans (show _ = some (.int .i64 0) from rfl)
      have z2 := (Q4.out.cell 2).trans (show _ = some (.int .i64 0) from rfl)
      have z3 := (Q4.out.cell 3).trans (show _ = some (.int .i64 0) from rfl)
      have z4 := (Q4.out.cell 4).trans (show _ = some (.int .u64 0) from rfl)
      have z5 := (Q4.out.cell 5).trans (show _ = some (.int .u64 0) from rfl)
      have z6 := (Q4.out.cell 6).trans (show _ = some (.int .u64 0) from rfl)
      have z7 := (Q4.out.cell 7).trans (show _ = some (.int .u64 0) from rfl)
      have z8 := (Q4.out.cell 8).trans (show _ = some (.int .u64 0) from rfl)
      have z9 := (Q4.out.cell 9).trans (show _ = some (.int .u64 0) from rfl)
      have z10 := (Q4.out.cell 10).trans (show _ = some (.int .u64 0) from rfl)
      have z11 := (Q4.out.cell 11).trans (show _ = some (.int .u64 0) from rfl)
      have z12 := (Q4.out.cell 12).trans (show _ = some (.int .u64 0) from rfl)
      have z13 := (Q4.out.cell 13).trans (show _ = some (.slice none 0 0) from rfl)
      go_wp2
      exact bodyPost_ret (v := .tuple #[.agg thZ, .int .i64 11]) (by simp [results, Try.results19, go_sem, z0, z1, z2, z3, z4, z5, z6, z7, z8, z9, z10, z11, z12, z13]) rfl ⟨rfl, HBZ.out⟩)
  · have j0 : ((reqA l y).kd == 0) = false := by rw [beq_eq_false_iff_ne]; exact hz
    clear hz
    have q0 := (HE.out.cell 0).trans (show _ = some (Value.int .i64 e.th) from rfl)
    have q1 := (HE.out.cell 1).trans (show _ = some (Value.int .i64 e.kd) from rfl)
    have q2 := (HE.out.cell 2).trans (show _ = some (Value.int .i64 e.rg) from rfl)
    have q3 := (HE.out.cell 3).trans (show _ = some (Value.int .u64 (e.tk : Int)) from rfl)
    have q4 := (HE.out.cell 4).trans (show _ = some (Value.int .u64 (e.vl : Int)) from rfl)
    have ql := HE.out.lt
    have k0 := (H5.out.cell 0).trans (show _ = some (.int .i64 (reqA l y).kd) from rfl)
    have k1 := (H5.out.cell 1).trans (show _ = some (.int .i64 (reqA l y).rg) from rfl)
    have k2 := (H5.out.cell 2).trans (show _ = some (.int .i64 (reqA l y).md) from rfl)
    have k3 := (H5.out.cell 3).trans (show _ = some (.int .i64 (reqA l y).rd) from rfl)
    have k4 := (H5.out.cell 4).trans (show _ = some (.int .u64 ((reqA l y).tk : Int)) from rfl)
    have k5 := (H5.out.cell 5).trans (show _ = some (.int .u64 ((reqA l y).vl : Int)) from rfl)
    have kl := H5.out.lt
    go_wp2_with fail
    refine (HMT.out _).mono ?_
    rintro e1 wq ⟨rfl, hbm⟩
    clear q0 q1 q2 q3 q4 ql
    clear k0 k1 k2 k3 k4 k5 kl
    replace HG := Lib.hid (HG.out.below hbm HG.out.lt)
    replace HE := Lib.hid (HE.out.below hbm HE.out.lt)
    replace H4 := Lib.hid (H4.out.below hbm H4.out.lt)
    replace HB := Lib.hid (HB.out.trans (hbm.mono HB.out.size))
    clear hbm HMT H5 w6
    go_wp2_with (
      refine wpList_store_row rfl 27 _ _ rfl (w.heap.size + 1 + 1) thZ rfl rfl 27 thZ H4.out infoTh rfl thZ_one ?_
      have hk9 := kept_rowT (w := wq) (g := w.heap.size + 1 + 1) thZ
      have HBZ := Lib.hid (HB.out.trans (hk9.below HB.out.size (fun k hk (e : k = w.heap.size + 1 + 1) => by omega)))
      have Q4 := Lib.hid (lies_row H4.out thZ)
      clear hk9
      generalize wq.setRow (w.heap.size + 1 + 1) thZ = wE at *
      clear HB H4 HG HE
      have z0 := (Q4.out.cell 0).trans (show _ = some (.int .i64 0) from rfl)
      have z1 := (Q4.out.cell 1).trans (show _ = some (.int .i64 0) from rfl)
      have z2 := (Q4.out.cell 2).trans (show _ = some (.int .i64 0) from rfl)
      have z3 := (Q4.out.cell 3).trans (show _ = some (.int .i64 0) from rfl)
      have z4 := (Q4.out.cell 4).trans (show _ = some (.int .u64 0) from rfl)
      have z5 := (Q4.out.cell 5).trans (show _ = some (.int .u64 0) from rfl)
      have z6 := (Q4.out.cell 6).trans (show _ = some (.int .u64 0) from rfl)
      have z7 := (Q4.out.cell 7).trans (show _ = some (.int .u64 0) from rfl)
      have z8 := (Q4.out.cell 8).trans (show _ = some (.int .u64 0) from rfl)
      have z9 := (Q4.out.cell 9).trans (show _ = some (.int .u64 0) from rfl)
      have z10 := (Q4.out.cell 10).trans (show _ = some (.int .u64 0) from rfl)
      have z11 := (Q4.out.cell 11).trans (show _ = some (.int .u64 0) from rfl)
      have z12 := (Q4.out.cell 12).trans (show _ = some (.int .u64 0) from rfl)
      have z13 := (Q4.out.cell 13).trans (show _ = some (.slice none 0 0) from rfl)
      go_wp2
      exact bodyPost_ret (v := .tuple #[.agg thZ, .int .i64 11]) (by simp [results, Try.results19, go_sem, z0, z1, z2, z3, z4, z5, z6, z7, z8, z9, z10, z11, z12, z13]) rfl ⟨rfl, HBZ.out⟩)
end Go.Proofs.Ytiegmpjoiekekaa
/-
  What an event makes of a thread (layer 16): the document's Do.
-/
namespace Go.Proofs.Ytiegmpjoiekekaa
open Go.RowKit
set_option linter.unusedVariables false
set_option linter.unusedSimpArgs false
set_option maxHeartbeats 8000000 in
set_option maxRecDepth 100000 in
theorem rfDoOk (l : List In) (A : Option Addr) (c : Nat) (x : Th) (S : Option Addr) (cs : Nat) (e : Ev) (v : Nat) (w : World) (h : InsAt w A c l) (hok : ∀ i ∈ l, inOk i) (hx : thOk x) (hs : SeqS w 1 (.slice S x.sn.length cs) x.sn.length (cells64 x.sn)) (hl : x.sn.length ≤ 1000000) (hr : thB l x = true) (hre : rightE e = true) (hf : fitB (reqA l (nxT l x)) e = true) :
    Calls Try.prog 19 #[.slice A l.length c, .agg (thC x (.slice S x.sn.length cs)), .agg (evC e), .int .u64 (v : Int)] w fun q w' => ∃ A2 c2, q = .returned (.tuple #[.agg (thC (behT (atT l (nxT l x)) (nxT l x) e v) (.slice A2 (behT (atT l (nxT l x)) (nxT l x) e v).sn.length c2)), .int .i64 0]) ∧ SeqS w' 1 (.slice A2 (behT (atT l (nxT l x)) (nxT l x) e v).sn.length c2) (behT (atT l (nxT l x)) (nxT l x) e v).sn.length (cells64 (behT (atT l (nxT l x)) (nxT l x) e v).sn) ∧ Below w.heap.size w w' := by
  obtain ⟨hc1, hc2⟩ := seq_form h
  have hb3 : Below w.heap.size w (((w.alloc (.cells (thC x (.slice S x.sn.length cs)) 27)).alloc (.cells (evC e) 42)).alloc (.cells thZ 27)) := (((Below.refl _ _).alloc (Nat.le_refl _) _).alloc (by simp) _).alloc (by simp; omega) _
  have l1 := ((Lies.made w 27 (thC x (.slice S x.sn.length cs))).alloc (.cells (evC e) 42)).alloc (.cells thZ 27)
  have l2 := (Lies.made (w.alloc (.cells (thC x (.slice S x.sn.length cs)) 27)) 42 (evC e)).alloc (.cells thZ 27)
  have l3 := Lies.made ((w.alloc (.cells (thC x (.slice S x.sn.length cs)) 27)).alloc (.cells (evC e) 42)) 27 thZ
  rw [show (w.alloc (.cells (thC x (.slice S x.sn.length cs)) 27)).heap.size = w.heap.size + 1 by simp] at l2
  rw [show ((w.alloc (.cells (thC x (.slice S x.sn.length cs)) 27)).alloc (.cells (evC e) 42)).heap.size = w.heap.size + 1 + 1 by simp] at l3
  have HB := Lib.hid hb3
  have HG := Lib.hid l1
  have HE := Lib.hid l2
  have H4 := Lib.hid l3
  have HH := Lib.hid (fun (q : World) (hq : Below w.heap.size w q) => h.later hq)
  have HRT := Lib.hid (fun v0 q hq => rfThRight l A c x v0 q hq hok)
  have HRI := Lib.hid (fun q => rfRight15 e q)
  clear hb3 l1 l2 l3
  rw [hr] at HRT
  rw [hre] at HRI
  have hnf := nxT_facts hr hx hok
  have HNX := Lib.hid (fun q hq => rfNext16 l A c x (.slice S x.sn.length cs) q hq hok hx rfl hr)
  have HMT := Lib.hid (fun q => fits16 (reqA l (nxT l x)) e q)
  rw [hf] at HMT
  have hnz := reqA_zero hf
  have hbat := beh_at hnf.1 hf
  have hkk := right_kind hre
  have hs2 := hs
  rw [← hnf.2.2] at hs2 hl
  have HSQ := Lib.hid (fun (q : World) (hq : Below w.heap.size w q) => hs2.later hq)
  have hcd := (thB_parts hr).1
  have hSN := hnf.2.2
  have h00 := hnf.1.1
  have HBH := Lib.hid (fun q hq (hs3 : SeqS q 1 (.slice S (nxT l x).sn.length cs) (nxT l x).sn.length (cells64 (nxT l x).sn)) => rfBeh16 l A c (nxT l x) S cs e v q hq hs3 hl hcd h00 hbat hkk)
  have HSN := Lib.hid hSN
  clear hf hnf hs hs2 hcd h00 hbat hkk hSN
  clear h hok hx hre hr
  go_enter Try.func19, Try.ntmps19
  go_upto_region 1 with (fail)
  generalize hw1 : (((w.alloc (.cells (thC x (.slice S x.sn.length cs)) 27)).alloc (.cells (evC e) 42)).alloc (.cells thZ 27)) = w1 at *
  clear hw1
  have c0 := (HG.out.cell 0).trans (show _ = some (Value.int .i64 x.at_) from rfl)
  have c1 := (HG.out.cell 1).trans (show _ = some (Value.int .i64 x.ph) from rfl)
  have c2 := (HG.out.cell 2).trans (show _ = some (Value.int .i64 x.rg) from rfl)
  have c3 := (HG.out.cell 3).trans (show _ = some (Value.int .i64 x.st) from rfl)
  have c4 := (HG.out.cell 4).trans (show _ = some (Value.int .u64 (x.tk : Int)) from rfl)
  have c5 := (HG.out.cell 5).trans (show _ = some (Value.int .u64 (x.r 0 : Int)) from rfl)
  have c6 := (HG.out.cell 6).trans (show _ = some (Value.int .u64 (x.r 1 : Int)) from rfl)
  have c7 := (HG.out.cell 7).trans (show _ = some (Value.int .u64 (x.r 2 : Int)) from rfl)
  have c8 := (HG.out.cell 8).trans (show _ = some (Value.int .u64 (x.r 3 : Int)) from rfl)
  have c9 := (HG.out.cell 9).trans (show _ = some (Value.int .u64 (x.r 4 : Int)) from rfl)
  have c10 := (HG.out.cell 10).trans (show _ = some (Value.int .u64 (x.r 5 : Int)) from rfl)
  have c11 := (HG.out.cell 11).trans (show _ = some (Value.int .u64 (x.r 6 : Int)) from rfl)
  have c12 := (HG.out.cell 12).trans (show _ = some (Value.int .u64 (x.r 7 : Int)) from rfl)
  have c13 := (HG.out.cell 13).trans (show _ = some ((.slice S x.sn.length cs)) from rfl)
  have cl := HG.out.lt
  go_wp2_with fail
  refine (HRT.out _ _ (HH.out _ HB.out)).mono ?_
  rintro e1 wq ⟨rfl, hbm⟩
  clear c0 c1 c2 c3 c4 c5 c6 c7 c8 c9 c10 c11 c12 c13 cl
  replace HG := Lib.hid (HG.out.below hbm HG.out.lt)
  replace HE := Lib.hid (HE.out.below hbm HE.out.lt)
  replace H4 := Lib.hid (H4.out.below hbm H4.out.lt)
  replace HB := Lib.hid (HB.out.trans (hbm.mono HB.out.size))
  clear hbm HRT
  have q0 := (HE.out.cell 0).trans (show _ = some (Value.int .i64 e.th) from rfl)
  have q1 := (HE.out.cell 1).trans (show _ = some (Value.int .i64 e.kd) from rfl)
  have q2 := (HE.out.cell 2).trans (show _ = some (Value.int .i64 e.rg) from rfl)
  have q3 := (HE.out.cell 3).trans (show _ = some (Value.int .u64 (e.tk : Int)) from rfl)
  have q4 := (HE.out.cell 4).trans (show _ = some (Value.int .u64 (e.vl : Int)) from rfl)
  have ql := HE.out.lt
  go_wp2_with fail
  refine (HRI.out _).mono ?_
  rintro e1 w5 ⟨rfl, hbm⟩
  clear q0 q1 q2 q3 q4 ql
  replace HG := Lib.hid (HG.out.below hbm HG.out.lt)
  replace HE := Lib.hid (HE.out.below hbm HE.out.lt)
  replace H4 := Lib.hid (H4.out.below hbm H4.out.lt)
  replace HB := Lib.hid (HB.out.trans (hbm.mono HB.out.size))
  clear hbm HRI wq
  have c0 := (HG.out.cell 0).trans (show _ = some (Value.int .i64 x.at_) from rfl)
  have c1 := (HG.out.cell 1).trans (show _ = some (Value.int .i64 x.ph) from rfl)
  have c2 := (HG.out.cell 2).trans (show _ = some (Value.int .i64 x.rg) from rfl)
  have c3 := (HG.out.cell 3).trans (show _ = some (Value.int .i64 x.st) from rfl)
  have c4 := (HG.out.cell 4).trans (show _ = some (Value.int .u64 (x.tk : Int)) from rfl)
  have c5 := (HG.out.cell 5).trans (show _ = some (Value.int .u64 (x.r 0 : Int)) from rfl)
  have c6 := (HG.out.cell 6).trans (show _ = some (Value.int .u64 (x.r 1 : Int)) from rfl)
  have c7 := (HG.out.cell 7).trans (show _ = some (Value.int .u64 (x.r 2 : Int)) from rfl)
  have c8 := (HG.out.cell 8).trans (show _ = some (Value.int .u64 (x.r 3 : Int)) from rfl)
  have c9 := (HG.out.cell 9).trans (show _ = some (Value.int .u64 (x.r 4 : Int)) from rfl)
  have c10 := (HG.out.cell 10).trans (show _ = some (Value.int .u64 (x.r 5 : Int)) from rfl)
  have c11 := (HG.out.cell 11).trans (show _ = some (Value.int .u64 (x.r 6 : Int)) from rfl)
  have c12 := (HG.out.cell 12).trans (show _ = some (Value.int .u64 (x.r 7 : Int)) from rfl)
  have c13 := (HG.out.cell 13).trans (show _ = some ((.slice S x.sn.length cs)) from rfl)
  have cl := HG.out.lt
  go_wp2_with fail
  refine (HNX.out _ (HH.out _ HB.out)).mono ?_
  rintro e1 w2 ⟨rfl, hbm⟩
  clear c0 c1 c2 c3 c4 c5 c6 c7 c8 c9 c10 c11 c12 c13 cl
  replace HG := Lib.hid (HG.out.below hbm HG.out.lt)
  replace HE := Lib.hid (HE.out.below hbm HE.out.lt)
  replace H4 := Lib.hid (H4.out.below hbm H4.out.lt)
  replace HB := Lib.hid (HB.out.trans (hbm.mono HB.out.size))
  clear hbm HNX w5
  generalize hyy : nxT l x = y at *
  have HYE := Lib.hid hyy
  clear hyy
  have hn5 : w.heap.size + 1 + 1 < w2.heap.size := H4.out.lt
  have hba := ((Below.refl w2.heap.size w2).alloc (Nat.le_refl _) (.cells thZ 27)).alloc (by simp) (.cells akZ 37)
  have H6 := Lib.hid ((Lies.made w2 27 thZ).alloc (.cells akZ 37))
  have l7 := Lies.made (w2.alloc (.cells thZ 27)) 37 akZ
  rw [show (w2.alloc (.cells thZ 27)).heap.size = w2.heap.size + 1 by simp] at l7
  have H7 := Lib.hid l7
  clear l7
  replace HG := Lib.hid (HG.out.below hba HG.out.lt)
  replace HE := Lib.hid (HE.out.below hba HE.out.lt)
  replace H4 := Lib.hid (H4.out.below hba H4.out.lt)
  replace HB := Lib.hid (HB.out.trans (hba.mono HB.out.size))
  clear hba
  generalize hw3 : (w2.alloc (.cells thZ 27)).alloc (.cells akZ 37) = w3 at *
  generalize hn5e : w2.heap.size = n5 at *

  have hk4 := kept_rowT (w := w3) (g := n5) (thC y (.slice S x.sn.length cs))
  have HG2 := Lib.hid (HG.out.kept hk4 (fun (e : w.heap.size = n5) => by omega))
  have HE2 := Lib.hid (HE.out.kept hk4 (fun (e : w.heap.size + 1 = n5) => by omega))
  have H42 := Lib.hid (H4.out.kept hk4 (fun (e : w.heap.size + 1 + 1 = n5) => by omega))
  have H6B := Lib.hid (lies_row H6.out (thC y (.slice S x.sn.length cs)))
  have H7B := Lib.hid (H7.out.kept hk4 (fun (e : n5 + 1 = n5) => by omega))
  have HB2 := Lib.hid (HB.out.trans (hk4.below HB.out.size (fun k hk (e : k = n5) => by omega)))
  clear hk4
  go_upto_region 6 with (first | refine wpList_store_row rfl 27 _ _ rfl n5 (thC y (.slice S x.sn.length cs)) rfl rfl 27 thZ H6.out infoTh rfl (thC_one _ rfl) ?_ | refine wpList_store_row rfl 37 _ _ rfl (n5 + 1) (akC (reqA l y)) rfl rfl 37 akZ H7B.out infoAk2 rfl (akC_one _) ?_)
  clear HG HE H4 H6 H7 HB
  generalize w3.setRow n5 (thC y (.slice S x.sn.length cs)) = w4 at *
  have hk5 := kept_rowT (w := w4) (g := n5 + 1) (akC (reqA l y))
  have HE := Lib.hid (HE2.out.kept hk5 (fun (e : w.heap.size + 1 = n5 + 1) => by omega))
  have H4 := Lib.hid (H42.out.kept hk5 (fun (e : w.heap.size + 1 + 1 = n5 + 1) => by omega))
  have HG := Lib.hid (H6B.out.kept hk5 (fun (e : n5 = n5 + 1) => by omega))
  have H5 := Lib.hid (lies_row H7B.out (akC (reqA l y)))
  have HB := Lib.hid (HB2.out.trans (hk5.below HB2.out.size (fun k hk (e : k = n5 + 1) => by omega)))
  clear hk5 HG2 HE2 H42 H6B H7B HB2
  generalize w4.setRow (n5 + 1) (akC (reqA l y)) = w6 at *
  have j0 : ((reqA l y).kd == 0) = false := by rw [beq_eq_false_iff_ne]; exact hnz
  clear hnz
  have q0 := (HE.out.cell 0).trans (show _ = some (Value.int .i64 e.th) from rfl)
  have q1 := (HE.out.cell 1).trans (show _ = some (Value.int .i64 e.kd) from rfl)
  have q2 := (HE.out.cell 2).trans (show _ = some (Value.int .i64 e.rg) from rfl)
  have q3 := (HE.out.cell 3).trans (show _ = some (Value.int .u64 (e.tk : Int)) from rfl)
  have q4 := (HE.out.cell 4).trans (show _ = some (Value.int .u64 (e.vl : Int)) from rfl)
  have ql := HE.out.lt
  have k0 := (H5.out.cell 0).trans (show _ = some (.int .i64 (reqA l y).kd) from rfl)
  have k1 := (H5.out.cell 1).trans (show _ = some (.int .i64 (reqA l y).rg) from rfl)
  have k2 := (H5.out.cell 2).trans (show _ = some (.int .i64 (reqA l y).md) from rfl)
  have k3 := (H5.out.cell 3).trans (show _ = some (.int .i64 (reqA l y).rd) from rfl)
  have k4 := (H5.out.cell 4).trans (show _ = some (.int .u64 ((reqA l y).tk : Int)) from rfl)
  have k5 := (H5.out.cell 5).trans (show _ = some (.int .u64 ((reqA l y).vl : Int)) from rfl)
  have kl := H5.out.lt
  go_wp2_with fail
  refine (HMT.out _).mono ?_
  rintro e1 wq ⟨rfl, hbm⟩
  clear q0 q1 q2 q3 q4 ql
  clear k0 k1 k2 k3 k4 k5 kl
  replace HG := Lib.hid (HG.out.below hbm HG.out.lt)
  replace HE := Lib.hid (HE.out.below hbm HE.out.lt)
  replace H4 := Lib.hid (H4.out.below hbm H4.out.lt)
  replace HB := Lib.hid (HB.out.trans (hbm.mono HB.out.size))
  clear hbm HMT H5 w6
  rw [← HSN.out] at HG
  clear j0
  go_upto_region 8 with (fail)
  have q0 := (HE.out.cell 0).trans (show _ = some (Value.int .i64 e.th) from rfl)
  have q1 := (HE.out.cell 1).trans (show _ = some (Value.int .i64 e.kd) from rfl)
  have q2 := (HE.out.cell 2).trans (show _ = some (Value.int .i64 e.rg) from rfl)
  have q3 := (HE.out.cell 3).trans (show _ = some (Value.int .u64 (e.tk : Int)) from rfl)
  have q4 := (HE.out.cell 4).trans (show _ = some (Value.int .u64 (e.vl : Int)) from rfl)
  have ql := HE.out.lt
  have c0 := (HG.out.cell 0).trans (show _ = some (Value.int .i64 y.at_) from rfl)
  have c1 := (HG.out.cell 1).trans (show _ = some (Value.int .i64 y.ph) from rfl)
  have c2 := (HG.out.cell 2).trans (show _ = some (Value.int .i64 y.rg) from rfl)
  have c3 := (HG.out.cell 3).trans (show _ = some (Value.int .i64 y.st) from rfl)
  have c4 := (HG.out.cell 4).trans (show _ = some (Value.int .u64 (y.tk : Int)) from rfl)
  have c5 := (HG.out.cell 5).trans (show _ = some (Value.int .u64 (y.r 0 : Int)) from rfl)
  have c6 := (HG.out.cell 6).trans (show _ = some (Value.int .u64 (y.r 1 : Int)) from rfl)
  have c7 := (HG.out.cell 7).trans (show _ = some (Value.int .u64 (y.r 2 : Int)) from rfl)
  have c8 := (HG.out.cell 8).trans (show _ = some (Value.int .u64 (y.r 3 : Int)) from rfl)
  have c9 := (HG.out.cell 9).trans (show _ = some (Value.int .u64 (y.r 4 : Int)) from rfl)
  have c10 := (HG.out.cell 10).trans (show _ = some (Value.int .u64 (y.r 5 : Int)) from rfl)
  have c11 := (HG.out.cell 11).trans (show _ = some (Value.int .u64 (y.r 6 : Int)) from rfl)
  have c12 := (HG.out.cell 12).trans (show _ = some (Value.int .u64 (y.r 7 : Int)) from rfl)
  have c13 := (HG.out.cell 13).trans (show _ = some ((.slice S y.sn.length cs)) from rfl)
  have cl := HG.out.lt
  go_wp2_with fail
  refine (HBH.out _ (HH.out _ HB.out) (HSQ.out _ HB.out)).mono ?_
  rintro e1 w8 ⟨A2, k2, rfl, hs8, hbm⟩
  clear c0 c1 c2 c3 c4 c5 c6 c7 c8 c9 c10 c11 c12 c13 cl
  clear q0 q1 q2 q3 q4 ql
  replace H4 := Lib.hid (H4.out.below hbm H4.out.lt)
  replace HB := Lib.hid (HB.out.trans (hbm.mono HB.out.size))
  clear HBH HE HG
  generalize hzz : behT (atT l y) y e v = z at *
  have HZE := Lib.hid hzz
  clear hzz
  have HS8 : Hid (∀ q : World, Kept (oneRow (w.heap.size + 1 + 1)) w8 q → SeqS q 1 (.slice A2 z.sn.length k2) z.sn.length (cells64 z.sn)) := fun q hq => by
    rcases hs8 with ⟨rfl, rfl, h3⟩ | ho
    · rw [h3]
      exact HSQ.out q (HB.out.trans (hq.below HB.out.size (fun k hk (e : k = w.heap.size + 1 + 1) => by omega)))
    · exact SeqS.of_owns (owns_kept ho hq (fun r cur hr hl (e : r = w.heap.size + 1 + 1) => by subst e; exact absurd (hl.same H4.out).1 (by decide)))
  clear hs8 hbm HSQ
  go_wp2_with (
    refine wpList_store_row rfl 27 _ _ rfl (w.heap.size + 1 + 1) (thC z (.slice A2 z.sn.length k2)) rfl rfl 27 thZ H4.out infoTh rfl (thC_one _ rfl) ?_
    have hk9 := kept_rowT (w := w8) (g := w.heap.size + 1 + 1) (thC z (.slice A2 z.sn.length k2))
    have HBZ := Lib.hid (HB.out.trans (hk9.below HB.out.size (fun k hk (e : k = w.heap.size + 1 + 1) => by omega)))
    have Q4 := Lib.hid (lies_row H4.out (thC z (.slice A2 z.sn.length k2)))
    have HSZ := Lib.hid (HS8.out _ hk9)
    clear hk9
    generalize w8.setRow (w.heap.size + 1 + 1) (thC z (.slice A2 z.sn.length k2)) = wE at *
    clear HB H4 HS8
    have z0 := (Q4.out.cell 0).trans (show _ = some (Value.int .i64 z.at_) from rfl)
    have z1 := (Q4.out.cell 1).trans (show _ = some (Value.int .i64 z.ph) from rfl)
    have z2 := (Q4.out.cell 2).trans (show _ = some (Value.int .i64 z.rg) from rfl)
    have z3 := (Q4.out.cell 3).trans (show _ = some (Value.int .i64 z.st) from rfl)
    have z4 := (Q4.out.cell 4).trans (show _ = some (Value.int .u64 (z.tk : Int)) from rfl)
    have z5 := (Q4.out.cell 5).trans (show _ = some (Value.int .u64 (z.r 0 : Int)) from rfl)
    have z6 := (Q4.out.cell 6).trans (show _ = some (Value.int .u64 (z.r 1 : Int)) from rfl)
    have z7 := (Q4.out.cell 7).trans (show _ = some (Value.int .u64 (z.r 2 : Int)) from rfl)
    have z8 := (Q4.out.cell 8).trans (show _ = some (Value.int .u64 (z.r 3 : Int)) from rfl)
    have z9 := (Q4.out.cell 9).trans (show _ = some (Value.int .u64 (z.r 4 : Int)) from rfl)
    have z10 := (Q4.out.cell 10).trans (show _ = some (Value.int .u64 (z.r 5 : Int)) from rfl)
    have z11 := (Q4.out.cell 11).trans (show _ = some (Value.int .u64 (z.r 6 : Int)) from rfl)
    have z12 := (Q4.out.cell 12).trans (show _ = some (Value.int .u64 (z.r 7 : Int)) from rfl)
    have z13 := (Q4.out.cell 13).trans (show _ = some ((.slice A2 z.sn.length k2)) from rfl)
    have zl := Q4.out.lt
    go_wp2
    exact bodyPost_ret (v := .tuple #[.agg (thC z (.slice A2 z.sn.length k2)), .int .i64 0]) (by simp [results, Try.results19, go_sem, z0, z1, z2, z3, z4, z5, z6, z7, z8, z9, z10, z11, z12, z13]) rfl ⟨A2, k2, by rw [HYE.out, HZE.out], by rw [HYE.out, HZE.out]; exact HSZ.out, HBZ.out⟩)
end Go.Proofs.Ytiegmpjoiekekaa
/-
  What comes of a thread, at any arguments (layer 16): thread.Next, thread.Do and the document's Do.
-/
namespace Go.Proofs.Ytiegmpjoiekekaa
open Go.RowKit
set_option linter.unusedVariables false
set_option linter.unusedSimpArgs false
def thO : Th := ⟨0, 0, 0, 0, 0, fun _ => 0, []⟩
def nxZ (l : List In) (x : Th) : Th × Ak × Int := if thB l x = true then (nxT l x, reqA l (nxT l x), 0) else (thO, noneA 0, 1)
def doZ (l : List In) (x : Th) (e : Ev) (v : Nat) : Th × Int :=
  if thB l x = true then if rightE e = true then if fitB (reqA l (nxT l x)) e = true then (behT (atT l (nxT l x)) (nxT l x) e v, 0) else (thO, 11) else (thO, 3) else (thO, 1)
/-- A state in the call's own memory. -/
def OwnTh (w : World) (B : Nat) (z : Th) (u : Value) : Prop := ∃ A c, u = .agg (thC z (.slice A z.sn.length c)) ∧ w.ownsRow B 23 1 (.slice A z.sn.length c) z.sn.length (cells64 z.sn)
def NxPost (z : Th × Ak × Int) (w : World) (q : Ending) (w' : World) : Prop := ∃ u, q = .returned (.tuple #[u, .agg (akC z.2.1), .int .i64 z.2.2]) ∧ OwnTh w' w.heap.size z.1 u ∧ Below w.heap.size w w'
def DoPost (z : Th × Int) (w : World) (q : Ending) (w' : World) : Prop := ∃ u, q = .returned (.tuple #[u, .int .i64 z.2]) ∧ OwnTh w' w.heap.size z.1 u ∧ Below w.heap.size w w'
theorem ownO (w : World) (B : Nat) : OwnTh w B thO (.agg thZ) := ⟨none, 0, rfl, World.ownsRow_nil _ _ _ _⟩
theorem nextU (l : List In) (A : Option Addr) (c : Nat) (x : Th) (S : Option Addr) (cs : Nat) (w : World) (h : InsAt w A c l) (hok : ∀ i ∈ l, inOk i) (hx : thOk x) (hs : SeqS w 1 (.slice S x.sn.length cs) x.sn.length (cells64 x.sn)) (hl : x.sn.length ≤ 1000000) :
    Calls Try.prog 10 #[.slice A l.length c, .agg (thC x (.slice S x.sn.length cs))] w (NxPost (nxZ l x) w) := by
  by_cases hr : thB l x = true
  · have hz : nxZ l x = (nxT l x, reqA l (nxT l x), 0) := by unfold nxZ; rw [if_pos hr]
    refine (next16 l A c x S cs w h hok hx hs hl hr).mono ?_
    rintro q w' ⟨A', c', h1, h2, h3⟩
    have hsn := (nxT_facts hr hx hok).2.2
    rw [hz]
    rw [← hsn] at h1 h2
    exact ⟨_, h1, ⟨A', c', rfl, h2⟩, h3⟩
  · have hz : nxZ l x = (thO, noneA 0, 1) := by unfold nxZ; rw [if_neg hr]
    refine (next16no l A c x _ w h (by rw [Bool.eq_false_iff]; exact hr)).mono ?_
    rintro q w' ⟨h1, h3⟩
    rw [hz]
    exact ⟨_, h1, ownO _ _, h3⟩
theorem doU (l : List In) (A : Option Addr) (c : Nat) (x : Th) (S : Option Addr) (cs : Nat) (e : Ev) (v : Nat) (w : World) (h : InsAt w A c l) (hok : ∀ i ∈ l, inOk i) (hx : thOk x) (hs : SeqS w 1 (.slice S x.sn.length cs) x.sn.length (cells64 x.sn)) (hl : x.sn.length ≤ 1000000) :
    Calls Try.prog 18 #[.slice A l.length c, .agg (thC x (.slice S x.sn.length cs)), .agg (evC e), .int .u64 (v : Int)] w (DoPost (doZ l x e v) w) := by
  by_cases hr : thB l x = true
  case neg =>
    have hz : doZ l x e v = (thO, 1) := by unfold doZ; rw [if_neg hr]
    refine (do16bad l A c x S cs e v w h (by rw [Bool.eq_false_iff]; exact hr)).mono ?_
    rintro q w' ⟨h1, h3⟩
    rw [hz]
    exact ⟨_, h1, ownO _ _, h3⟩
  by_cases he : rightE e = true
  case neg =>
    have hz : doZ l x e v = (thO, 3) := by unfold doZ; rw [if_pos hr, if_neg he]
    refine (do16form l A c x S cs e v w h hok hx hs hl hr (by rw [Bool.eq_false_iff]; exact he)).mono ?_
    rintro q w' ⟨h1, h3⟩
    rw [hz]
    exact ⟨_, h1, ownO _ _, h3⟩
  by_cases hf : fitB (reqA l (nxT l x)) e = true
  case neg =>
    have hz : doZ l x e v = (thO, 11) := by unfold doZ; rw [if_pos hr, if_pos he, if_neg hf]
    refine (do16order l A c x S cs e v w h hok hx hs hl hr he (by rw [Bool.eq_false_iff]; exact hf)).mono ?_
    rintro q w' ⟨h1, h3⟩
    rw [hz]
    exact ⟨_, h1, ownO _ _, h3⟩
  have hz : doZ l x e v = (behT (atT l (nxT l x)) (nxT l x) e v, 0) := by unfold doZ; rw [if_pos hr, if_pos he, if_pos hf]
  refine (do16ok l A c x S cs e v w h hok hx hs hl hr he hf).mono ?_
  rintro q w' ⟨A', c', h1, h2, h3⟩
  rw [hz]
  exact ⟨_, h1, ⟨A', c', rfl, h2⟩, h3⟩
/-- What the document's Do hands back: what was seen is as it came, or the call's own. -/
def RfPost (z : Th × Int) (w : World) (q : Ending) (w' : World) : Prop := ∃ A c, q = .returned (.tuple #[.agg (thC z.1 (.slice A z.1.sn.length c)), .int .i64 z.2]) ∧ SeqS w' 1 (.slice A z.1.sn.length c) z.1.sn.length (cells64 z.1.sn) ∧ Below w.heap.size w w'
theorem seqO (w : World) : SeqS w 1 (.slice none thO.sn.length 0) thO.sn.length (cells64 thO.sn) := SeqS.of_owns (World.ownsRow_nil w 0 23 1)
theorem rfDoU (l : List In) (A : Option Addr) (c : Nat) (x : Th) (S : Option Addr) (cs : Nat) (e : Ev) (v : Nat) (w : World) (h : InsAt w A c l) (hok : ∀ i ∈ l, inOk i) (hx : thOk x) (hs : SeqS w 1 (.slice S x.sn.length cs) x.sn.length (cells64 x.sn)) (hl : x.sn.length ≤ 1000000) :
    Calls Try.prog 19 #[.slice A l.length c, .agg (thC x (.slice S x.sn.length cs)), .agg (evC e), .int .u64 (v : Int)] w (RfPost (doZ l x e v) w) := by
  by_cases hr : thB l x = true
  case neg =>
    have hz : doZ l x e v = (thO, 1) := by unfold doZ; rw [if_neg hr]
    refine (rfDoBad l A c x S cs e v w h hok hx (by rw [Bool.eq_false_iff]; exact hr)).mono ?_
    rintro q w' ⟨h1, h3⟩
    rw [hz]
    exact ⟨_, _, h1, seqO _, h3⟩
  by_cases he : rightE e = true
  case neg =>
    have hz : doZ l x e v = (thO, 3) := by unfold doZ; rw [if_pos hr, if_neg he]
    refine (rfDoForm l A c x S cs e v w h hok hx hr (by rw [Bool.eq_false_iff]; exact he)).mono ?_
    rintro q w' ⟨h1, h3⟩
    rw [hz]
    exact ⟨_, _, h1, seqO _, h3⟩
  by_cases hf : fitB (reqA l (nxT l x)) e = true
  case neg =>
    have hz : doZ l x e v = (thO, 11) := by unfold doZ; rw [if_pos hr, if_pos he, if_neg hf]
    refine (rfDoOrder l A c x S cs e v w h hok hx hr he (by rw [Bool.eq_false_iff]; exact hf)).mono ?_
    rintro q w' ⟨h1, h3⟩
    rw [hz]
    exact ⟨_, _, h1, seqO _, h3⟩
  have hz : doZ l x e v = (behT (atT l (nxT l x)) (nxT l x) e v, 0) := by unfold doZ; rw [if_pos hr, if_pos he, if_pos hf]
  refine (rfDoOk l A c x S cs e v w h hok hx hs hl hr he hf).mono ?_
  rintro q w' ⟨A', c', h1, h2, h3⟩
  rw [hz]
  exact ⟨A', c', h1, h2, h3⟩
end Go.Proofs.Ytiegmpjoiekekaa
