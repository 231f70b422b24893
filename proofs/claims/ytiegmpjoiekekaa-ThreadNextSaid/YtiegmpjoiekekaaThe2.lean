/-
  A visible instruction ends (layer 16): thread.finish, events 4 and 10.
-/
import Derived.Test.YtiegmpjoiekekaaThe
namespace Go.Proofs.Ytiegmpjoiekekaa
open Go.RowKit
set_option linter.unusedVariables false
set_option linter.unusedSimpArgs false
set_option maxHeartbeats 4000000 in
set_option maxRecDepth 100000 in
theorem fin4 (i : In) (x : Th) (e : Ev) (v : Nat) (v0 : Value) (g : Nat) (w : World) (h : Lies w g 27 (thC x v0)) (h0 : 0 ≤ x.at_) (h256 : x.at_ ≤ 256) (ha : 0 ≤ i.a ∧ i.a ≤ 7) (hb : 0 ≤ i.b ∧ i.b ≤ 7) (hk : e.kd = 4) :
    Calls Try.prog 35 #[.agg (inC i), .pointer (some ⟨g, 0, none⟩), .agg (evC e), .int .u64 (v : Int)] w (PlPost g (endT (regT i x e v)) v0 w) := by
  obtain ⟨an, han⟩ : ∃ n : Nat, i.a = n := ⟨i.a.toNat, by omega⟩
  obtain ⟨bn, hbn⟩ : ∃ n : Nat, i.b = n := ⟨i.b.toNat, by omega⟩
  have ha8 : an < 8 := by omega
  have hb8 : bn < 8 := by omega
  have HR : Hid (regT i x e v = setR (setR x an v) bn 0) := by show _ = _; unfold regT; simp [hk, han, hbn]
  obtain ⟨iop, ia, ib, ic, id, ik⟩ := i
  have han : ia = an := han
  subst han
  have hbn : ib = bn := hbn
  subst hbn
  obtain ⟨eth, ekd, erg, etk, evl⟩ := e
  have hk : ekd = 4 := hk
  subst hk
  have hbw : Below w.heap.size w ((w.alloc (.cells (inC ⟨iop, an, bn, ic, id, ik⟩) 50)).alloc (.cells (evC ⟨eth, 4, erg, etk, evl⟩) 42)) := ((Below.refl _ _).alloc (Nat.le_refl _) _).alloc (by simp) _
  have lg := h.below hbw h.lt
  have hgl := h.lt
  have l0 := (Lies.made w 50 (inC ⟨iop, an, bn, ic, id, ik⟩)).alloc (.cells (evC ⟨eth, 4, erg, etk, evl⟩) 42)
  have le := Lies.made (w.alloc (.cells (inC ⟨iop, an, bn, ic, id, ik⟩) 50)) 42 (evC ⟨eth, 4, erg, etk, evl⟩)
  rw [show (w.alloc (.cells (inC ⟨iop, an, bn, ic, id, ik⟩) 50)).heap.size = w.heap.size + 1 by simp] at le
  have HBK := Lib.hid ((Kept.of_below hbw).mono (T := oneRow g) (fun _ _ (e : False) => e.elim))
  have HG := Lib.hid lg
  have HL := Lib.hid l0
  have HLE := Lib.hid le
  have HNE : Hid (w.heap.size ≠ g) := by show _ ≠ _; omega
  have hwa : IntKind.i64.wrap (x.at_ + 1) = x.at_ + 1 := IntWalk.i64_in _ (by omega)
  clear hbw lg l0 h le hgl
  go_enter Try.func35, Try.ntmps35
  go_upto_region 5 with (fail)
  generalize (w.alloc (.cells (inC ⟨iop, an, bn, ic, id, ik⟩) 50)).alloc (.cells (evC ⟨eth, 4, erg, etk, evl⟩) 42) = w1 at *
  have d1 := (HL.out.cell 1).trans (show _ = some (Value.int .i64 (an : Int)) from rfl)
  have dl := HL.out.lt
  have d4 := (HLE.out.cell 4).trans (show _ = some (Value.int .u64 (evl : Int)) from rfl)
  have el := HLE.out.lt
  have rb := (HG.out.cell (5 + an)).trans (thC_reg x v0 ha8)
  have rl := HG.out.lt
  have rf := HG.out.free (5 + an)
  go_region
  have HG1 := Lib.hid (show Lies (w1.setCell ⟨g, 5 + an, none⟩ (.int .u64 (v : Int))).drew g 27 (thC (setR x an v) v0) from by have := (HG.out.put (5 + an) (.int .u64 (v : Int))).drew; rwa [thC_set x v0 ha8] at this)
  have HK1 := Lib.hid ((HBK.out.trans (Kept.put w1 g (5 + an) (.int .u64 (v : Int))) (fun _ _ e => e)).trans (Kept.drew noRow _) (fun _ _ h => h.elim))
  have HL1 := Lib.hid (HL.out.far (p := ⟨g, 5 + an, none⟩) HNE.out (.int .u64 (v : Int))).drew
  clear rb rl rf d1 dl d4 el HG HL HBK HLE
  generalize (w1.setCell ⟨g, 5 + an, none⟩ (.int .u64 (v : Int))).drew = w2 at *
  go_upto_region 6 with (fail)
  have d2 := (HL1.out.cell 2).trans (show _ = some (Value.int .i64 (bn : Int)) from rfl)
  have dl := HL1.out.lt
  have rb := (HG1.out.cell (5 + bn)).trans (thC_reg (setR x an v) v0 hb8)
  have rl := HG1.out.lt
  have rf := HG1.out.free (5 + bn)
  go_region
  have HG2 := Lib.hid (show Lies (w2.setCell ⟨g, 5 + bn, none⟩ (.int .u64 0)).drew g 27 (thC (setR (setR x an v) bn 0) v0) from by have := (HG1.out.put (5 + bn) (.int .u64 ((0 : Nat) : Int))).drew; rwa [thC_set (setR x an v) v0 hb8] at this)
  have HK2 := Lib.hid ((HK1.out.trans (Kept.put w2 g (5 + bn) (.int .u64 0)) (fun _ _ e => e)).trans (Kept.drew noRow _) (fun _ _ h => h.elim))
  clear rb rl rf d2 dl HG1 HL1 HK1
  generalize (w2.setCell ⟨g, 5 + bn, none⟩ (.int .u64 0)).drew = w3 at *
  have s0 := (HG2.out.cell 0).trans (show _ = some (Value.int .i64 x.at_) from rfl)
  have s1 := (HG2.out.cell 1).trans (show _ = some (Value.int .i64 x.ph) from rfl)
  have s2 := (HG2.out.cell 2).trans (show _ = some (Value.int .i64 x.rg) from rfl)
  have s4 := (HG2.out.cell 4).trans (show _ = some (Value.int .u64 (x.tk : Int)) from rfl)
  have sl := HG2.out.lt
  have f0 := HG2.out.free 0
  have f1 := HG2.out.free 1
  have f2 := HG2.out.free 2
  have f4 := HG2.out.free 4
  have HG4 := Lib.hid (show Lies ((((w3.setCell ⟨g, 0, none⟩ (.int .i64 (x.at_ + 1))).setCell ⟨g, 1, none⟩ (.int .i64 0)).setCell ⟨g, 2, none⟩ (.int .i64 0)).setCell ⟨g, 4, none⟩ (.int .u64 0)) g 27 (thC (endT ((setR (setR x an v) bn 0))) v0) from (((HG2.out.put 0 (.int .i64 (x.at_ + 1))).put 1 (.int .i64 0)).put 2 (.int .i64 0)).put 4 (.int .u64 0))
  have HK4 := Lib.hid ((((HK2.out.trans (Kept.put w3 g 0 (.int .i64 (x.at_ + 1))) (fun _ _ e => e)).trans (Kept.put _ g 1 (.int .i64 0)) (fun _ _ e => e)).trans (Kept.put _ g 2 (.int .i64 0)) (fun _ _ e => e)).trans (Kept.put _ g 4 (.int .u64 0)) (fun _ _ e => e))
  clear HG2 HK2
  go_wp2
  go_end0
  refine ⟨rfl, ?_, HK4.out⟩
  rw [HR.out]
  exact HG4.out
set_option maxHeartbeats 4000000 in
set_option maxRecDepth 100000 in
theorem fin10 (i : In) (x : Th) (e : Ev) (v : Nat) (v0 : Value) (g : Nat) (w : World) (h : Lies w g 27 (thC x v0)) (h0 : 0 ≤ x.at_) (h256 : x.at_ ≤ 256) (ha : 0 ≤ i.a ∧ i.a ≤ 7) (hb : 0 ≤ i.b ∧ i.b ≤ 7) (hk : e.kd = 10) :
    Calls Try.prog 35 #[.agg (inC i), .pointer (some ⟨g, 0, none⟩), .agg (evC e), .int .u64 (v : Int)] w (PlPost g (endT (regT i x e v)) v0 w) := by
  obtain ⟨an, han⟩ : ∃ n : Nat, i.a = n := ⟨i.a.toNat, by omega⟩
  obtain ⟨bn, hbn⟩ : ∃ n : Nat, i.b = n := ⟨i.b.toNat, by omega⟩
  have ha8 : an < 8 := by omega
  have hb8 : bn < 8 := by omega
  have HR : Hid (regT i x e v = setR (setR x an e.vl) bn 0) := by show _ = _; unfold regT; simp [hk, han, hbn]
  obtain ⟨iop, ia, ib, ic, id, ik⟩ := i
  have han : ia = an := han
  subst han
  have hbn : ib = bn := hbn
  subst hbn
  obtain ⟨eth, ekd, erg, etk, evl⟩ := e
  have hk : ekd = 10 := hk
  subst hk
  have hbw : Below w.heap.size w ((w.alloc (.cells (inC ⟨iop, an, bn, ic, id, ik⟩) 50)).alloc (.cells (evC ⟨eth, 10, erg, etk, evl⟩) 42)) := ((Below.refl _ _).alloc (Nat.le_refl _) _).alloc (by simp) _
  have lg := h.below hbw h.lt
  have hgl := h.lt
  have l0 := (Lies.made w 50 (inC ⟨iop, an, bn, ic, id, ik⟩)).alloc (.cells (evC ⟨eth, 10, erg, etk, evl⟩) 42)
  have le := Lies.made (w.alloc (.cells (inC ⟨iop, an, bn, ic, id, ik⟩) 50)) 42 (evC ⟨eth, 10, erg, etk, evl⟩)
  rw [show (w.alloc (.cells (inC ⟨iop, an, bn, ic, id, ik⟩) 50)).heap.size = w.heap.size + 1 by simp] at le
  have HBK := Lib.hid ((Kept.of_below hbw).mono (T := oneRow g) (fun _ _ (e : False) => e.elim))
  have HG := Lib.hid lg
  have HL := Lib.hid l0
  have HLE := Lib.hid le
  have HNE : Hid (w.heap.size ≠ g) := by show _ ≠ _; omega
  have hwa : IntKind.i64.wrap (x.at_ + 1) = x.at_ + 1 := IntWalk.i64_in _ (by omega)
  clear hbw lg l0 h le hgl
  go_enter Try.func35, Try.ntmps35
  go_upto_region 17 with (fail)
  generalize (w.alloc (.cells (inC ⟨iop, an, bn, ic, id, ik⟩) 50)).alloc (.cells (evC ⟨eth, 10, erg, etk, evl⟩) 42) = w1 at *
  have d1 := (HL.out.cell 1).trans (show _ = some (Value.int .i64 (an : Int)) from rfl)
  have dl := HL.out.lt
  have d4 := (HLE.out.cell 4).trans (show _ = some (Value.int .u64 (evl : Int)) from rfl)
  have el := HLE.out.lt
  have rb := (HG.out.cell (5 + an)).trans (thC_reg x v0 ha8)
  have rl := HG.out.lt
  have rf := HG.out.free (5 + an)
  go_region
  have HG1 := Lib.hid (show Lies (w1.setCell ⟨g, 5 + an, none⟩ (.int .u64 (evl : Int))).drew g 27 (thC (setR x an evl) v0) from by have := (HG.out.put (5 + an) (.int .u64 (evl : Int))).drew; rwa [thC_set x v0 ha8] at this)
  have HK1 := Lib.hid ((HBK.out.trans (Kept.put w1 g (5 + an) (.int .u64 (evl : Int))) (fun _ _ e => e)).trans (Kept.drew noRow _) (fun _ _ h => h.elim))
  have HL1 := Lib.hid (HL.out.far (p := ⟨g, 5 + an, none⟩) HNE.out (.int .u64 (evl : Int))).drew
  clear rb rl rf d1 dl d4 el HG HL HBK HLE
  generalize (w1.setCell ⟨g, 5 + an, none⟩ (.int .u64 (evl : Int))).drew = w2 at *
  go_upto_region 18 with (fail)
  have d2 := (HL1.out.cell 2).trans (show _ = some (Value.int .i64 (bn : Int)) from rfl)
  have dl := HL1.out.lt
  have rb := (HG1.out.cell (5 + bn)).trans (thC_reg (setR x an evl) v0 hb8)
  have rl := HG1.out.lt
  have rf := HG1.out.free (5 + bn)
  go_region
  have HG2 := Lib.hid (show Lies (w2.setCell ⟨g, 5 + bn, none⟩ (.int .u64 0)).drew g 27 (thC (setR (setR x an evl) bn 0) v0) from by have := (HG1.out.put (5 + bn) (.int .u64 ((0 : Nat) : Int))).drew; rwa [thC_set (setR x an evl) v0 hb8] at this)
  have HK2 := Lib.hid ((HK1.out.trans (Kept.put w2 g (5 + bn) (.int .u64 0)) (fun _ _ e => e)).trans (Kept.drew noRow _) (fun _ _ h => h.elim))
  clear rb rl rf d2 dl HG1 HL1 HK1
  generalize (w2.setCell ⟨g, 5 + bn, none⟩ (.int .u64 0)).drew = w3 at *
  have s0 := (HG2.out.cell 0).trans (show _ = some (Value.int .i64 x.at_) from rfl)
  have s1 := (HG2.out.cell 1).trans (show _ = some (Value.int .i64 x.ph) from rfl)
  have s2 := (HG2.out.cell 2).trans (show _ = some (Value.int .i64 x.rg) from rfl)
  have s4 := (HG2.out.cell 4).trans (show _ = some (Value.int .u64 (x.tk : Int)) from rfl)
  have sl := HG2.out.lt
  have f0 := HG2.out.free 0
  have f1 := HG2.out.free 1
  have f2 := HG2.out.free 2
  have f4 := HG2.out.free 4
  have HG4 := Lib.hid (show Lies ((((w3.setCell ⟨g, 0, none⟩ (.int .i64 (x.at_ + 1))).setCell ⟨g, 1, none⟩ (.int .i64 0)).setCell ⟨g, 2, none⟩ (.int .i64 0)).setCell ⟨g, 4, none⟩ (.int .u64 0)) g 27 (thC (endT ((setR (setR x an evl) bn 0))) v0) from (((HG2.out.put 0 (.int .i64 (x.at_ + 1))).put 1 (.int .i64 0)).put 2 (.int .i64 0)).put 4 (.int .u64 0))
  have HK4 := Lib.hid ((((HK2.out.trans (Kept.put w3 g 0 (.int .i64 (x.at_ + 1))) (fun _ _ e => e)).trans (Kept.put _ g 1 (.int .i64 0)) (fun _ _ e => e)).trans (Kept.put _ g 2 (.int .i64 0)) (fun _ _ e => e)).trans (Kept.put _ g 4 (.int .u64 0)) (fun _ _ e => e))
  clear HG2 HK2
  go_wp2
  go_end0
  refine ⟨rfl, ?_, HK4.out⟩
  rw [HR.out]
  exact HG4.out
end Go.Proofs.Ytiegmpjoiekekaa
