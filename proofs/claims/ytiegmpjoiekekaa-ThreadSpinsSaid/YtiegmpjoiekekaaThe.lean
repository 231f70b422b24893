/-
  A visible instruction ends (layer 16): thread.finish, all events but 12 (see).
-/
import Derived.Test.YtiegmpjoiekekaaThp2
import Derived.Test.YtiegmpjoiekekaaEv
namespace Go.Proofs.Ytiegmpjoiekekaa
open Go.RowKit
set_option linter.unusedVariables false
set_option linter.unusedSimpArgs false
def endT (x : Th) : Th := { x with at_ := x.at_ + 1, ph := 0, rg := 0, tk := 0 }
/-- The registers behind an event that met what was asked for. -/
def regT (i : In) (x : Th) (e : Ev) (v : Nat) : Th :=
  if e.kd = 2 then setR x i.b.toNat 0
  else if e.kd = 4 then setR (setR x i.a.toNat v) i.b.toNat 0
  else if e.kd = 5 then setR x i.b.toNat 1
  else if e.kd = 6 then setR x i.b.toNat 2
  else if e.kd = 7 then setR x i.b.toNat 3
  else if e.kd = 8 ∨ e.kd = 9 then setR x i.a.toNat e.vl
  else if e.kd = 10 then setR (setR x i.a.toNat e.vl) i.b.toNat 0
  else if e.kd = 11 then setR x i.b.toNat 1
  else x
set_option maxHeartbeats 4000000 in
set_option maxRecDepth 100000 in
theorem fin2 (i : In) (x : Th) (e : Ev) (v : Nat) (v0 : Value) (g : Nat) (w : World) (h : Lies w g 27 (thC x v0)) (h0 : 0 ≤ x.at_) (h256 : x.at_ ≤ 256) (hb : 0 ≤ i.b ∧ i.b ≤ 7) (hk : e.kd = 2) :
    Calls Try.prog 35 #[.agg (inC i), .pointer (some ⟨g, 0, none⟩), .agg (evC e), .int .u64 (v : Int)] w (PlPost g (endT (regT i x e v)) v0 w) := by
  obtain ⟨bn, hbn⟩ : ∃ n : Nat, i.b = n := ⟨i.b.toNat, by omega⟩
  have hb8 : bn < 8 := by omega
  have HR : Hid (regT i x e v = setR x bn 0) := by show _ = _; unfold regT; rw [if_pos hk, hbn, Int.toNat_natCast]
  obtain ⟨iop, ia, ib, ic, id, ik⟩ := i
  have hbn : ib = bn := hbn
  subst hbn
  obtain ⟨eth, ekd, erg, etk, evl⟩ := e
  have hk : ekd = 2 := hk
  subst hk
  have hbw : Below w.heap.size w ((w.alloc (.cells (inC ⟨iop, ia, bn, ic, id, ik⟩) 50)).alloc (.cells (evC ⟨eth, 2, erg, etk, evl⟩) 42)) := ((Below.refl _ _).alloc (Nat.le_refl _) _).alloc (by simp) _
  have lg := h.below hbw h.lt
  have l0 := (Lies.made w 50 (inC ⟨iop, ia, bn, ic, id, ik⟩)).alloc (.cells (evC ⟨eth, 2, erg, etk, evl⟩) 42)
  have HBK := Lib.hid ((Kept.of_below hbw).mono (T := oneRow g) (fun _ _ (e : False) => e.elim))
  have HG := Lib.hid lg
  have HL := Lib.hid l0
  have hwa : IntKind.i64.wrap (x.at_ + 1) = x.at_ + 1 := IntWalk.i64_in _ (by omega)
  clear hbw lg l0 h
  go_enter Try.func35, Try.ntmps35
  go_upto_region 3 with (fail)
  generalize (w.alloc (.cells (inC ⟨iop, ia, bn, ic, id, ik⟩) 50)).alloc (.cells (evC ⟨eth, 2, erg, etk, evl⟩) 42) = w1 at *
  have d2 := (HL.out.cell 2).trans (show _ = some (Value.int .i64 (bn : Int)) from rfl)
  have dl := HL.out.lt
  have rb := (HG.out.cell (5 + bn)).trans (thC_reg x v0 hb8)
  have rl := HG.out.lt
  have rf := HG.out.free (5 + bn)
  go_region
  have HG2 := Lib.hid (show Lies (w1.setCell ⟨g, 5 + bn, none⟩ (.int .u64 0)).drew g 27 (thC (setR x bn 0) v0) from by have := (HG.out.put (5 + bn) (.int .u64 ((0 : Nat) : Int))).drew; rwa [thC_set x v0 hb8] at this)
  have HK2 := Lib.hid ((HBK.out.trans (Kept.put w1 g (5 + bn) (.int .u64 0)) (fun _ _ e => e)).trans (Kept.drew noRow _) (fun _ _ h => h.elim))
  clear rb rl rf d2 dl HG HL HBK
  generalize (w1.setCell ⟨g, 5 + bn, none⟩ (.int .u64 0)).drew = w2 at *
  have s0 := (HG2.out.cell 0).trans (show _ = some (Value.int .i64 x.at_) from rfl)
  have s1 := (HG2.out.cell 1).trans (show _ = some (Value.int .i64 x.ph) from rfl)
  have s2 := (HG2.out.cell 2).trans (show _ = some (Value.int .i64 x.rg) from rfl)
  have s4 := (HG2.out.cell 4).trans (show _ = some (Value.int .u64 (x.tk : Int)) from rfl)
  have sl := HG2.out.lt
  have f0 := HG2.out.free 0
  have f1 := HG2.out.free 1
  have f2 := HG2.out.free 2
  have f4 := HG2.out.free 4
  have HG4 := Lib.hid (show Lies ((((w2.setCell ⟨g, 0, none⟩ (.int .i64 (x.at_ + 1))).setCell ⟨g, 1, none⟩ (.int .i64 0)).setCell ⟨g, 2, none⟩ (.int .i64 0)).setCell ⟨g, 4, none⟩ (.int .u64 0)) g 27 (thC (endT ((setR x bn 0))) v0) from (((HG2.out.put 0 (.int .i64 (x.at_ + 1))).put 1 (.int .i64 0)).put 2 (.int .i64 0)).put 4 (.int .u64 0))
  have HK4 := Lib.hid ((((HK2.out.trans (Kept.put w2 g 0 (.int .i64 (x.at_ + 1))) (fun _ _ e => e)).trans (Kept.put _ g 1 (.int .i64 0)) (fun _ _ e => e)).trans (Kept.put _ g 2 (.int .i64 0)) (fun _ _ e => e)).trans (Kept.put _ g 4 (.int .u64 0)) (fun _ _ e => e))
  clear HG2 HK2
  go_wp2
  go_end0
  refine ⟨rfl, ?_, HK4.out⟩
  rw [HR.out]
  exact HG4.out
set_option maxHeartbeats 4000000 in
set_option maxRecDepth 100000 in
theorem fin5 (i : In) (x : Th) (e : Ev) (v : Nat) (v0 : Value) (g : Nat) (w : World) (h : Lies w g 27 (thC x v0)) (h0 : 0 ≤ x.at_) (h256 : x.at_ ≤ 256) (hb : 0 ≤ i.b ∧ i.b ≤ 7) (hk : e.kd = 5) :
    Calls Try.prog 35 #[.agg (inC i), .pointer (some ⟨g, 0, none⟩), .agg (evC e), .int .u64 (v : Int)] w (PlPost g (endT (regT i x e v)) v0 w) := by
  obtain ⟨bn, hbn⟩ : ∃ n : Nat, i.b = n := ⟨i.b.toNat, by omega⟩
  have hb8 : bn < 8 := by omega
  have HR : Hid (regT i x e v = setR x bn 1) := by show _ = _; unfold regT; simp [hk, hbn]
  obtain ⟨iop, ia, ib, ic, id, ik⟩ := i
  have hbn : ib = bn := hbn
  subst hbn
  obtain ⟨eth, ekd, erg, etk, evl⟩ := e
  have hk : ekd = 5 := hk
  subst hk
  have hbw : Below w.heap.size w ((w.alloc (.cells (inC ⟨iop, ia, bn, ic, id, ik⟩) 50)).alloc (.cells (evC ⟨eth, 5, erg, etk, evl⟩) 42)) := ((Below.refl _ _).alloc (Nat.le_refl _) _).alloc (by simp) _
  have lg := h.below hbw h.lt
  have l0 := (Lies.made w 50 (inC ⟨iop, ia, bn, ic, id, ik⟩)).alloc (.cells (evC ⟨eth, 5, erg, etk, evl⟩) 42)
  have HBK := Lib.hid ((Kept.of_below hbw).mono (T := oneRow g) (fun _ _ (e : False) => e.elim))
  have HG := Lib.hid lg
  have HL := Lib.hid l0
  have hwa : IntKind.i64.wrap (x.at_ + 1) = x.at_ + 1 := IntWalk.i64_in _ (by omega)
  clear hbw lg l0 h
  go_enter Try.func35, Try.ntmps35
  go_upto_region 8 with (fail)
  generalize (w.alloc (.cells (inC ⟨iop, ia, bn, ic, id, ik⟩) 50)).alloc (.cells (evC ⟨eth, 5, erg, etk, evl⟩) 42) = w1 at *
  have d2 := (HL.out.cell 2).trans (show _ = some (Value.int .i64 (bn : Int)) from rfl)
  have dl := HL.out.lt
  have rb := (HG.out.cell (5 + bn)).trans (thC_reg x v0 hb8)
  have rl := HG.out.lt
  have rf := HG.out.free (5 + bn)
  go_region
  have HG2 := Lib.hid (show Lies (w1.setCell ⟨g, 5 + bn, none⟩ (.int .u64 1)).drew g 27 (thC (setR x bn 1) v0) from by have := (HG.out.put (5 + bn) (.int .u64 ((1 : Nat) : Int))).drew; rwa [thC_set x v0 hb8] at this)
  have HK2 := Lib.hid ((HBK.out.trans (Kept.put w1 g (5 + bn) (.int .u64 1)) (fun _ _ e => e)).trans (Kept.drew noRow _) (fun _ _ h => h.elim))
  clear rb rl rf d2 dl HG HL HBK
  generalize (w1.setCell ⟨g, 5 + bn, none⟩ (.int .u64 1)).drew = w2 at *
  have s0 := (HG2.out.cell 0).trans (show _ = some (Value.int .i64 x.at_) from rfl)
  have s1 := (HG2.out.cell 1).trans (show _ = some (Value.int .i64 x.ph) from rfl)
  have s2 := (HG2.out.cell 2).trans (show _ = some (Value.int .i64 x.rg) from rfl)
  have s4 := (HG2.out.cell 4).trans (show _ = some (Value.int .u64 (x.tk : Int)) from rfl)
  have sl := HG2.out.lt
  have f0 := HG2.out.free 0
  have f1 := HG2.out.free 1
  have f2 := HG2.out.free 2
  have f4 := HG2.out.free 4
  have HG4 := Lib.hid (show Lies ((((w2.setCell ⟨g, 0, none⟩ (.int .i64 (x.at_ + 1))).setCell ⟨g, 1, none⟩ (.int .i64 0)).setCell ⟨g, 2, none⟩ (.int .i64 0)).setCell ⟨g, 4, none⟩ (.int .u64 0)) g 27 (thC (endT ((setR x bn 1))) v0) from (((HG2.out.put 0 (.int .i64 (x.at_ + 1))).put 1 (.int .i64 0)).put 2 (.int .i64 0)).put 4 (.int .u64 0))
  have HK4 := Lib.hid ((((HK2.out.trans (Kept.put w2 g 0 (.int .i64 (x.at_ + 1))) (fun _ _ e => e)).trans (Kept.put _ g 1 (.int .i64 0)) (fun _ _ e => e)).trans (Kept.put _ g 2 (.int .i64 0)) (fun _ _ e => e)).trans (Kept.put _ g 4 (.int .u64 0)) (fun _ _ e => e))
  clear HG2 HK2
  go_wp2
  go_end0
  refine ⟨rfl, ?_, HK4.out⟩
  rw [HR.out]
  exact HG4.out
set_option maxHeartbeats 4000000 in
set_option maxRecDepth 100000 in
theorem fin6 (i : In) (x : Th) (e : Ev) (v : Nat) (v0 : Value) (g : Nat) (w : World) (h : Lies w g 27 (thC x v0)) (h0 : 0 ≤ x.at_) (h256 : x.at_ ≤ 256) (hb : 0 ≤ i.b ∧ i.b ≤ 7) (hk : e.kd = 6) :
    Calls Try.prog 35 #[.agg (inC i), .pointer (some ⟨g, 0, none⟩), .agg (evC e), .int .u64 (v : Int)] w (PlPost g (endT (regT i x e v)) v0 w) := by
  obtain ⟨bn, hbn⟩ : ∃ n : Nat, i.b = n := ⟨i.b.toNat, by omega⟩
  have hb8 : bn < 8 := by omega
  have HR : Hid (regT i x e v = setR x bn 2) := by show _ = _; unfold regT; simp [hk, hbn]
  obtain ⟨iop, ia, ib, ic, id, ik⟩ := i
  have hbn : ib = bn := hbn
  subst hbn
  obtain ⟨eth, ekd, erg, etk, evl⟩ := e
  have hk : ekd = 6 := hk
  subst hk
  have hbw : Below w.heap.size w ((w.alloc (.cells (inC ⟨iop, ia, bn, ic, id, ik⟩) 50)).alloc (.cells (evC ⟨eth, 6, erg, etk, evl⟩) 42)) := ((Below.refl _ _).alloc (Nat.le_refl _) _).alloc (by simp) _
  have lg := h.below hbw h.lt
  have l0 := (Lies.made w 50 (inC ⟨iop, ia, bn, ic, id, ik⟩)).alloc (.cells (evC ⟨eth, 6, erg, etk, evl⟩) 42)
  have HBK := Lib.hid ((Kept.of_below hbw).mono (T := oneRow g) (fun _ _ (e : False) => e.elim))
  have HG := Lib.hid lg
  have HL := Lib.hid l0
  have hwa : IntKind.i64.wrap (x.at_ + 1) = x.at_ + 1 := IntWalk.i64_in _ (by omega)
  clear hbw lg l0 h
  go_enter Try.func35, Try.ntmps35
  go_upto_region 10 with (fail)
  generalize (w.alloc (.cells (inC ⟨iop, ia, bn, ic, id, ik⟩) 50)).alloc (.cells (evC ⟨eth, 6, erg, etk, evl⟩) 42) = w1 at *
  have d2 := (HL.out.cell 2).trans (show _ = some (Value.int .i64 (bn : Int)) from rfl)
  have dl := HL.out.lt
  have rb := (HG.out.cell (5 + bn)).trans (thC_reg x v0 hb8)
  have rl := HG.out.lt
  have rf := HG.out.free (5 + bn)
  go_region
  have HG2 := Lib.hid (show Lies (w1.setCell ⟨g, 5 + bn, none⟩ (.int .u64 2)).drew g 27 (thC (setR x bn 2) v0) from by have := (HG.out.put (5 + bn) (.int .u64 ((2 : Nat) : Int))).drew; rwa [thC_set x v0 hb8] at this)
  have HK2 := Lib.hid ((HBK.out.trans (Kept.put w1 g (5 + bn) (.int .u64 2)) (fun _ _ e => e)).trans (Kept.drew noRow _) (fun _ _ h => h.elim))
  clear rb rl rf d2 dl HG HL HBK
  generalize (w1.setCell ⟨g, 5 + bn, none⟩ (.int .u64 2)).drew = w2 at *
  have s0 := (HG2.out.cell 0).trans (show _ = some (Value.int .i64 x.at_) from rfl)
  have s1 := (HG2.out.cell 1).trans (show _ = some (Value.int .i64 x.ph) from rfl)
  have s2 := (HG2.out.cell 2).trans (show _ = some (Value.int .i64 x.rg) from rfl)
  have s4 := (HG2.out.cell 4).trans (show _ = some (Value.int .u64 (x.tk : Int)) from rfl)
  have sl := HG2.out.lt
  have f0 := HG2.out.free 0
  have f1 := HG2.out.free 1
  have f2 := HG2.out.free 2
  have f4 := HG2.out.free 4
  have HG4 := Lib.hid (show Lies ((((w2.setCell ⟨g, 0, none⟩ (.int .i64 (x.at_ + 1))).setCell ⟨g, 1, none⟩ (.int .i64 0)).setCell ⟨g, 2, none⟩ (.int .i64 0)).setCell ⟨g, 4, none⟩ (.int .u64 0)) g 27 (thC (endT ((setR x bn 2))) v0) from (((HG2.out.put 0 (.int .i64 (x.at_ + 1))).put 1 (.int .i64 0)).put 2 (.int .i64 0)).put 4 (.int .u64 0))
  have HK4 := Lib.hid ((((HK2.out.trans (Kept.put w2 g 0 (.int .i64 (x.at_ + 1))) (fun _ _ e => e)).trans (Kept.put _ g 1 (.int .i64 0)) (fun _ _ e => e)).trans (Kept.put _ g 2 (.int .i64 0)) (fun _ _ e => e)).trans (Kept.put _ g 4 (.int .u64 0)) (fun _ _ e => e))
  clear HG2 HK2
  go_wp2
  go_end0
  refine ⟨rfl, ?_, HK4.out⟩
  rw [HR.out]
  exact HG4.out
set_option maxHeartbeats 4000000 in
set_option maxRecDepth 100000 in
theorem fin7 (i : In) (x : Th) (e : Ev) (v : Nat) (v0 : Value) (g : Nat) (w : World) (h : Lies w g 27 (thC x v0)) (h0 : 0 ≤ x.at_) (h256 : x.at_ ≤ 256) (hb : 0 ≤ i.b ∧ i.b ≤ 7) (hk : e.kd = 7) :
    Calls Try.prog 35 #[.agg (inC i), .pointer (some ⟨g, 0, none⟩), .agg (evC e), .int .u64 (v : Int)] w (PlPost g (endT (regT i x e v)) v0 w) := by
  obtain ⟨bn, hbn⟩ : ∃ n : Nat, i.b = n := ⟨i.b.toNat, by omega⟩
  have hb8 : bn < 8 := by omega
  have HR : Hid (regT i x e v = setR x bn 3) := by show _ = _; unfold regT; simp [hk, hbn]
  obtain ⟨iop, ia, ib, ic, id, ik⟩ := i
  have hbn : ib = bn := hbn
  subst hbn
  obtain ⟨eth, ekd, erg, etk, evl⟩ := e
  have hk : ekd = 7 := hk
  subst hk
  have hbw : Below w.heap.size w ((w.alloc (.cells (inC ⟨iop, ia, bn, ic, id, ik⟩) 50)).alloc (.cells (evC ⟨eth, 7, erg, etk, evl⟩) 42)) := ((Below.refl _ _).alloc (Nat.le_refl _) _).alloc (by simp) _
  have lg := h.below hbw h.lt
  have l0 := (Lies.made w 50 (inC ⟨iop, ia, bn, ic, id, ik⟩)).alloc (.cells (evC ⟨eth, 7, erg, etk, evl⟩) 42)
  have HBK := Lib.hid ((Kept.of_below hbw).mono (T := oneRow g) (fun _ _ (e : False) => e.elim))
  have HG := Lib.hid lg
  have HL := Lib.hid l0
  have hwa : IntKind.i64.wrap (x.at_ + 1) = x.at_ + 1 := IntWalk.i64_in _ (by omega)
  clear hbw lg l0 h
  go_enter Try.func35, Try.ntmps35
  go_upto_region 12 with (fail)
  generalize (w.alloc (.cells (inC ⟨iop, ia, bn, ic, id, ik⟩) 50)).alloc (.cells (evC ⟨eth, 7, erg, etk, evl⟩) 42) = w1 at *
  have d2 := (HL.out.cell 2).trans (show _ = some (Value.int .i64 (bn : Int)) from rfl)
  have dl := HL.out.lt
  have rb := (HG.out.cell (5 + bn)).trans (thC_reg x v0 hb8)
  have rl := HG.out.lt
  have rf := HG.out.free (5 + bn)
  go_region
  have HG2 := Lib.hid (show Lies (w1.setCell ⟨g, 5 + bn, none⟩ (.int .u64 3)).drew g 27 (thC (setR x bn 3) v0) from by have := (HG.out.put (5 + bn) (.int .u64 ((3 : Nat) : Int))).drew; rwa [thC_set x v0 hb8] at this)
  have HK2 := Lib.hid ((HBK.out.trans (Kept.put w1 g (5 + bn) (.int .u64 3)) (fun _ _ e => e)).trans (Kept.drew noRow _) (fun _ _ h => h.elim))
  clear rb rl rf d2 dl HG HL HBK
  generalize (w1.setCell ⟨g, 5 + bn, none⟩ (.int .u64 3)).drew = w2 at *
  have s0 := (HG2.out.cell 0).trans (show _ = some (Value.int .i64 x.at_) from rfl)
  have s1 := (HG2.out.cell 1).trans (show _ = some (Value.int .i64 x.ph) from rfl)
  have s2 := (HG2.out.cell 2).trans (show _ = some (Value.int .i64 x.rg) from rfl)
  have s4 := (HG2.out.cell 4).trans (show _ = some (Value.int .u64 (x.tk : Int)) from rfl)
  have sl := HG2.out.lt
  have f0 := HG2.out.free 0
  have f1 := HG2.out.free 1
  have f2 := HG2.out.free 2
  have f4 := HG2.out.free 4
  have HG4 := Lib.hid (show Lies ((((w2.setCell ⟨g, 0, none⟩ (.int .i64 (x.at_ + 1))).setCell ⟨g, 1, none⟩ (.int .i64 0)).setCell ⟨g, 2, none⟩ (.int .i64 0)).setCell ⟨g, 4, none⟩ (.int .u64 0)) g 27 (thC (endT ((setR x bn 3))) v0) from (((HG2.out.put 0 (.int .i64 (x.at_ + 1))).put 1 (.int .i64 0)).put 2 (.int .i64 0)).put 4 (.int .u64 0))
  have HK4 := Lib.hid ((((HK2.out.trans (Kept.put w2 g 0 (.int .i64 (x.at_ + 1))) (fun _ _ e => e)).trans (Kept.put _ g 1 (.int .i64 0)) (fun _ _ e => e)).trans (Kept.put _ g 2 (.int .i64 0)) (fun _ _ e => e)).trans (Kept.put _ g 4 (.int .u64 0)) (fun _ _ e => e))
  clear HG2 HK2
  go_wp2
  go_end0
  refine ⟨rfl, ?_, HK4.out⟩
  rw [HR.out]
  exact HG4.out
set_option maxHeartbeats 4000000 in
set_option maxRecDepth 100000 in
theorem fin11 (i : In) (x : Th) (e : Ev) (v : Nat) (v0 : Value) (g : Nat) (w : World) (h : Lies w g 27 (thC x v0)) (h0 : 0 ≤ x.at_) (h256 : x.at_ ≤ 256) (hb : 0 ≤ i.b ∧ i.b ≤ 7) (hk : e.kd = 11) :
    Calls Try.prog 35 #[.agg (inC i), .pointer (some ⟨g, 0, none⟩), .agg (evC e), .int .u64 (v : Int)] w (PlPost g (endT (regT i x e v)) v0 w) := by
  obtain ⟨bn, hbn⟩ : ∃ n : Nat, i.b = n := ⟨i.b.toNat, by omega⟩
  have hb8 : bn < 8 := by omega
  have HR : Hid (regT i x e v = setR x bn 1) := by show _ = _; unfold regT; simp [hk, hbn]
  obtain ⟨iop, ia, ib, ic, id, ik⟩ := i
  have hbn : ib = bn := hbn
  subst hbn
  obtain ⟨eth, ekd, erg, etk, evl⟩ := e
  have hk : ekd = 11 := hk
  subst hk
  have hbw : Below w.heap.size w ((w.alloc (.cells (inC ⟨iop, ia, bn, ic, id, ik⟩) 50)).alloc (.cells (evC ⟨eth, 11, erg, etk, evl⟩) 42)) := ((Below.refl _ _).alloc (Nat.le_refl _) _).alloc (by simp) _
  have lg := h.below hbw h.lt
  have l0 := (Lies.made w 50 (inC ⟨iop, ia, bn, ic, id, ik⟩)).alloc (.cells (evC ⟨eth, 11, erg, etk, evl⟩) 42)
  have HBK := Lib.hid ((Kept.of_below hbw).mono (T := oneRow g) (fun _ _ (e : False) => e.elim))
  have HG := Lib.hid lg
  have HL := Lib.hid l0
  have hwa : IntKind.i64.wrap (x.at_ + 1) = x.at_ + 1 := IntWalk.i64_in _ (by omega)
  clear hbw lg l0 h
  go_enter Try.func35, Try.ntmps35
  go_upto_region 20 with (fail)
  generalize (w.alloc (.cells (inC ⟨iop, ia, bn, ic, id, ik⟩) 50)).alloc (.cells (evC ⟨eth, 11, erg, etk, evl⟩) 42) = w1 at *
  have d2 := (HL.out.cell 2).trans (show _ = some (Value.int .i64 (bn : Int)) from rfl)
  have dl := HL.out.lt
  have rb := (HG.out.cell (5 + bn)).trans (thC_reg x v0 hb8)
  have rl := HG.out.lt
  have rf := HG.out.free (5 + bn)
  go_region
  have HG2 := Lib.hid (show Lies (w1.setCell ⟨g, 5 + bn, none⟩ (.int .u64 1)).drew g 27 (thC (setR x bn 1) v0) from by have := (HG.out.put (5 + bn) (.int .u64 ((1 : Nat) : Int))).drew; rwa [thC_set x v0 hb8] at this)
  have HK2 := Lib.hid ((HBK.out.trans (Kept.put w1 g (5 + bn) (.int .u64 1)) (fun _ _ e => e)).trans (Kept.drew noRow _) (fun _ _ h => h.elim))
  clear rb rl rf d2 dl HG HL HBK
  generalize (w1.setCell ⟨g, 5 + bn, none⟩ (.int .u64 1)).drew = w2 at *
  have s0 := (HG2.out.cell 0).trans (show _ = some (Value.int .i64 x.at_) from rfl)
  have s1 := (HG2.out.cell 1).trans (show _ = some (Value.int .i64 x.ph) from rfl)
  have s2 := (HG2.out.cell 2).trans (show _ = some (Value.int .i64 x.rg) from rfl)
  have s4 := (HG2.out.cell 4).trans (show _ = some (Value.int .u64 (x.tk : Int)) from rfl)
  have sl := HG2.out.lt
  have f0 := HG2.out.free 0
  have f1 := HG2.out.free 1
  have f2 := HG2.out.free 2
  have f4 := HG2.out.free 4
  have HG4 := Lib.hid (show Lies ((((w2.setCell ⟨g, 0, none⟩ (.int .i64 (x.at_ + 1))).setCell ⟨g, 1, none⟩ (.int .i64 0)).setCell ⟨g, 2, none⟩ (.int .i64 0)).setCell ⟨g, 4, none⟩ (.int .u64 0)) g 27 (thC (endT ((setR x bn 1))) v0) from (((HG2.out.put 0 (.int .i64 (x.at_ + 1))).put 1 (.int .i64 0)).put 2 (.int .i64 0)).put 4 (.int .u64 0))
  have HK4 := Lib.hid ((((HK2.out.trans (Kept.put w2 g 0 (.int .i64 (x.at_ + 1))) (fun _ _ e => e)).trans (Kept.put _ g 1 (.int .i64 0)) (fun _ _ e => e)).trans (Kept.put _ g 2 (.int .i64 0)) (fun _ _ e => e)).trans (Kept.put _ g 4 (.int .u64 0)) (fun _ _ e => e))
  clear HG2 HK2
  go_wp2
  go_end0
  refine ⟨rfl, ?_, HK4.out⟩
  rw [HR.out]
  exact HG4.out
set_option maxHeartbeats 4000000 in
set_option maxRecDepth 100000 in
theorem fin8 (i : In) (x : Th) (e : Ev) (v : Nat) (v0 : Value) (g : Nat) (w : World) (h : Lies w g 27 (thC x v0)) (h0 : 0 ≤ x.at_) (h256 : x.at_ ≤ 256) (hb : 0 ≤ i.a ∧ i.a ≤ 7) (hk : e.kd = 8) :
    Calls Try.prog 35 #[.agg (inC i), .pointer (some ⟨g, 0, none⟩), .agg (evC e), .int .u64 (v : Int)] w (PlPost g (endT (regT i x e v)) v0 w) := by
  obtain ⟨bn, hbn⟩ : ∃ n : Nat, i.a = n := ⟨i.a.toNat, by omega⟩
  have hb8 : bn < 8 := by omega
  have HR : Hid (regT i x e v = setR x bn e.vl) := by show _ = _; unfold regT; simp [hk, hbn]
  obtain ⟨iop, ia, ib, ic, id, ik⟩ := i
  have hbn : ia = bn := hbn
  subst hbn
  obtain ⟨eth, ekd, erg, etk, evl⟩ := e
  have hk : ekd = 8 := hk
  subst hk
  have hbw : Below w.heap.size w ((w.alloc (.cells (inC ⟨iop, bn, ib, ic, id, ik⟩) 50)).alloc (.cells (evC ⟨eth, 8, erg, etk, evl⟩) 42)) := ((Below.refl _ _).alloc (Nat.le_refl _) _).alloc (by simp) _
  have lg := h.below hbw h.lt
  have l0 := (Lies.made w 50 (inC ⟨iop, bn, ib, ic, id, ik⟩)).alloc (.cells (evC ⟨eth, 8, erg, etk, evl⟩) 42)
  have HBK := Lib.hid ((Kept.of_below hbw).mono (T := oneRow g) (fun _ _ (e : False) => e.elim))
  have HG := Lib.hid lg
  have HL := Lib.hid l0
  have le := Lies.made (w.alloc (.cells (inC ⟨iop, bn, ib, ic, id, ik⟩) 50)) 42 (evC ⟨eth, 8, erg, etk, evl⟩)
  rw [show (w.alloc (.cells (inC ⟨iop, bn, ib, ic, id, ik⟩) 50)).heap.size = w.heap.size + 1 by simp] at le
  have HLE := Lib.hid le
  have hwa : IntKind.i64.wrap (x.at_ + 1) = x.at_ + 1 := IntWalk.i64_in _ (by omega)
  clear hbw lg l0 h le
  go_enter Try.func35, Try.ntmps35
  go_upto_region 15 with (fail)
  generalize (w.alloc (.cells (inC ⟨iop, bn, ib, ic, id, ik⟩) 50)).alloc (.cells (evC ⟨eth, 8, erg, etk, evl⟩) 42) = w1 at *
  have d2 := (HL.out.cell 1).trans (show _ = some (Value.int .i64 (bn : Int)) from rfl)
  have dl := HL.out.lt
  have d4 := (HLE.out.cell 4).trans (show _ = some (Value.int .u64 (evl : Int)) from rfl)
  have el := HLE.out.lt
  have rb := (HG.out.cell (5 + bn)).trans (thC_reg x v0 hb8)
  have rl := HG.out.lt
  have rf := HG.out.free (5 + bn)
  go_region
  have HG2 := Lib.hid (show Lies (w1.setCell ⟨g, 5 + bn, none⟩ (.int .u64 (evl : Int))).drew g 27 (thC (setR x bn evl) v0) from by have := (HG.out.put (5 + bn) (.int .u64 ((evl : Nat) : Int))).drew; rwa [thC_set x v0 hb8] at this)
  have HK2 := Lib.hid ((HBK.out.trans (Kept.put w1 g (5 + bn) (.int .u64 (evl : Int))) (fun _ _ e => e)).trans (Kept.drew noRow _) (fun _ _ h => h.elim))
  clear rb rl rf d2 dl HG HL HBK d4 el HLE
  generalize (w1.setCell ⟨g, 5 + bn, none⟩ (.int .u64 (evl : Int))).drew = w2 at *
  have s0 := (HG2.out.cell 0).trans (show _ = some (Value.int .i64 x.at_) from rfl)
  have s1 := (HG2.out.cell 1).trans (show _ = some (Value.int .i64 x.ph) from rfl)
  have s2 := (HG2.out.cell 2).trans (show _ = some (Value.int .i64 x.rg) from rfl)
  have s4 := (HG2.out.cell 4).trans (show _ = some (Value.int .u64 (x.tk : Int)) from rfl)
  have sl := HG2.out.lt
  have f0 := HG2.out.free 0
  have f1 := HG2.out.free 1
  have f2 := HG2.out.free 2
  have f4 := HG2.out.free 4
  have HG4 := Lib.hid (show Lies ((((w2.setCell ⟨g, 0, none⟩ (.int .i64 (x.at_ + 1))).setCell ⟨g, 1, none⟩ (.int .i64 0)).setCell ⟨g, 2, none⟩ (.int .i64 0)).setCell ⟨g, 4, none⟩ (.int .u64 0)) g 27 (thC (endT ((setR x bn evl))) v0) from (((HG2.out.put 0 (.int .i64 (x.at_ + 1))).put 1 (.int .i64 0)).put 2 (.int .i64 0)).put 4 (.int .u64 0))
  have HK4 := Lib.hid ((((HK2.out.trans (Kept.put w2 g 0 (.int .i64 (x.at_ + 1))) (fun _ _ e => e)).trans (Kept.put _ g 1 (.int .i64 0)) (fun _ _ e => e)).trans (Kept.put _ g 2 (.int .i64 0)) (fun _ _ e => e)).trans (Kept.put _ g 4 (.int .u64 0)) (fun _ _ e => e))
  clear HG2 HK2
  go_wp2
  go_end0
  refine ⟨rfl, ?_, HK4.out⟩
  rw [HR.out]
  exact HG4.out
set_option maxHeartbeats 4000000 in
set_option maxRecDepth 100000 in
theorem fin9 (i : In) (x : Th) (e : Ev) (v : Nat) (v0 : Value) (g : Nat) (w : World) (h : Lies w g 27 (thC x v0)) (h0 : 0 ≤ x.at_) (h256 : x.at_ ≤ 256) (hb : 0 ≤ i.a ∧ i.a ≤ 7) (hk : e.kd = 9) :
    Calls Try.prog 35 #[.agg (inC i), .pointer (some ⟨g, 0, none⟩), .agg (evC e), .int .u64 (v : Int)] w (PlPost g (endT (regT i x e v)) v0 w) := by
  obtain ⟨bn, hbn⟩ : ∃ n : Nat, i.a = n := ⟨i.a.toNat, by omega⟩
  have hb8 : bn < 8 := by omega
  have HR : Hid (regT i x e v = setR x bn e.vl) := by show _ = _; unfold regT; simp [hk, hbn]
  obtain ⟨iop, ia, ib, ic, id, ik⟩ := i
  have hbn : ia = bn := hbn
  subst hbn
  obtain ⟨eth, ekd, erg, etk, evl⟩ := e
  have hk : ekd = 9 := hk
  subst hk
  have hbw : Below w.heap.size w ((w.alloc (.cells (inC ⟨iop, bn, ib, ic, id, ik⟩) 50)).alloc (.cells (evC ⟨eth, 9, erg, etk, evl⟩) 42)) := ((Below.refl _ _).alloc (Nat.le_refl _) _).alloc (by simp) _
  have lg := h.below hbw h.lt
  have l0 := (Lies.made w 50 (inC ⟨iop, bn, ib, ic, id, ik⟩)).alloc (.cells (evC ⟨eth, 9, erg, etk, evl⟩) 42)
  have HBK := Lib.hid ((Kept.of_below hbw).mono (T := oneRow g) (fun _ _ (e : False) => e.elim))
  have HG := Lib.hid lg
  have HL := Lib.hid l0
  have le := Lies.made (w.alloc (.cells (inC ⟨iop, bn, ib, ic, id, ik⟩) 50)) 42 (evC ⟨eth, 9, erg, etk, evl⟩)
  rw [show (w.alloc (.cells (inC ⟨iop, bn, ib, ic, id, ik⟩) 50)).heap.size = w.heap.size + 1 by simp] at le
  have HLE := Lib.hid le
  have hwa : IntKind.i64.wrap (x.at_ + 1) = x.at_ + 1 := IntWalk.i64_in _ (by omega)
  clear hbw lg l0 h le
  go_enter Try.func35, Try.ntmps35
  go_upto_region 15 with (fail)
  generalize (w.alloc (.cells (inC ⟨iop, bn, ib, ic, id, ik⟩) 50)).alloc (.cells (evC ⟨eth, 9, erg, etk, evl⟩) 42) = w1 at *
  have d2 := (HL.out.cell 1).trans (show _ = some (Value.int .i64 (bn : Int)) from rfl)
  have dl := HL.out.lt
  have d4 := (HLE.out.cell 4).trans (show _ = some (Value.int .u64 (evl : Int)) from rfl)
  have el := HLE.out.lt
  have rb := (HG.out.cell (5 + bn)).trans (thC_reg x v0 hb8)
  have rl := HG.out.lt
  have rf := HG.out.free (5 + bn)
  go_region
  have HG2 := Lib.hid (show Lies (w1.setCell ⟨g, 5 + bn, none⟩ (.int .u64 (evl : Int))).drew g 27 (thC (setR x bn evl) v0) from by have := (HG.out.put (5 + bn) (.int .u64 ((evl : Nat) : Int))).drew; rwa [thC_set x v0 hb8] at this)
  have HK2 := Lib.hid ((HBK.out.trans (Kept.put w1 g (5 + bn) (.int .u64 (evl : Int))) (fun _ _ e => e)).trans (Kept.drew noRow _) (fun _ _ h => h.elim))
  clear rb rl rf d2 dl HG HL HBK d4 el HLE
  generalize (w1.setCell ⟨g, 5 + bn, none⟩ (.int .u64 (evl : Int))).drew = w2 at *
  have s0 := (HG2.out.cell 0).trans (show _ = some (Value.int .i64 x.at_) from rfl)
  have s1 := (HG2.out.cell 1).trans (show _ = some (Value.int .i64 x.ph) from rfl)
  have s2 := (HG2.out.cell 2).trans (show _ = some (Value.int .i64 x.rg) from rfl)
  have s4 := (HG2.out.cell 4).trans (show _ = some (Value.int .u64 (x.tk : Int)) from rfl)
  have sl := HG2.out.lt
  have f0 := HG2.out.free 0
  have f1 := HG2.out.free 1
  have f2 := HG2.out.free 2
  have f4 := HG2.out.free 4
  have HG4 := Lib.hid (show Lies ((((w2.setCell ⟨g, 0, none⟩ (.int .i64 (x.at_ + 1))).setCell ⟨g, 1, none⟩ (.int .i64 0)).setCell ⟨g, 2, none⟩ (.int .i64 0)).setCell ⟨g, 4, none⟩ (.int .u64 0)) g 27 (thC (endT ((setR x bn evl))) v0) from (((HG2.out.put 0 (.int .i64 (x.at_ + 1))).put 1 (.int .i64 0)).put 2 (.int .i64 0)).put 4 (.int .u64 0))
  have HK4 := Lib.hid ((((HK2.out.trans (Kept.put w2 g 0 (.int .i64 (x.at_ + 1))) (fun _ _ e => e)).trans (Kept.put _ g 1 (.int .i64 0)) (fun _ _ e => e)).trans (Kept.put _ g 2 (.int .i64 0)) (fun _ _ e => e)).trans (Kept.put _ g 4 (.int .u64 0)) (fun _ _ e => e))
  clear HG2 HK2
  go_wp2
  go_end0
  refine ⟨rfl, ?_, HK4.out⟩
  rw [HR.out]
  exact HG4.out
set_option maxHeartbeats 4000000 in
set_option maxRecDepth 100000 in
theorem fin13 (i : In) (x : Th) (e : Ev) (v : Nat) (v0 : Value) (g : Nat) (w : World) (h : Lies w g 27 (thC x v0)) (h0 : 0 ≤ x.at_) (h256 : x.at_ ≤ 256) (hb : 0 ≤ i.b ∧ i.b ≤ 7) (hk : e.kd = 13) :
    Calls Try.prog 35 #[.agg (inC i), .pointer (some ⟨g, 0, none⟩), .agg (evC e), .int .u64 (v : Int)] w (PlPost g (endT (regT i x e v)) v0 w) := by
  obtain ⟨bn, hbn⟩ : ∃ n : Nat, i.b = n := ⟨i.b.toNat, by omega⟩
  have hb8 : bn < 8 := by omega
  have HR : Hid (regT i x e v = x) := by show _ = _; unfold regT; simp [hk]
  obtain ⟨iop, ia, ib, ic, id, ik⟩ := i
  have hbn : ib = bn := hbn
  subst hbn
  obtain ⟨eth, ekd, erg, etk, evl⟩ := e
  have hk : ekd = 13 := hk
  subst hk
  have hbw : Below w.heap.size w ((w.alloc (.cells (inC ⟨iop, ia, bn, ic, id, ik⟩) 50)).alloc (.cells (evC ⟨eth, 13, erg, etk, evl⟩) 42)) := ((Below.refl _ _).alloc (Nat.le_refl _) _).alloc (by simp) _
  have lg := h.below hbw h.lt
  have l0 := (Lies.made w 50 (inC ⟨iop, ia, bn, ic, id, ik⟩)).alloc (.cells (evC ⟨eth, 13, erg, etk, evl⟩) 42)
  have HBK := Lib.hid ((Kept.of_below hbw).mono (T := oneRow g) (fun _ _ (e : False) => e.elim))
  have HG := Lib.hid lg
  have HL := Lib.hid l0
  have hwa : IntKind.i64.wrap (x.at_ + 1) = x.at_ + 1 := IntWalk.i64_in _ (by omega)
  clear hbw lg l0 h
  go_enter Try.func35, Try.ntmps35
  go_upto_region 23 with (fail)
  generalize (w.alloc (.cells (inC ⟨iop, ia, bn, ic, id, ik⟩) 50)).alloc (.cells (evC ⟨eth, 13, erg, etk, evl⟩) 42) = w1 at *
  have HG2 := HG
  have HK2 := HBK
  clear HG HL HBK
  have s0 := (HG2.out.cell 0).trans (show _ = some (Value.int .i64 x.at_) from rfl)
  have s1 := (HG2.out.cell 1).trans (show _ = some (Value.int .i64 x.ph) from rfl)
  have s2 := (HG2.out.cell 2).trans (show _ = some (Value.int .i64 x.rg) from rfl)
  have s4 := (HG2.out.cell 4).trans (show _ = some (Value.int .u64 (x.tk : Int)) from rfl)
  have sl := HG2.out.lt
  have f0 := HG2.out.free 0
  have f1 := HG2.out.free 1
  have f2 := HG2.out.free 2
  have f4 := HG2.out.free 4
  have HG4 := Lib.hid (show Lies ((((w1.setCell ⟨g, 0, none⟩ (.int .i64 (x.at_ + 1))).setCell ⟨g, 1, none⟩ (.int .i64 0)).setCell ⟨g, 2, none⟩ (.int .i64 0)).setCell ⟨g, 4, none⟩ (.int .u64 0)) g 27 (thC (endT (x)) v0) from (((HG2.out.put 0 (.int .i64 (x.at_ + 1))).put 1 (.int .i64 0)).put 2 (.int .i64 0)).put 4 (.int .u64 0))
  have HK4 := Lib.hid ((((HK2.out.trans (Kept.put w1 g 0 (.int .i64 (x.at_ + 1))) (fun _ _ e => e)).trans (Kept.put _ g 1 (.int .i64 0)) (fun _ _ e => e)).trans (Kept.put _ g 2 (.int .i64 0)) (fun _ _ e => e)).trans (Kept.put _ g 4 (.int .u64 0)) (fun _ _ e => e))
  clear HG2 HK2
  go_wp2
  go_end0
  refine ⟨rfl, ?_, HK4.out⟩
  rw [HR.out]
  exact HG4.out
end Go.Proofs.Ytiegmpjoiekekaa
