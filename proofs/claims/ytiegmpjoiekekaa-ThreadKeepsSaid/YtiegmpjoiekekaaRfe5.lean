import Derived.Test.YtiegmpjoiekekaaThd
import Derived.Deep.RegionLaw
import Derived.Test.YtiegmpjoiekekaaRfe2
/-
  What an event makes of a thread (layer 16): the document's Behind: what gives a ticket, or ends a thread.
-/
namespace Go.Proofs.Ytiegmpjoiekekaa
open Go.RowKit
set_option linter.unusedVariables false
set_option linter.unusedSimpArgs false
set_option maxHeartbeats 8000000 in
set_option maxRecDepth 100000 in
theorem rfBeh14 (l : List In) (A : Option Addr) (c : Nat) (y : Th) (v0 : Value) (e : Ev) (v : Nat) (w : World) (h : InsAt w A c l) (hv : v0.oneCell' = true) (hk : e.kd = 14) :
    Calls Try.prog 36 #[.slice A l.length c, .agg (thC y v0), .agg (evC e), .int .u64 (v : Int)] w fun q w' => q = .returned (.agg (thC (behT (atT l y) y e v) v0)) ∧ Below w.heap.size w w' := by
  obtain ⟨hc1, hc2⟩ := seq_form h
  have hb3 : Below w.heap.size w (((w.alloc (.cells (thC y v0) 27)).alloc (.cells (evC e) 42)).alloc (.cells thZ 27)) := (((Below.refl _ _).alloc (Nat.le_refl _) _).alloc (by simp) _).alloc (by simp; omega) _
  have l1 := ((Lies.made w 27 (thC y v0)).alloc (.cells (evC e) 42)).alloc (.cells thZ 27)
  have l2 := (Lies.made (w.alloc (.cells (thC y v0) 27)) 42 (evC e)).alloc (.cells thZ 27)
  have l3 := Lies.made ((w.alloc (.cells (thC y v0) 27)).alloc (.cells (evC e) 42)) 27 thZ
  rw [show (w.alloc (.cells (thC y v0) 27)).heap.size = w.heap.size + 1 by simp] at l2
  rw [show ((w.alloc (.cells (thC y v0) 27)).alloc (.cells (evC e) 42)).heap.size = w.heap.size + 1 + 1 by simp] at l3
  have HB := Lib.hid hb3
  have HG := Lib.hid l1
  have HE := Lib.hid l2
  have H4 := Lib.hid l3
  have HONE := Lib.hid (fun z => thC_one z hv)
  have HKD := Lib.hid hk
  have HH := Lib.hid (fun (q : World) (hq : Below w.heap.size w q) => h.later hq)
  clear hb3 l1 l2 l3 hk
  clear HH h hv
  go_enter Try.func36, Try.ntmps36
  go_upto_region 1 with (fail)
  generalize hw1 : (((w.alloc (.cells (thC y v0) 27)).alloc (.cells (evC e) 42)).alloc (.cells thZ 27)) = w1 at *
  clear hw1
  have q0 := (HE.out.cell 0).trans (show _ = some (Value.int .i64 e.th) from rfl)
  have q1 := (HE.out.cell 1).trans (show _ = some (Value.int .i64 e.kd) from rfl)
  have q2 := (HE.out.cell 2).trans (show _ = some (Value.int .i64 e.rg) from rfl)
  have q3 := (HE.out.cell 3).trans (show _ = some (Value.int .u64 (e.tk : Int)) from rfl)
  have q4 := (HE.out.cell 4).trans (show _ = some (Value.int .u64 (e.vl : Int)) from rfl)
  have ql := HE.out.lt
  rw [HKD.out] at q1
  have c3 := (HG.out.cell 3).trans (show _ = some (.int .i64 y.st) from rfl)
  have cl := HG.out.lt
  have f3 := HG.out.free 3
  go_upto_region 11 with (fail)
  clear q0 q1 q2 q3 q4 ql
  clear c3 cl f3
  replace H4 := Lib.hid (H4.out.far (p := ⟨w.heap.size, 3, none⟩) (show w.heap.size + 1 + 1 ≠ w.heap.size by omega) (.int .i64 1))
  replace HE := Lib.hid (HE.out.far (p := ⟨w.heap.size, 3, none⟩) (show w.heap.size + 1 ≠ w.heap.size by omega) (.int .i64 1))
  replace HB := Lib.hid (HB.out.setCell (p := ⟨w.heap.size, 3, none⟩) (Nat.le_refl _) (.int .i64 1))
  replace HG := Lib.hid (show Lies (w1.setCell ⟨w.heap.size, 3, none⟩ (.int .i64 1)) (w.heap.size) 27 (thC ({ y with st := 1 } : Th) v0) from HG.out.put 3 (.int .i64 1))
  generalize w1.setCell ⟨w.heap.size, 3, none⟩ (.int .i64 1) = w9 at *
  have HBE : Hid (behT (atT l y) y e v = ({ y with st := 1 } : Th)) := by show _ = _; unfold behT; rw [HKD.out]; simp
  clear HE
  have c0 := (HG.out.cell 0).trans (show _ = some (Value.int .i64 ({ y with st := 1 } : Th).at_) from rfl)
  have c1 := (HG.out.cell 1).trans (show _ = some (Value.int .i64 ({ y with st := 1 } : Th).ph) from rfl)
  have c2 := (HG.out.cell 2).trans (show _ = some (Value.int .i64 ({ y with st := 1 } : Th).rg) from rfl)
  have c3 := (HG.out.cell 3).trans (show _ = some (Value.int .i64 ({ y with st := 1 } : Th).st) from rfl)
  have c4 := (HG.out.cell 4).trans (show _ = some (Value.int .u64 (({ y with st := 1 } : Th).tk : Int)) from rfl)
  have c5 := (HG.out.cell 5).trans (show _ = some (Value.int .u64 (({ y with st := 1 } : Th).r 0 : Int)) from rfl)
  have c6 := (HG.out.cell 6).trans (show _ = some (Value.int .u64 (({ y with st := 1 } : Th).r 1 : Int)) from rfl)
  have c7 := (HG.out.cell 7).trans (show _ = some (Value.int .u64 (({ y with st := 1 } : Th).r 2 : Int)) from rfl)
  have c8 := (HG.out.cell 8).trans (show _ = some (Value.int .u64 (({ y with st := 1 } : Th).r 3 : Int)) from rfl)
  have c9 := (HG.out.cell 9).trans (show _ = some (Value.int .u64 (({ y with st := 1 } : Th).r 4 : Int)) from rfl)
  have c10 := (HG.out.cell 10).trans (show _ = some (Value.int .u64 (({ y with st := 1 } : Th).r 5 : Int)) from rfl)
  have c11 := (HG.out.cell 11).trans (show _ = some (Value.int .u64 (({ y with st := 1 } : Th).r 6 : Int)) from rfl)
  have c12 := (HG.out.cell 12).trans (show _ = some (Value.int .u64 (({ y with st := 1 } : Th).r 7 : Int)) from rfl)
  have c13 := (HG.out.cell 13).trans (show _ = some (v0) from rfl)
  have cl := HG.out.lt
  go_wp2_with (
    refine wpList_store_row rfl 27 _ _ rfl (w.heap.size + 1 + 1) (thC ({ y with st := 1 } : Th) v0) rfl rfl 27 thZ H4.out infoTh rfl (HONE.out _) ?_
    clear c0 c1 c2 c3 c4 c5 c6 c7 c8 c9 c10 c11 c12 c13 cl
    have hk9 := kept_rowT (w := w9) (g := w.heap.size + 1 + 1) (thC ({ y with st := 1 } : Th) v0)
    have HBZ := Lib.hid (HB.out.trans (hk9.below HB.out.size (fun k hk (e : k = w.heap.size + 1 + 1) => by omega)))
    have Q4 := Lib.hid (lies_row H4.out (thC ({ y with st := 1 } : Th) v0))
    clear hk9
    generalize w9.setRow (w.heap.size + 1 + 1) (thC ({ y with st := 1 } : Th) v0) = wF at *
    clear HB H4 HG
    generalize hz9 : ({ y with st := 1 } : Th) = Z9 at *
    have z0 := (Q4.out.cell 0).trans (show _ = some (Value.int .i64 Z9.at_) from rfl)
    have z1 := (Q4.out.cell 1).trans (show _ = some (Value.int .i64 Z9.ph) from rfl)
    have z2 := (Q4.out.cell 2).trans (show _ = some (Value.int .i64 Z9.rg) from rfl)
    have z3 := (Q4.out.cell 3).trans (show _ = some (Value.int .i64 Z9.st) from rfl)
    have z4 := (Q4.out.cell 4).trans (show _ = some (Value.int .u64 (Z9.tk : Int)) from rfl)
    have z5 := (Q4.out.cell 5).trans (show _ = some (Value.int .u64 (Z9.r 0 : Int)) from rfl)
    have z6 := (Q4.out.cell 6).trans (show _ = some (Value.int .u64 (Z9.r 1 : Int)) from rfl)
    have z7 := (Q4.out.cell 7).trans (show _ = some (Value.int .u64 (Z9.r 2 : Int)) from rfl)
    have z8 := (Q4.out.cell 8).trans (show _ = some (Value.int .u64 (Z9.r 3 : Int)) from rfl)
    have z9 := (Q4.out.cell 9).trans (show _ = some (Value.int .u64 (Z9.r 4 : Int)) from rfl)
    have z10 := (Q4.out.cell 10).trans (show _ = some (Value.int .u64 (Z9.r 5 : Int)) from rfl)
    have z11 := (Q4.out.cell 11).trans (show _ = some (Value.int .u64 (Z9.r 6 : Int)) from rfl)
    have z12 := (Q4.out.cell 12).trans (show _ = some (Value.int .u64 (Z9.r 7 : Int)) from rfl)
    have z13 := (Q4.out.cell 13).trans (show _ = some (v0) from rfl)
    have zl := Q4.out.lt
    go_wp2
    exact bodyPost_ret (v := .agg (thC Z9 v0)) (by simp [results, Try.results36, go_sem, z0, z1, z2, z3, z4, z5, z6, z7, z8, z9, z10, z11, z12, z13]) rfl ⟨by rw [HBE.out], HBZ.out⟩)
set_option maxHeartbeats 8000000 in
set_option maxRecDepth 100000 in
theorem rfBeh15 (l : List In) (A : Option Addr) (c : Nat) (y : Th) (v0 : Value) (e : Ev) (v : Nat) (w : World) (h : InsAt w A c l) (hv : v0.oneCell' = true) (hk : e.kd = 15) :
    Calls Try.prog 36 #[.slice A l.length c, .agg (thC y v0), .agg (evC e), .int .u64 (v : Int)] w fun q w' => q = .returned (.agg (thC (behT (atT l y) y e v) v0)) ∧ Below w.heap.size w w' := by
  obtain ⟨hc1, hc2⟩ := seq_form h
  have hb3 : Below w.heap.size w (((w.alloc (.cells (thC y v0) 27)).alloc (.cells (evC e) 42)).alloc (.cells thZ 27)) := (((Below.refl _ _).alloc (Nat.le_refl _) _).alloc (by simp) _).alloc (by simp; omega) _
  have l1 := ((Lies.made w 27 (thC y v0)).alloc (.cells (evC e) 42)).alloc (.cells thZ 27)
  have l2 := (Lies.made (w.alloc (.cells (thC y v0) 27)) 42 (evC e)).alloc (.cells thZ 27)
  have l3 := Lies.made ((w.alloc (.cells (thC y v0) 27)).alloc (.cells (evC e) 42)) 27 thZ
  rw [show (w.alloc (.cells (thC y v0) 27)).heap.size = w.heap.size + 1 by simp] at l2
  rw [show ((w.alloc (.cells (thC y v0) 27)).alloc (.cells (evC e) 42)).heap.size = w.heap.size + 1 + 1 by simp] at l3
  have HB := Lib.hid hb3
  have HG := Lib.hid l1
  have HE := Lib.hid l2
  have H4 := Lib.hid l3
  have HONE := Lib.hid (fun z => thC_one z hv)
  have HKD := Lib.hid hk
  have HH := Lib.hid (fun (q : World) (hq : Below w.heap.size w q) => h.later hq)
  clear hb3 l1 l2 l3 hk
  clear HH h hv
  go_enter Try.func36, Try.ntmps36
  go_upto_region 1 with (fail)
  generalize hw1 : (((w.alloc (.cells (thC y v0) 27)).alloc (.cells (evC e) 42)).alloc (.cells thZ 27)) = w1 at *
  clear hw1
  have q0 := (HE.out.cell 0).trans (show _ = some (Value.int .i64 e.th) from rfl)
  have q1 := (HE.out.cell 1).trans (show _ = some (Value.int .i64 e.kd) from rfl)
  have q2 := (HE.out.cell 2).trans (show _ = some (Value.int .i64 e.rg) from rfl)
  have q3 := (HE.out.cell 3).trans (show _ = some (Value.int .u64 (e.tk : Int)) from rfl)
  have q4 := (HE.out.cell 4).trans (show _ = some (Value.int .u64 (e.vl : Int)) from rfl)
  have ql := HE.out.lt
  rw [HKD.out] at q1
  have c3 := (HG.out.cell 3).trans (show _ = some (.int .i64 y.st) from rfl)
  have cl := HG.out.lt
  have f3 := HG.out.free 3
  go_upto_region 11 with (fail)
  clear q0 q1 q2 q3 q4 ql
  clear c3 cl f3
  replace H4 := Lib.hid (H4.out.far (p := ⟨w.heap.size, 3, none⟩) (show w.heap.size + 1 + 1 ≠ w.heap.size by omega) (.int .i64 2))
  replace HE := Lib.hid (HE.out.far (p := ⟨w.heap.size, 3, none⟩) (show w.heap.size + 1 ≠ w.heap.size by omega) (.int .i64 2))
  replace HB := Lib.hid (HB.out.setCell (p := ⟨w.heap.size, 3, none⟩) (Nat.le_refl _) (.int .i64 2))
  replace HG := Lib.hid (show Lies (w1.setCell ⟨w.heap.size, 3, none⟩ (.int .i64 2)) (w.heap.size) 27 (thC ({ y with st := 2 } : Th) v0) from HG.out.put 3 (.int .i64 2))
  generalize w1.setCell ⟨w.heap.size, 3, none⟩ (.int .i64 2) = w9 at *
  have HBE : Hid (behT (atT l y) y e v = ({ y with st := 2 } : Th)) := by show _ = _; unfold behT; rw [HKD.out]; simp
  clear HE
  have c0 := (HG.out.cell 0).trans (show _ = some (Value.int .i64 ({ y with st := 2 } : Th).at_) from rfl)
  have c1 := (HG.out.cell 1).trans (show _ = some (Value.int .i64 ({ y with st := 2 } : Th).ph) from rfl)
  have c2 := (HG.out.cell 2).trans (show _ = some (Value.int .i64 ({ y with st := 2 } : Th).rg) from rfl)
  have c3 := (HG.out.cell 3).trans (show _ = some (Value.int .i64 ({ y with st := 2 } : Th).st) from rfl)
  have c4 := (HG.out.cell 4).trans (show _ = some (Value.int .u64 (({ y with st := 2 } : Th).tk : Int)) from rfl)
  have c5 := (HG.out.cell 5).trans (show _ = some (Value.int .u64 (({ y with st := 2 } : Th).r 0 : Int)) from rfl)
  have c6 := (HG.out.cell 6).trans (show _ = some (Value.int .u64 (({ y with st := 2 } : Th).r 1 : Int)) from rfl)
  have c7 := (HG.out.cell 7).trans (show _ = some (Value.int .u64 (({ y with st := 2 } : Th).r 2 : Int)) from rfl)
  have c8 := (HG.out.cell 8).trans (show _ = some (Value.int .u64 (({ y with st := 2 } : Th).r 3 : Int)) from rfl)
  have c9 := (HG.out.cell 9).trans (show _ = some (Value.int .u64 (({ y with st := 2 } : Th).r 4 : Int)) from rfl)
  have c10 := (HG.out.cell 10).trans (show _ = some (Value.int .u64 (({ y with st := 2 } : Th).r 5 : Int)) from rfl)
  have c11 := (HG.out.cell 11).trans (show _ = some (Value.int .u64 (({ y with st := 2 } : Th).r 6 : Int)) from rfl)
  have c12 := (HG.out.cell 12).trans (show _ = some (Value.int .u64 (({ y with st := 2 } : Th).r 7 : Int)) from rfl)
  have c13 := (HG.out.cell 13).trans (show _ = some (v0) from rfl)
  have cl := HG.out.lt
  go_wp2_with (
    refine wpList_store_row rfl 27 _ _ rfl (w.heap.size + 1 + 1) (thC ({ y with st := 2 } : Th) v0) rfl rfl 27 thZ H4.out infoTh rfl (HONE.out _) ?_
    clear c0 c1 c2 c3 c4 c5 c6 c7 c8 c9 c10 c11 c12 c13 cl
    have hk9 := kept_rowT (w := w9) (g := w.heap.size + 1 + 1) (thC ({ y with st := 2 } : Th) v0)
    have HBZ := Lib.hid (HB.out.trans (hk9.below HB.out.size (fun k hk (e : k = w.heap.size + 1 + 1) => by omega)))
    have Q4 := Lib.hid (lies_row H4.out (thC ({ y with st := 2 } : Th) v0))
    clear hk9
    generalize w9.setRow (w.heap.size + 1 + 1) (thC ({ y with st := 2 } : Th) v0) = wF at *
    clear HB H4 HG
    generalize hz9 : ({ y with st := 2 } : Th) = Z9 at *
    have z0 := (Q4.out.cell 0).trans (show _ = some (Value.int .i64 Z9.at_) from rfl)
    have z1 := (Q4.out.cell 1).trans (show _ = some (Value.int .i64 Z9.ph) from rfl)
    have z2 := (Q4.out.cell 2).trans (show _ = some (Value.int .i64 Z9.rg) from rfl)
    have z3 := (Q4.out.cell 3).trans (show _ = some (Value.int .i64 Z9.st) from rfl)
    have z4 := (Q4.out.cell 4).trans (show _ = some (Value.int .u64 (Z9.tk : Int)) from rfl)
    have z5 := (Q4.out.cell 5).trans (show _ = some (Value.int .u64 (Z9.r 0 : Int)) from rfl)
    have z6 := (Q4.out.cell 6).trans (show _ = some (Value.int .u64 (Z9.r 1 : Int)) from rfl)
    have z7 := (Q4.out.cell 7).trans (show _ = some (Value.int .u64 (Z9.r 2 : Int)) from rfl)
    have z8 := (Q4.out.cell 8).trans (show _ = some (Value.int .u64 (Z9.r 3 : Int)) from rfl)
    have z9 := (Q4.out.cell 9).trans (show _ = some (Value.int .u64 (Z9.r 4 : Int)) from rfl)
    have z10 := (Q4.out.cell 10).trans (show _ = some (Value.int .u64 (Z9.r 5 : Int)) from rfl)
    have z11 := (Q4.out.cell 11).trans (show _ = some (Value.int .u64 (Z9.r 6 : Int)) from rfl)
    have z12 := (Q4.out.cell 12).trans (show _ = some (Value.int .u64 (Z9.r 7 : Int)) from rfl)
    have z13 := (Q4.out.cell 13).trans (show _ = some (v0) from rfl)
    have zl := Q4.out.lt
    go_wp2
    exact bodyPost_ret (v := .agg (thC Z9 v0)) (by simp [results, Try.results36, go_sem, z0, z1, z2, z3, z4, z5, z6, z7, z8, z9, z10, z11, z12, z13]) rfl ⟨by rw [HBE.out], HBZ.out⟩)
set_option maxHeartbeats 8000000 in
set_option maxRecDepth 100000 in
theorem rfBeh1 (l : List In) (A : Option Addr) (c : Nat) (y : Th) (v0 : Value) (e : Ev) (v : Nat) (w : World) (h : InsAt w A c l) (hv : v0.oneCell' = true) (hk : e.kd = 1) :
    Calls Try.prog 36 #[.slice A l.length c, .agg (thC y v0), .agg (evC e), .int .u64 (v : Int)] w fun q w' => q = .returned (.agg (thC (behT (atT l y) y e v) v0)) ∧ Below w.heap.size w w' := by
  obtain ⟨hc1, hc2⟩ := seq_form h
  have hb3 : Below w.heap.size w (((w.alloc (.cells (thC y v0) 27)).alloc (.cells (evC e) 42)).alloc (.cells thZ 27)) := (((Below.refl _ _).alloc (Nat.le_refl _) _).alloc (by simp) _).alloc (by simp; omega) _
  have l1 := ((Lies.made w 27 (thC y v0)).alloc (.cells (evC e) 42)).alloc (.cells thZ 27)
  have l2 := (Lies.made (w.alloc (.cells (thC y v0) 27)) 42 (evC e)).alloc (.cells thZ 27)
  have l3 := Lies.made ((w.alloc (.cells (thC y v0) 27)).alloc (.cells (evC e) 42)) 27 thZ
  rw [show (w.alloc (.cells (thC y v0) 27)).heap.size = w.heap.size + 1 by simp] at l2
  rw [show ((w.alloc (.cells (thC y v0) 27)).alloc (.cells (evC e) 42)).heap.size = w.heap.size + 1 + 1 by simp] at l3
  have HB := Lib.hid hb3
  have HG := Lib.hid l1
  have HE := Lib.hid l2
  have H4 := Lib.hid l3
  have HONE := Lib.hid (fun z => thC_one z hv)
  have HKD := Lib.hid hk
  have HH := Lib.hid (fun (q : World) (hq : Below w.heap.size w q) => h.later hq)
  clear hb3 l1 l2 l3 hk
  clear HH h hv
  go_enter Try.func36, Try.ntmps36
  go_upto_region 1 with (fail)
  generalize hw1 : (((w.alloc (.cells (thC y v0) 27)).alloc (.cells (evC e) 42)).alloc (.cells thZ 27)) = w1 at *
  clear hw1
  have q0 := (HE.out.cell 0).trans (show _ = some (Value.int .i64 e.th) from rfl)
  have q1 := (HE.out.cell 1).trans (show _ = some (Value.int .i64 e.kd) from rfl)
  have q2 := (HE.out.cell 2).trans (show _ = some (Value.int .i64 e.rg) from rfl)
  have q3 := (HE.out.cell 3).trans (show _ = some (Value.int .u64 (e.tk : Int)) from rfl)
  have q4 := (HE.out.cell 4).trans (show _ = some (Value.int .u64 (e.vl : Int)) from rfl)
  have ql := HE.out.lt
  rw [HKD.out] at q1
  have c1 := (HG.out.cell 1).trans (show _ = some (.int .i64 y.ph) from rfl)
  have c2 := (HG.out.cell 2).trans (show _ = some (.int .i64 y.rg) from rfl)
  have c4 := (HG.out.cell 4).trans (show _ = some (.int .u64 (y.tk : Int)) from rfl)
  have cl := HG.out.lt
  have f1 := HG.out.free 1
  have f2 := HG.out.free 2
  have f4 := HG.out.free 4
  go_upto_region 7 with (fail)
  clear q0 q1 q2 q3 q4 ql
  clear c1 c2 c4 cl f1 f2 f4
  replace H4 := Lib.hid (H4.out.far (p := ⟨w.heap.size, 1, none⟩) (show w.heap.size + 1 + 1 ≠ w.heap.size by omega) (.int .i64 1))
  replace HE := Lib.hid (HE.out.far (p := ⟨w.heap.size, 1, none⟩) (show w.heap.size + 1 ≠ w.heap.size by omega) (.int .i64 1))
  replace HB := Lib.hid (HB.out.setCell (p := ⟨w.heap.size, 1, none⟩) (Nat.le_refl _) (.int .i64 1))
  replace H4 := Lib.hid (H4.out.far (p := ⟨w.heap.size, 2, none⟩) (show w.heap.size + 1 + 1 ≠ w.heap.size by omega) (.int .i64 e.rg))
  replace HE := Lib.hid (HE.out.far (p := ⟨w.heap.size, 2, none⟩) (show w.heap.size + 1 ≠ w.heap.size by omega) (.int .i64 e.rg))
  replace HB := Lib.hid (HB.out.setCell (p := ⟨w.heap.size, 2, none⟩) (Nat.le_refl _) (.int .i64 e.rg))
  replace H4 := Lib.hid (H4.out.far (p := ⟨w.heap.size, 4, none⟩) (show w.heap.size + 1 + 1 ≠ w.heap.size by omega) (.int .u64 (e.tk : Int)))
  replace HE := Lib.hid (HE.out.far (p := ⟨w.heap.size, 4, none⟩) (show w.heap.size + 1 ≠ w.heap.size by omega) (.int .u64 (e.tk : Int)))
  replace HB := Lib.hid (HB.out.setCell (p := ⟨w.heap.size, 4, none⟩) (Nat.le_refl _) (.int .u64 (e.tk : Int)))
  replace HG := Lib.hid (show Lies (((w1.setCell ⟨w.heap.size, 1, none⟩ (.int .i64 1)).setCell ⟨w.heap.size, 2, none⟩ (.int .i64 e.rg)).setCell ⟨w.heap.size, 4, none⟩ (.int .u64 (e.tk : Int))) (w.heap.size) 27 (thC ({ y with ph := 1, rg := e.rg, tk := e.tk } : Th) v0) from ((HG.out.put 1 (.int .i64 1)).put 2 (.int .i64 e.rg)).put 4 (.int .u64 (e.tk : Int)))
  generalize ((w1.setCell ⟨w.heap.size, 1, none⟩ (.int .i64 1)).setCell ⟨w.heap.size, 2, none⟩ (.int .i64 e.rg)).setCell ⟨w.heap.size, 4, none⟩ (.int .u64 (e.tk : Int)) = w9 at *
  have HBE : Hid (behT (atT l y) y e v = ({ y with ph := 1, rg := e.rg, tk := e.tk } : Th)) := by show _ = _; unfold behT; rw [HKD.out]; simp
  clear HE
  have c0 := (HG.out.cell 0).trans (show _ = some (Value.int .i64 ({ y with ph := 1, rg := e.rg, tk := e.tk } : Th).at_) from rfl)
  have c1 := (HG.out.cell 1).trans (show _ = some (Value.int .i64 ({ y with ph := 1, rg := e.rg, tk := e.tk } : Th).ph) from rfl)
  have c2 := (HG.out.cell 2).trans (show _ = some (Value.int .i64 ({ y with ph := 1, rg := e.rg, tk := e.tk } : Th).rg) from rfl)
  have c3 := (HG.out.cell 3).trans (show _ = some (Value.int .i64 ({ y with ph := 1, rg := e.rg, tk := e.tk } : Th).st) from rfl)
  have c4 := (HG.out.cell 4).trans (show _ = some (Value.int .u64 (({ y with ph := 1, rg := e.rg, tk := e.tk } : Th).tk : Int)) from rfl)
  have c5 := (HG.out.cell 5).trans (show _ = some (Value.int .u64 (({ y with ph := 1, rg := e.rg, tk := e.tk } : Th).r 0 : Int)) from rfl)
  have c6 := (HG.out.cell 6).trans (show _ = some (Value.int .u64 (({ y with ph := 1, rg := e.rg, tk := e.tk } : Th).r 1 : Int)) from rfl)
  have c7 := (HG.out.cell 7).trans (show _ = some (Value.int .u64 (({ y with ph := 1, rg := e.rg, tk := e.tk } : Th).r 2 : Int)) from rfl)
  have c8 := (HG.out.cell 8).trans (show _ = some (Value.int .u64 (({ y with ph := 1, rg := e.rg, tk := e.tk } : Th).r 3 : Int)) from rfl)
  have c9 := (HG.out.cell 9).trans (show _ = some (Value.int .u64 (({ y with ph := 1, rg := e.rg, tk := e.tk } : Th).r 4 : Int)) from rfl)
  have c10 := (HG.out.cell 10).trans (show _ = some (Value.int .u64 (({ y with ph := 1, rg := e.rg, tk := e.tk } : Th).r 5 : Int)) from rfl)
  have c11 := (HG.out.cell 11).trans (show _ = some (Value.int .u64 (({ y with ph := 1, rg := e.rg, tk := e.tk } : Th).r 6 : Int)) from rfl)
  have c12 := (HG.out.cell 12).trans (show _ = some (Value.int .u64 (({ y with ph := 1, rg := e.rg, tk := e.tk } : Th).r 7 : Int)) from rfl)
  have c13 := (HG.out.cell 13).trans (show _ = some (v0) from rfl)
  have cl := HG.out.lt
  go_wp2_with (
    refine wpList_store_row rfl 27 _ _ rfl (w.heap.size + 1 + 1) (thC ({ y with ph := 1, rg := e.rg, tk := e.tk } : Th) v0) rfl rfl 27 thZ H4.out infoTh rfl (HONE.out _) ?_
    clear c0 c1 c2 c3 c4 c5 c6 c7 c8 c9 c10 c11 c12 c13 cl
    have hk9 := kept_rowT (w := w9) (g := w.heap.size + 1 + 1) (thC ({ y with ph := 1, rg := e.rg, tk := e.tk } : Th) v0)
    have HBZ := Lib.hid (HB.out.trans (hk9.below HB.out.size (fun k hk (e : k = w.heap.size + 1 + 1) => by omega)))
    have Q4 := Lib.hid (lies_row H4.out (thC ({ y with ph := 1, rg := e.rg, tk := e.tk } : Th) v0))
    clear hk9
    generalize w9.setRow (w.heap.size + 1 + 1) (thC ({ y with ph := 1, rg := e.rg, tk := e.tk } : Th) v0) = wF at *
    clear HB H4 HG
    generalize hz9 : ({ y with ph := 1, rg := e.rg, tk := e.tk } : Th) = Z9 at *
    have z0 := (Q4.out.cell 0).trans (show _ = some (Value.int .i64 Z9.at_) from rfl)
    have z1 := (Q4.out.cell 1).trans (show _ = some (Value.int .i64 Z9.ph) from rfl)
    have z2 := (Q4.out.cell 2).trans (show _ = some (Value.int .i64 Z9.rg) from rfl)
    have z3 := (Q4.out.cell 3).trans (show _ = some (Value.int .i64 Z9.st) from rfl)
    have z4 := (Q4.out.cell 4).trans (show _ = some (Value.int .u64 (Z9.tk : Int)) from rfl)
    have z5 := (Q4.out.cell 5).trans (show _ = some (Value.int .u64 (Z9.r 0 : Int)) from rfl)
    have z6 := (Q4.out.cell 6).trans (show _ = some (Value.int .u64 (Z9.r 1 : Int)) from rfl)
    have z7 := (Q4.out.cell 7).trans (show _ = some (Value.int .u64 (Z9.r 2 : Int)) from rfl)
    have z8 := (Q4.out.cell 8).trans (show _ = some (Value.int .u64 (Z9.r 3 : Int)) from rfl)
    have z9 := (Q4.out.cell 9).trans (show _ = some (Value.int .u64 (Z9.r 4 : Int)) from rfl)
    have z10 := (Q4.out.cell 10).trans (show _ = some (Value.int .u64 (Z9.r 5 : Int)) from rfl)
    have z11 := (Q4.out.cell 11).trans (show _ = some (Value.int .u64 (Z9.r 6 : Int)) from rfl)
    have z12 := (Q4.out.cell 12).trans (show _ = some (Value.int .u64 (Z9.r 7 : Int)) from rfl)
    have z13 := (Q4.out.cell 13).trans (show _ = some (v0) from rfl)
    have zl := Q4.out.lt
    go_wp2
    exact bodyPost_ret (v := .agg (thC Z9 v0)) (by simp [results, Try.results36, go_sem, z0, z1, z2, z3, z4, z5, z6, z7, z8, z9, z10, z11, z12, z13]) rfl ⟨by rw [HBE.out], HBZ.out⟩)
set_option maxHeartbeats 8000000 in
set_option maxRecDepth 100000 in
theorem rfBeh3 (l : List In) (A : Option Addr) (c : Nat) (y : Th) (v0 : Value) (e : Ev) (v : Nat) (w : World) (h : InsAt w A c l) (hv : v0.oneCell' = true) (hk : e.kd = 3) :
    Calls Try.prog 36 #[.slice A l.length c, .agg (thC y v0), .agg (evC e), .int .u64 (v : Int)] w fun q w' => q = .returned (.agg (thC (behT (atT l y) y e v) v0)) ∧ Below w.heap.size w w' := by
  obtain ⟨hc1, hc2⟩ := seq_form h
  have hb3 : Below w.heap.size w (((w.alloc (.cells (thC y v0) 27)).alloc (.cells (evC e) 42)).alloc (.cells thZ 27)) := (((Below.refl _ _).alloc (Nat.le_refl _) _).alloc (by simp) _).alloc (by simp; omega) _
  have l1 := ((Lies.made w 27 (thC y v0)).alloc (.cells (evC e) 42)).alloc (.cells thZ 27)
  have l2 := (Lies.made (w.alloc (.cells (thC y v0) 27)) 42 (evC e)).alloc (.cells thZ 27)
  have l3 := Lies.made ((w.alloc (.cells (thC y v0) 27)).alloc (.cells (evC e) 42)) 27 thZ
  rw [show (w.alloc (.cells (thC y v0) 27)).heap.size = w.heap.size + 1 by simp] at l2
  rw [show ((w.alloc (.cells (thC y v0) 27)).alloc (.cells (evC e) 42)).heap.size = w.heap.size + 1 + 1 by simp] at l3
  have HB := Lib.hid hb3
  have HG := Lib.hid l1
  have HE := Lib.hid l2
  have H4 := Lib.hid l3
  have HONE := Lib.hid (fun z => thC_one z hv)
  have HKD := Lib.hid hk
  have HH := Lib.hid (fun (q : World) (hq : Below w.heap.size w q) => h.later hq)
  clear hb3 l1 l2 l3 hk
  clear HH h hv
  go_enter Try.func36, Try.ntmps36
  go_upto_region 1 with (fail)
  generalize hw1 : (((w.alloc (.cells (thC y v0) 27)).alloc (.cells (evC e) 42)).alloc (.cells thZ 27)) = w1 at *
  clear hw1
  have q0 := (HE.out.cell 0).trans (show _ = some (Value.int .i64 e.th) from rfl)
  have q1 := (HE.out.cell 1).trans (show _ = some (Value.int .i64 e.kd) from rfl)
  have q2 := (HE.out.cell 2).trans (show _ = some (Value.int .i64 e.rg) from rfl)
  have q3 := (HE.out.cell 3).trans (show _ = some (Value.int .u64 (e.tk : Int)) from rfl)
  have q4 := (HE.out.cell 4).trans (show _ = some (Value.int .u64 (e.vl : Int)) from rfl)
  have ql := HE.out.lt
  rw [HKD.out] at q1
  have c1 := (HG.out.cell 1).trans (show _ = some (.int .i64 y.ph) from rfl)
  have c2 := (HG.out.cell 2).trans (show _ = some (.int .i64 y.rg) from rfl)
  have c4 := (HG.out.cell 4).trans (show _ = some (.int .u64 (y.tk : Int)) from rfl)
  have cl := HG.out.lt
  have f1 := HG.out.free 1
  have f2 := HG.out.free 2
  have f4 := HG.out.free 4
  go_upto_region 7 with (fail)
  clear q0 q1 q2 q3 q4 ql
  clear c1 c2 c4 cl f1 f2 f4
  replace H4 := Lib.hid (H4.out.far (p := ⟨w.heap.size, 1, none⟩) (show w.heap.size + 1 + 1 ≠ w.heap.size by omega) (.int .i64 2))
  replace HE := Lib.hid (HE.out.far (p := ⟨w.heap.size, 1, none⟩) (show w.heap.size + 1 ≠ w.heap.size by omega) (.int .i64 2))
  replace HB := Lib.hid (HB.out.setCell (p := ⟨w.heap.size, 1, none⟩) (Nat.le_refl _) (.int .i64 2))
  replace H4 := Lib.hid (H4.out.far (p := ⟨w.heap.size, 2, none⟩) (show w.heap.size + 1 + 1 ≠ w.heap.size by omega) (.int .i64 e.rg))
  replace HE := Lib.hid (HE.out.far (p := ⟨w.heap.size, 2, none⟩) (show w.heap.size + 1 ≠ w.heap.size by omega) (.int .i64 e.rg))
  replace HB := Lib.hid (HB.out.setCell (p := ⟨w.heap.size, 2, none⟩) (Nat.le_refl _) (.int .i64 e.rg))
  replace H4 := Lib.hid (H4.out.far (p := ⟨w.heap.size, 4, none⟩) (show w.heap.size + 1 + 1 ≠ w.heap.size by omega) (.int .u64 (e.tk : Int)))
  replace HE := Lib.hid (HE.out.far (p := ⟨w.heap.size, 4, none⟩) (show w.heap.size + 1 ≠ w.heap.size by omega) (.int .u64 (e.tk : Int)))
  replace HB := Lib.hid (HB.out.setCell (p := ⟨w.heap.size, 4, none⟩) (Nat.le_refl _) (.int .u64 (e.tk : Int)))
  replace HG := Lib.hid (show Lies (((w1.setCell ⟨w.heap.size, 1, none⟩ (.int .i64 2)).setCell ⟨w.heap.size, 2, none⟩ (.int .i64 e.rg)).setCell ⟨w.heap.size, 4, none⟩ (.int .u64 (e.tk : Int))) (w.heap.size) 27 (thC ({ y with ph := 2, rg := e.rg, tk := e.tk } : Th) v0) from ((HG.out.put 1 (.int .i64 2)).put 2 (.int .i64 e.rg)).put 4 (.int .u64 (e.tk : Int)))
  generalize ((w1.setCell ⟨w.heap.size, 1, none⟩ (.int .i64 2)).setCell ⟨w.heap.size, 2, none⟩ (.int .i64 e.rg)).setCell ⟨w.heap.size, 4, none⟩ (.int .u64 (e.tk : Int)) = w9 at *
  have HBE : Hid (behT (atT l y) y e v = ({ y with ph := 2, rg := e.rg, tk := e.tk } : Th)) := by show _ = _; unfold behT; rw [HKD.out]; simp
  clear HE
  have c0 := (HG.out.cell 0).trans (show _ = some (Value.int .i64 ({ y with ph := 2, rg := e.rg, tk := e.tk } : Th).at_) from rfl)
  have c1 := (HG.out.cell 1).trans (show _ = some (Value.int .i64 ({ y with ph := 2, rg := e.rg, tk := e.tk } : Th).ph) from rfl)
  have c2 := (HG.out.cell 2).trans (show _ = some (Value.int .i64 ({ y with ph := 2, rg := e.rg, tk := e.tk } : Th).rg) from rfl)
  have c3 := (HG.out.cell 3).trans (show _ = some (Value.int .i64 ({ y with ph := 2, rg := e.rg, tk := e.tk } : Th).st) from rfl)
  have c4 := (HG.out.cell 4).trans (show _ = some (Value.int .u64 (({ y with ph := 2, rg := e.rg, tk := e.tk } : Th).tk : Int)) from rfl)
  have c5 := (HG.out.cell 5).trans (show _ = some (Value.int .u64 (({ y with ph := 2, rg := e.rg, tk := e.tk } : Th).r 0 : Int)) from rfl)
  have c6 := (HG.out.cell 6).trans (show _ = some (Value.int .u64 (({ y with ph := 2, rg := e.rg, tk := e.tk } : Th).r 1 : Int)) from rfl)
  have c7 := (HG.out.cell 7).trans (show _ = some (Value.int .u64 (({ y with ph := 2, rg := e.rg, tk := e.tk } : Th).r 2 : Int)) from rfl)
  have c8 := (HG.out.cell 8).trans (show _ = some (Value.int .u64 (({ y with ph := 2, rg := e.rg, tk := e.tk } : Th).r 3 : Int)) from rfl)
  have c9 := (HG.out.cell 9).trans (show _ = some (Value.int .u64 (({ y with ph := 2, rg := e.rg, tk := e.tk } : Th).r 4 : Int)) from rfl)
  have c10 := (HG.out.cell 10).trans (show _ = some (Value.int .u64 (({ y with ph := 2, rg := e.rg, tk := e.tk } : Th).r 5 : Int)) from rfl)
  have c11 := (HG.out.cell 11).trans (show _ = some (Value.int .u64 (({ y with ph := 2, rg := e.rg, tk := e.tk } : Th).r 6 : Int)) from rfl)
  have c12 := (HG.out.cell 12).trans (show _ = some (Value.int .u64 (({ y with ph := 2, rg := e.rg, tk := e.tk } : Th).r 7 : Int)) from rfl)
  have c13 := (HG.out.cell 13).trans (show _ = some (v0) from rfl)
  have cl := HG.out.lt
  go_wp2_with (
    refine wpList_store_row rfl 27 _ _ rfl (w.heap.size + 1 + 1) (thC ({ y with ph := 2, rg := e.rg, tk := e.tk } : Th) v0) rfl rfl 27 thZ H4.out infoTh rfl (HONE.out _) ?_
    clear c0 c1 c2 c3 c4 c5 c6 c7 c8 c9 c10 c11 c12 c13 cl
    have hk9 := kept_rowT (w := w9) (g := w.heap.size + 1 + 1) (thC ({ y with ph := 2, rg := e.rg, tk := e.tk } : Th) v0)
    have HBZ := Lib.hid (HB.out.trans (hk9.below HB.out.size (fun k hk (e : k = w.heap.size + 1 + 1) => by omega)))
    have Q4 := Lib.hid (lies_row H4.out (thC ({ y with ph := 2, rg := e.rg, tk := e.tk } : Th) v0))
    clear hk9
    generalize w9.setRow (w.heap.size + 1 + 1) (thC ({ y with ph := 2, rg := e.rg, tk := e.tk } : Th) v0) = wF at *
    clear HB H4 HG
    generalize hz9 : ({ y with ph := 2, rg := e.rg, tk := e.tk } : Th) = Z9 at *
    have z0 := (Q4.out.cell 0).trans (show _ = some (Value.int .i64 Z9.at_) from rfl)
    have z1 := (Q4.out.cell 1).trans (show _ = some (Value.int .i64 Z9.ph) from rfl)
    have z2 := (Q4.out.cell 2).trans (show _ = some (Value.int .i64 Z9.rg) from rfl)
    have z3 := (Q4.out.cell 3).trans (show _ = some (Value.int .i64 Z9.st) from rfl)
    have z4 := (Q4.out.cell 4).trans (show _ = some (Value.int .u64 (Z9.tk : Int)) from rfl)
    have z5 := (Q4.out.cell 5).trans (show _ = some (Value.int .u64 (Z9.r 0 : Int)) from rfl)
    have z6 := (Q4.out.cell 6).trans (show _ = some (Value.int .u64 (Z9.r 1 : Int)) from rfl)
    have z7 := (Q4.out.cell 7).trans (show _ = some (Value.int .u64 (Z9.r 2 : Int)) from rfl)
    have z8 := (Q4.out.cell 8).trans (show _ = some (Value.int .u64 (Z9.r 3 : Int)) from rfl)
    have z9 := (Q4.out.cell 9).trans (show _ = some (Value.int .u64 (Z9.r 4 : Int)) from rfl)
    have z10 := (Q4.out.cell 10).trans (show _ = some (Value.int .u64 (Z9.r 5 : Int)) from rfl)
    have z11 := (Q4.out.cell 11).trans (show _ = some (Value.int .u64 (Z9.r 6 : Int)) from rfl)
    have z12 := (Q4.out.cell 12).trans (show _ = some (Value.int .u64 (Z9.r 7 : Int)) from rfl)
    have z13 := (Q4.out.cell 13).trans (show _ = some (v0) from rfl)
    have zl := Q4.out.lt
    go_wp2
    exact bodyPost_ret (v := .agg (thC Z9 v0)) (by simp [results, Try.results36, go_sem, z0, z1, z2, z3, z4, z5, z6, z7, z8, z9, z10, z11, z12, z13]) rfl ⟨by rw [HBE.out], HBZ.out⟩)
end Go.Proofs.Ytiegmpjoiekekaa
/-
  What an event makes of a thread (layer 16): the document's Behind: two registers.
-/
namespace Go.Proofs.Ytiegmpjoiekekaa
open Go.RowKit
set_option linter.unusedVariables false
set_option linter.unusedSimpArgs false
set_option maxHeartbeats 8000000 in
set_option maxRecDepth 100000 in
theorem rfBeh4 (l : List In) (A : Option Addr) (c : Nat) (y : Th) (v0 : Value) (e : Ev) (v : Nat) (w : World) (h : InsAt w A c l) (hv : v0.oneCell' = true) (hcd : codeB l = true) (hat0 : 0 ≤ y.at_) (hat1 : y.at_ < (l.length : Int)) (hk : e.kd = 4) :
    Calls Try.prog 36 #[.slice A l.length c, .agg (thC y v0), .agg (evC e), .int .u64 (v : Int)] w fun q w' => q = .returned (.agg (thC (behT (atT l y) y e v) v0)) ∧ Below w.heap.size w w' := by
  obtain ⟨hc1, hc2⟩ := seq_form h
  have hb3 : Below w.heap.size w (((w.alloc (.cells (thC y v0) 27)).alloc (.cells (evC e) 42)).alloc (.cells thZ 27)) := (((Below.refl _ _).alloc (Nat.le_refl _) _).alloc (by simp) _).alloc (by simp; omega) _
  have l1 := ((Lies.made w 27 (thC y v0)).alloc (.cells (evC e) 42)).alloc (.cells thZ 27)
  have l2 := (Lies.made (w.alloc (.cells (thC y v0) 27)) 42 (evC e)).alloc (.cells thZ 27)
  have l3 := Lies.made ((w.alloc (.cells (thC y v0) 27)).alloc (.cells (evC e) 42)) 27 thZ
  rw [show (w.alloc (.cells (thC y v0) 27)).heap.size = w.heap.size + 1 by simp] at l2
  rw [show ((w.alloc (.cells (thC y v0) 27)).alloc (.cells (evC e) 42)).heap.size = w.heap.size + 1 + 1 by simp] at l3
  have HB := Lib.hid hb3
  have HG := Lib.hid l1
  have HE := Lib.hid l2
  have H4 := Lib.hid l3
  have HONE := Lib.hid (fun z => thC_one z hv)
  have HKD := Lib.hid hk
  have HH := Lib.hid (fun (q : World) (hq : Below w.heap.size w q) => h.later hq)
  clear hb3 l1 l2 l3 hk
  clear hv
  obtain ⟨an, han⟩ : ∃ n : Nat, y.at_ = n := ⟨y.at_.toNat, by omega⟩
  obtain ⟨i, hi⟩ : ∃ i, l[an]? = some i := ⟨_, List.getElem?_eq_getElem (by omega)⟩
  have hgt := atT_get han hi
  have hab := right_ab ((codeB_parts hcd).2 i (List.mem_of_getElem? hi)).1
  have hlen := (codeB_parts hcd).1
  obtain ⟨b, off, rfl, hbl, hg⟩ := InsAt.at_ h hi
  have HGI := Lib.hid (fun (q : World) (hq : Below w.heap.size w q) (j : Nat) (u : Value) (hj : j < 6) (hu : (inF i)[j]? = some u) => cell_later (hg j u hj hu) hq)
  have hal : (an : Int) < (l.length : Int) := by omega
  have hw1a : IntKind.i64.wrap ((an : Int) + 1) = (an : Int) + 1 := IntWalk.i64_in _ (by omega)
  have HAN := Lib.hid han
  obtain ⟨ian, hian⟩ : ∃ n : Nat, i.a = n := ⟨i.a.toNat, by omega⟩
  obtain ⟨ibn, hibn⟩ : ∃ n : Nat, i.b = n := ⟨i.b.toNat, by omega⟩
  have ha8 : ian < 8 := by omega
  have hb8 : ibn < 8 := by omega
  have HIA := Lib.hid hian
  have HIB := Lib.hid hibn
  have HGT := Lib.hid hgt
  clear hgt hab hi hg hbl hian hibn han h hcd hat0 hat1
  go_enter Try.func36, Try.ntmps36
  go_upto_region 1 with (fail)
  generalize hw1 : (((w.alloc (.cells (thC y v0) 27)).alloc (.cells (evC e) 42)).alloc (.cells thZ 27)) = w1 at *
  clear hw1
  have q0 := (HE.out.cell 0).trans (show _ = some (Value.int .i64 e.th) from rfl)
  have q1 := (HE.out.cell 1).trans (show _ = some (Value.int .i64 e.kd) from rfl)
  have q2 := (HE.out.cell 2).trans (show _ = some (Value.int .i64 e.rg) from rfl)
  have q3 := (HE.out.cell 3).trans (show _ = some (Value.int .u64 (e.tk : Int)) from rfl)
  have q4 := (HE.out.cell 4).trans (show _ = some (Value.int .u64 (e.vl : Int)) from rfl)
  have ql := HE.out.lt
  rw [HKD.out] at q1
  have g0 := HGI.out _ HB.out 0 _ (by decide) rfl
  have g1 := HGI.out _ HB.out 1 _ (by decide) rfl
  have g2 := HGI.out _ HB.out 2 _ (by decide) rfl
  have g3 := HGI.out _ HB.out 3 _ (by decide) rfl
  have g4 := HGI.out _ HB.out 4 _ (by decide) rfl
  have g5 := HGI.out _ HB.out 5 _ (by decide) rfl
  rw [Nat.add_zero] at g0
  have c0 := (HG.out.cell 0).trans (show _ = some (Value.int .i64 y.at_) from rfl)
  rw [HAN.out] at c0
  have cl := HG.out.lt
  go_upto_region 14 with (fail)
  clear q0 q1 q2 q3 q4 ql
  clear g0 g1 g2 g3 g4 g5 c0 cl
  have hb3s : w.heap.size + 1 + 1 < w1.heap.size := H4.out.lt
  have hba := (Below.refl w1.heap.size w1).alloc (Nat.le_refl _) (.cells (inC i) 50)
  have HI := Lib.hid (Lies.made w1 50 (inC i))
  replace HG := Lib.hid (HG.out.below hba HG.out.lt)
  replace HE := Lib.hid (HE.out.below hba HE.out.lt)
  replace H4 := Lib.hid (H4.out.below hba H4.out.lt)
  replace HB := Lib.hid (HB.out.trans (hba.mono HB.out.size))
  clear hba
  generalize hw2 : w1.alloc (.cells (inC i) 50) = wr0 at *
  generalize hb3e : w1.heap.size = b3 at *
  clear hw2 hb3e
  have q0 := (HE.out.cell 0).trans (show _ = some (Value.int .i64 e.th) from rfl)
  have q1 := (HE.out.cell 1).trans (show _ = some (Value.int .i64 e.kd) from rfl)
  have q2 := (HE.out.cell 2).trans (show _ = some (Value.int .i64 e.rg) from rfl)
  have q3 := (HE.out.cell 3).trans (show _ = some (Value.int .u64 (e.tk : Int)) from rfl)
  have q4 := (HE.out.cell 4).trans (show _ = some (Value.int .u64 (e.vl : Int)) from rfl)
  have ql := HE.out.lt
  rw [HKD.out] at q1
  have d1 := (HI.out.cell 1).trans (show _ = some (Value.int .i64 i.a) from rfl)
  have d2 := (HI.out.cell 2).trans (show _ = some (Value.int .i64 i.b) from rfl)
  have dl := HI.out.lt
  rw [HIA.out] at d1
  rw [HIB.out] at d2
  have ra := (HG.out.cell (5 + ian)).trans (thC_reg y v0 ha8)
  have rl := HG.out.lt
  have rf := HG.out.free (5 + ian)
  go_upto_region 18 with (fail)
  clear q0 q1 q2 q3 q4 ql
  clear d1 d2 dl ra rl rf
  replace H4 := Lib.hid (H4.out.far (p := ⟨w.heap.size, 5 + ian, none⟩) (show w.heap.size + 1 + 1 ≠ w.heap.size by omega) (.int .u64 (v : Int)))
  replace HE := Lib.hid (HE.out.far (p := ⟨w.heap.size, 5 + ian, none⟩) (show w.heap.size + 1 ≠ w.heap.size by omega) (.int .u64 (v : Int)))
  replace HB := Lib.hid (HB.out.setCell (p := ⟨w.heap.size, 5 + ian, none⟩) (Nat.le_refl _) (.int .u64 (v : Int)))
  replace HI := Lib.hid (HI.out.far (p := ⟨w.heap.size, 5 + ian, none⟩) (show b3 ≠ w.heap.size by omega) (.int .u64 (v : Int)))
  replace HG := Lib.hid (show Lies (wr0.setCell ⟨w.heap.size, 5 + ian, none⟩ (.int .u64 (v : Int))) (w.heap.size) 27 (thC (setR y ian v) v0) from by have := HG.out.put (5 + ian) (.int .u64 ((v : Nat) : Int)); rwa [thC_set y v0 ha8] at this)
  generalize wr0.setCell ⟨w.heap.size, 5 + ian, none⟩ (.int .u64 (v : Int)) = wr1 at *
  have q0 := (HE.out.cell 0).trans (show _ = some (Value.int .i64 e.th) from rfl)
  have q1 := (HE.out.cell 1).trans (show _ = some (Value.int .i64 e.kd) from rfl)
  have q2 := (HE.out.cell 2).trans (show _ = some (Value.int .i64 e.rg) from rfl)
  have q3 := (HE.out.cell 3).trans (show _ = some (Value.int .u64 (e.tk : Int)) from rfl)
  have q4 := (HE.out.cell 4).trans (show _ = some (Value.int .u64 (e.vl : Int)) from rfl)
  have ql := HE.out.lt
  rw [HKD.out] at q1
  have d1 := (HI.out.cell 1).trans (show _ = some (Value.int .i64 i.a) from rfl)
  have d2 := (HI.out.cell 2).trans (show _ = some (Value.int .i64 i.b) from rfl)
  have dl := HI.out.lt
  rw [HIA.out] at d1
  rw [HIB.out] at d2
  have ra := (HG.out.cell (5 + ibn)).trans (thC_reg (setR y ian v) v0 hb8)
  have rl := HG.out.lt
  have rf := HG.out.free (5 + ibn)
  go_upto_region 33 with (fail)
  clear q0 q1 q2 q3 q4 ql
  clear d1 d2 dl ra rl rf
  replace H4 := Lib.hid (H4.out.far (p := ⟨w.heap.size, 5 + ibn, none⟩) (show w.heap.size + 1 + 1 ≠ w.heap.size by omega) (.int .u64 0))
  replace HE := Lib.hid (HE.out.far (p := ⟨w.heap.size, 5 + ibn, none⟩) (show w.heap.size + 1 ≠ w.heap.size by omega) (.int .u64 0))
  replace HB := Lib.hid (HB.out.setCell (p := ⟨w.heap.size, 5 + ibn, none⟩) (Nat.le_refl _) (.int .u64 0))
  replace HI := Lib.hid (HI.out.far (p := ⟨w.heap.size, 5 + ibn, none⟩) (show b3 ≠ w.heap.size by omega) (.int .u64 0))
  replace HG := Lib.hid (show Lies (wr1.setCell ⟨w.heap.size, 5 + ibn, none⟩ (.int .u64 0)) (w.heap.size) 27 (thC (setR (setR y ian v) ibn 0) v0) from by have := HG.out.put (5 + ibn) (.int .u64 ((0 : Nat) : Int)); rwa [thC_set (setR y ian v) v0 hb8] at this)
  generalize wr1.setCell ⟨w.heap.size, 5 + ibn, none⟩ (.int .u64 0) = wr2 at *
  have c0 := (HG.out.cell 0).trans (show _ = some (.int .i64 y.at_) from rfl)
  rw [HAN.out] at c0
  have c1 := (HG.out.cell 1).trans (show _ = some (.int .i64 y.ph) from rfl)
  have c2 := (HG.out.cell 2).trans (show _ = some (.int .i64 y.rg) from rfl)
  have c4 := (HG.out.cell 4).trans (show _ = some (.int .u64 (y.tk : Int)) from rfl)
  have cl := HG.out.lt
  have f0 := HG.out.free 0
  have f1 := HG.out.free 1
  have f2 := HG.out.free 2
  have f4 := HG.out.free 4
  go_upto_region 37 with (fail)
  clear c0 c1 c2 c4 cl f0 f1 f2 f4
  replace H4 := Lib.hid (H4.out.far (p := ⟨w.heap.size, 1, none⟩) (show w.heap.size + 1 + 1 ≠ w.heap.size by omega) (.int .i64 0))
  replace HE := Lib.hid (HE.out.far (p := ⟨w.heap.size, 1, none⟩) (show w.heap.size + 1 ≠ w.heap.size by omega) (.int .i64 0))
  replace HB := Lib.hid (HB.out.setCell (p := ⟨w.heap.size, 1, none⟩) (Nat.le_refl _) (.int .i64 0))
  replace H4 := Lib.hid (H4.out.far (p := ⟨w.heap.size, 2, none⟩) (show w.heap.size + 1 + 1 ≠ w.heap.size by omega) (.int .i64 0))
  replace HE := Lib.hid (HE.out.far (p := ⟨w.heap.size, 2, none⟩) (show w.heap.size + 1 ≠ w.heap.size by omega) (.int .i64 0))
  replace HB := Lib.hid (HB.out.setCell (p := ⟨w.heap.size, 2, none⟩) (Nat.le_refl _) (.int .i64 0))
  replace H4 := Lib.hid (H4.out.far (p := ⟨w.heap.size, 4, none⟩) (show w.heap.size + 1 + 1 ≠ w.heap.size by omega) (.int .u64 0))
  replace HE := Lib.hid (HE.out.far (p := ⟨w.heap.size, 4, none⟩) (show w.heap.size + 1 ≠ w.heap.size by omega) (.int .u64 0))
  replace HB := Lib.hid (HB.out.setCell (p := ⟨w.heap.size, 4, none⟩) (Nat.le_refl _) (.int .u64 0))
  replace H4 := Lib.hid (H4.out.far (p := ⟨w.heap.size, 0, none⟩) (show w.heap.size + 1 + 1 ≠ w.heap.size by omega) (.int .i64 ((an : Int) + 1)))
  replace HE := Lib.hid (HE.out.far (p := ⟨w.heap.size, 0, none⟩) (show w.heap.size + 1 ≠ w.heap.size by omega) (.int .i64 ((an : Int) + 1)))
  replace HB := Lib.hid (HB.out.setCell (p := ⟨w.heap.size, 0, none⟩) (Nat.le_refl _) (.int .i64 ((an : Int) + 1)))
  have hgz := (((HG.out.put 1 (.int .i64 0)).put 2 (.int .i64 0)).put 4 (.int .u64 0)).put 0 (.int .i64 ((an : Int) + 1))
  rw [show ((an : Int) + 1) = y.at_ + 1 by rw [HAN.out]] at hgz H4 HB HE ⊢
  replace HG := Lib.hid (show Lies ((((wr2.setCell ⟨w.heap.size, 1, none⟩ (.int .i64 0)).setCell ⟨w.heap.size, 2, none⟩ (.int .i64 0)).setCell ⟨w.heap.size, 4, none⟩ (.int .u64 0)).setCell ⟨w.heap.size, 0, none⟩ (.int .i64 (y.at_ + 1))) (w.heap.size) 27 (thC (endT (setR (setR y ian v) ibn 0)) v0) from hgz)
  clear hgz
  generalize (((wr2.setCell ⟨w.heap.size, 1, none⟩ (.int .i64 0)).setCell ⟨w.heap.size, 2, none⟩ (.int .i64 0)).setCell ⟨w.heap.size, 4, none⟩ (.int .u64 0)).setCell ⟨w.heap.size, 0, none⟩ (.int .i64 (y.at_ + 1)) = w9 at *
  have HBE : Hid (behT (atT l y) y e v = (endT (setR (setR y ian v) ibn 0))) := by
    show _ = _
    rw [HGT.out]
    unfold behT regT
    rw [HKD.out, HIA.out, HIB.out]
    simp
  clear HE HI
  have c0 := (HG.out.cell 0).trans (show _ = some (Value.int .i64 (endT (setR (setR y ian v) ibn 0)).at_) from rfl)
  have c1 := (HG.out.cell 1).trans (show _ = some (Value.int .i64 (endT (setR (setR y ian v) ibn 0)).ph) from rfl)
  have c2 := (HG.out.cell 2).trans (show _ = some (Value.int .i64 (endT (setR (setR y ian v) ibn 0)).rg) from rfl)
  have c3 := (HG.out.cell 3).trans (show _ = some (Value.int .i64 (endT (setR (setR y ian v) ibn 0)).st) from rfl)
  have c4 := (HG.out.cell 4).trans (show _ = some (Value.int .u64 ((endT (setR (setR y ian v) ibn 0)).tk : Int)) from rfl)
  have c5 := (HG.out.cell 5).trans (show _ = some (Value.int .u64 ((endT (setR (setR y ian v) ibn 0)).r 0 : Int)) from rfl)
  have c6 := (HG.out.cell 6).trans (show _ = some (Value.int .u64 ((endT (setR (setR y ian v) ibn 0)).r 1 : Int)) from rfl)
  have c7 := (HG.out.cell 7).trans (show _ = some (Value.int .u64 ((endT (setR (setR y ian v) ibn 0)).r 2 : Int)) from rfl)
  have c8 := (HG.out.cell 8).trans (show _ = some (Value.int .u64 ((endT (setR (setR y ian v) ibn 0)).r 3 : Int)) from rfl)
  have c9 := (HG.out.cell 9).trans (show _ = some (Value.int .u64 ((endT (setR (setR y ian v) ibn 0)).r 4 : Int)) from rfl)
  have c10 := (HG.out.cell 10).trans (show _ = some (Value.int .u64 ((endT (setR (setR y ian v) ibn 0)).r 5 : Int)) from rfl)
  have c11 := (HG.out.cell 11).trans (show _ = some (Value.int .u64 ((endT (setR (setR y ian v) ibn 0)).r 6 : Int)) from rfl)
  have c12 := (HG.out.cell 12).trans (show _ = some (Value.int .u64 ((endT (setR (setR y ian v) ibn 0)).r 7 : Int)) from rfl)
  have c13 := (HG.out.cell 13).trans (show _ = some (v0) from rfl)
  have cl := HG.out.lt
  go_wp2_with (
    refine wpList_store_row rfl 27 _ _ rfl (w.heap.size + 1 + 1) (thC (endT (setR (setR y ian v) ibn 0)) v0) rfl rfl 27 thZ H4.out infoTh rfl (HONE.out _) ?_
    clear c0 c1 c2 c3 c4 c5 c6 c7 c8 c9 c10 c11 c12 c13 cl
    have hk9 := kept_rowT (w := w9) (g := w.heap.size + 1 + 1) (thC (endT (setR (setR y ian v) ibn 0)) v0)
    have HBZ := Lib.hid (HB.out.trans (hk9.below HB.out.size (fun k hk (e : k = w.heap.size + 1 + 1) => by omega)))
    have Q4 := Lib.hid (lies_row H4.out (thC (endT (setR (setR y ian v) ibn 0)) v0))
    clear hk9
    generalize w9.setRow (w.heap.size + 1 + 1) (thC (endT (setR (setR y ian v) ibn 0)) v0) = wF at *
    clear HB H4 HG
    generalize hz9 : (endT (setR (setR y ian v) ibn 0)) = Z9 at *
    have z0 := (Q4.out.cell 0).trans (show _ = some (Value.int .i64 Z9.at_) from rfl)
    have z1 := (Q4.out.cell 1).trans (show _ = some (Value.int .i64 Z9.ph) from rfl)
    have z2 := (Q4.out.cell 2).trans (show _ = some (Value.int .i64 Z9.rg) from rfl)
    have z3 := (Q4.out.cell 3).trans (show _ = some (Value.int .i64 Z9.st) from rfl)
    have z4 := (Q4.out.cell 4).trans (show _ = some (Value.int .u64 (Z9.tk : Int)) from rfl)
    have z5 := (Q4.out.cell 5).trans (show _ = some (Value.int .u64 (Z9.r 0 : Int)) from rfl)
    have z6 := (Q4.out.cell 6).trans (show _ = some (Value.int .u64 (Z9.r 1 : Int)) from rfl)
    have z7 := (Q4.out.cell 7).trans (show _ = some (Value.int .u64 (Z9.r 2 : Int)) from rfl)
    have z8 := (Q4.out.cell 8).trans (show _ = some (Value.int .u64 (Z9.r 3 : Int)) from rfl)
    have z9 := (Q4.out.cell 9).trans (show _ = some (Value.int .u64 (Z9.r 4 : Int)) from rfl)
    have z10 := (Q4.out.cell 10).trans (show _ = some (Value.int .u64 (Z9.r 5 : Int)) from rfl)
    have z11 := (Q4.out.cell 11).trans (show _ = some (Value.int .u64 (Z9.r 6 : Int)) from rfl)
    have z12 := (Q4.out.cell 12).trans (show _ = some (Value.int .u64 (Z9.r 7 : Int)) from rfl)
    have z13 := (Q4.out.cell 13).trans (show _ = some (v0) from rfl)
    have zl := Q4.out.lt
    go_wp2
    exact bodyPost_ret (v := .agg (thC Z9 v0)) (by simp [results, Try.results36, go_sem, z0, z1, z2, z3, z4, z5, z6, z7, z8, z9, z10, z11, z12, z13]) rfl ⟨by rw [HBE.out], HBZ.out⟩)
set_option maxHeartbeats 8000000 in
set_option maxRecDepth 100000 in
theorem rfBeh10 (l : List In) (A : Option Addr) (c : Nat) (y : Th) (v0 : Value) (e : Ev) (v : Nat) (w : World) (h : InsAt w A c l) (hv : v0.oneCell' = true) (hcd : codeB l = true) (hat0 : 0 ≤ y.at_) (hat1 : y.at_ < (l.length : Int)) (hk : e.kd = 10) :
    Calls Try.prog 36 #[.slice A l.length c, .agg (thC y v0), .agg (evC e), .int .u64 (v : Int)] w fun q w' => q = .returned (.agg (thC (behT (atT l y) y e v) v0)) ∧ Below w.heap.size w w' := by
  obtain ⟨hc1, hc2⟩ := seq_form h
  have hb3 : Below w.heap.size w (((w.alloc (.cells (thC y v0) 27)).alloc (.cells (evC e) 42)).alloc (.cells thZ 27)) := (((Below.refl _ _).alloc (Nat.le_refl _) _).alloc (by simp) _).alloc (by simp; omega) _
  have l1 := ((Lies.made w 27 (thC y v0)).alloc (.cells (evC e) 42)).alloc (.cells thZ 27)
  have l2 := (Lies.made (w.alloc (.cells (thC y v0) 27)) 42 (evC e)).alloc (.cells thZ 27)
  have l3 := Lies.made ((w.alloc (.cells (thC y v0) 27)).alloc (.cells (evC e) 42)) 27 thZ
  rw [show (w.alloc (.cells (thC y v0) 27)).heap.size = w.heap.size + 1 by simp] at l2
  rw [show ((w.alloc (.cells (thC y v0) 27)).alloc (.cells (evC e) 42)).heap.size = w.heap.size + 1 + 1 by simp] at l3
  have HB := Lib.hid hb3
  have HG := Lib.hid l1
  have HE := Lib.hid l2
  have H4 := Lib.hid l3
  have HONE := Lib.hid (fun z => thC_one z hv)
  have HKD := Lib.hid hk
  have HH := Lib.hid (fun (q : World) (hq : Below w.heap.size w q) => h.later hq)
  clear hb3 l1 l2 l3 hk
  clear hv
  obtain ⟨an, han⟩ : ∃ n : Nat, y.at_ = n := ⟨y.at_.toNat, by omega⟩
  obtain ⟨i, hi⟩ : ∃ i, l[an]? = some i := ⟨_, List.getElem?_eq_getElem (by omega)⟩
  have hgt := atT_get han hi
  have hab := right_ab ((codeB_parts hcd).2 i (List.mem_of_getElem? hi)).1
  have hlen := (codeB_parts hcd).1
  obtain ⟨b, off, rfl, hbl, hg⟩ := InsAt.at_ h hi
  have HGI := Lib.hid (fun (q : World) (hq : Below w.heap.size w q) (j : Nat) (u : Value) (hj : j < 6) (hu : (inF i)[j]? = some u) => cell_later (hg j u hj hu) hq)
  have hal : (an : Int) < (l.length : Int) := by omega
  have hw1a : IntKind.i64.wrap ((an : Int) + 1) = (an : Int) + 1 := IntWalk.i64_in _ (by omega)
  have HAN := Lib.hid han
  obtain ⟨ian, hian⟩ : ∃ n : Nat, i.a = n := ⟨i.a.toNat, by omega⟩
  obtain ⟨ibn, hibn⟩ : ∃ n : Nat, i.b = n := ⟨i.b.toNat, by omega⟩
  have ha8 : ian < 8 := by omega
  have hb8 : ibn < 8 := by omega
  have HIA := Lib.hid hian
  have HIB := Lib.hid hibn
  have HGT := Lib.hid hgt
  clear hgt hab hi hg hbl hian hibn han h hcd hat0 hat1
  go_enter Try.func36, Try.ntmps36
  go_upto_region 1 with (fail)
  generalize hw1 : (((w.alloc (.cells (thC y v0) 27)).alloc (.cells (evC e) 42)).alloc (.cells thZ 27)) = w1 at *
  clear hw1
  have q0 := (HE.out.cell 0).trans (show _ = some (Value.int .i64 e.th) from rfl)
  have q1 := (HE.out.cell 1).trans (show _ = some (Value.int .i64 e.kd) from rfl)
  have q2 := (HE.out.cell 2).trans (show _ = some (Value.int .i64 e.rg) from rfl)
  have q3 := (HE.out.cell 3).trans (show _ = some (Value.int .u64 (e.tk : Int)) from rfl)
  have q4 := (HE.out.cell 4).trans (show _ = some (Value.int .u64 (e.vl : Int)) from rfl)
  have ql := HE.out.lt
  rw [HKD.out] at q1
  have g0 := HGI.out _ HB.out 0 _ (by decide) rfl
  have g1 := HGI.out _ HB.out 1 _ (by decide) rfl
  have g2 := HGI.out _ HB.out 2 _ (by decide) rfl
  have g3 := HGI.out _ HB.out 3 _ (by decide) rfl
  have g4 := HGI.out _ HB.out 4 _ (by decide) rfl
  have g5 := HGI.out _ HB.out 5 _ (by decide) rfl
  rw [Nat.add_zero] at g0
  have c0 := (HG.out.cell 0).trans (show _ = some (Value.int .i64 y.at_) from rfl)
  rw [HAN.out] at c0
  have cl := HG.out.lt
  go_upto_region 14 with (fail)
  clear q0 q1 q2 q3 q4 ql
  clear g0 g1 g2 g3 g4 g5 c0 cl
  have hb3s : w.heap.size + 1 + 1 < w1.heap.size := H4.out.lt
  have hba := (Below.refl w1.heap.size w1).alloc (Nat.le_refl _) (.cells (inC i) 50)
  have HI := Lib.hid (Lies.made w1 50 (inC i))
  replace HG := Lib.hid (HG.out.below hba HG.out.lt)
  replace HE := Lib.hid (HE.out.below hba HE.out.lt)
  replace H4 := Lib.hid (H4.out.below hba H4.out.lt)
  replace HB := Lib.hid (HB.out.trans (hba.mono HB.out.size))
  clear hba
  generalize hw2 : w1.alloc (.cells (inC i) 50) = wr0 at *
  generalize hb3e : w1.heap.size = b3 at *
  clear hw2 hb3e
  have q0 := (HE.out.cell 0).trans (show _ = some (Value.int .i64 e.th) from rfl)
  have q1 := (HE.out.cell 1).trans (show _ = some (Value.int .i64 e.kd) from rfl)
  have q2 := (HE.out.cell 2).trans (show _ = some (Value.int .i64 e.rg) from rfl)
  have q3 := (HE.out.cell 3).trans (show _ = some (Value.int .u64 (e.tk : Int)) from rfl)
  have q4 := (HE.out.cell 4).trans (show _ = some (Value.int .u64 (e.vl : Int)) from rfl)
  have ql := HE.out.lt
  rw [HKD.out] at q1
  have d1 := (HI.out.cell 1).trans (show _ = some (Value.int .i64 i.a) from rfl)
  have d2 := (HI.out.cell 2).trans (show _ = some (Value.int .i64 i.b) from rfl)
  have dl := HI.out.lt
  rw [HIA.out] at d1
  rw [HIB.out] at d2
  have ra := (HG.out.cell (5 + ian)).trans (thC_reg y v0 ha8)
  have rl := HG.out.lt
  have rf := HG.out.free (5 + ian)
  go_upto_region 28 with (fail)
  clear q0 q1 q2 q3 q4 ql
  clear d1 d2 dl ra rl rf
  replace H4 := Lib.hid (H4.out.far (p := ⟨w.heap.size, 5 + ian, none⟩) (show w.heap.size + 1 + 1 ≠ w.heap.size by omega) (.int .u64 (e.vl : Int)))
  replace HE := Lib.hid (HE.out.far (p := ⟨w.heap.size, 5 + ian, none⟩) (show w.heap.size + 1 ≠ w.heap.size by omega) (.int .u64 (e.vl : Int)))
  replace HB := Lib.hid (HB.out.setCell (p := ⟨w.heap.size, 5 + ian, none⟩) (Nat.le_refl _) (.int .u64 (e.vl : Int)))
  replace HI := Lib.hid (HI.out.far (p := ⟨w.heap.size, 5 + ian, none⟩) (show b3 ≠ w.heap.size by omega) (.int .u64 (e.vl : Int)))
  replace HG := Lib.hid (show Lies (wr0.setCell ⟨w.heap.size, 5 + ian, none⟩ (.int .u64 (e.vl : Int))) (w.heap.size) 27 (thC (setR y ian e.vl) v0) from by have := HG.out.put (5 + ian) (.int .u64 ((e.vl : Nat) : Int)); rwa [thC_set y v0 ha8] at this)
  generalize wr0.setCell ⟨w.heap.size, 5 + ian, none⟩ (.int .u64 (e.vl : Int)) = wr1 at *
  have q0 := (HE.out.cell 0).trans (show _ = some (Value.int .i64 e.th) from rfl)
  have q1 := (HE.out.cell 1).trans (show _ = some (Value.int .i64 e.kd) from rfl)
  have q2 := (HE.out.cell 2).trans (show _ = some (Value.int .i64 e.rg) from rfl)
  have q3 := (HE.out.cell 3).trans (show _ = some (Value.int .u64 (e.tk : Int)) from rfl)
  have q4 := (HE.out.cell 4).trans (show _ = some (Value.int .u64 (e.vl : Int)) from rfl)
  have ql := HE.out.lt
  rw [HKD.out] at q1
  have d1 := (HI.out.cell 1).trans (show _ = some (Value.int .i64 i.a) from rfl)
  have d2 := (HI.out.cell 2).trans (show _ = some (Value.int .i64 i.b) from rfl)
  have dl := HI.out.lt
  rw [HIA.out] at d1
  rw [HIB.out] at d2
  have ra := (HG.out.cell (5 + ibn)).trans (thC_reg (setR y ian e.vl) v0 hb8)
  have rl := HG.out.lt
  have rf := HG.out.free (5 + ibn)
  go_upto_region 33 with (fail)
  clear q0 q1 q2 q3 q4 ql
  clear d1 d2 dl ra rl rf
  replace H4 := Lib.hid (H4.out.far (p := ⟨w.heap.size, 5 + ibn, none⟩) (show w.heap.size + 1 + 1 ≠ w.heap.size by omega) (.int .u64 0))
  replace HE := Lib.hid (HE.out.far (p := ⟨w.heap.size, 5 + ibn, none⟩) (show w.heap.size + 1 ≠ w.heap.size by omega) (.int .u64 0))
  replace HB := Lib.hid (HB.out.setCell (p := ⟨w.heap.size, 5 + ibn, none⟩) (Nat.le_refl _) (.int .u64 0))
  replace HI := Lib.hid (HI.out.far (p := ⟨w.heap.size, 5 + ibn, none⟩) (show b3 ≠ w.heap.size by omega) (.int .u64 0))
  replace HG := Lib.hid (show Lies (wr1.setCell ⟨w.heap.size, 5 + ibn, none⟩ (.int .u64 0)) (w.heap.size) 27 (thC (setR (setR y ian e.vl) ibn 0) v0) from by have := HG.out.put (5 + ibn) (.int .u64 ((0 : Nat) : Int)); rwa [thC_set (setR y ian e.vl) v0 hb8] at this)
  generalize wr1.setCell ⟨w.heap.size, 5 + ibn, none⟩ (.int .u64 0) = wr2 at *
  have c0 := (HG.out.cell 0).trans (show _ = some (.int .i64 y.at_) from rfl)
  rw [HAN.out] at c0
  have c1 := (HG.out.cell 1).trans (show _ = some (.int .i64 y.ph) from rfl)
  have c2 := (HG.out.cell 2).trans (show _ = some (.int .i64 y.rg) from rfl)
  have c4 := (HG.out.cell 4).trans (show _ = some (.int .u64 (y.tk : Int)) from rfl)
  have cl := HG.out.lt
  have f0 := HG.out.free 0
  have f1 := HG.out.free 1
  have f2 := HG.out.free 2
  have f4 := HG.out.free 4
  go_upto_region 37 with (fail)
  clear c0 c1 c2 c4 cl f0 f1 f2 f4
  replace H4 := Lib.hid (H4.out.far (p := ⟨w.heap.size, 1, none⟩) (show w.heap.size + 1 + 1 ≠ w.heap.size by omega) (.int .i64 0))
  replace HE := Lib.hid (HE.out.far (p := ⟨w.heap.size, 1, none⟩) (show w.heap.size + 1 ≠ w.heap.size by omega) (.int .i64 0))
  replace HB := Lib.hid (HB.out.setCell (p := ⟨w.heap.size, 1, none⟩) (Nat.le_refl _) (.int .i64 0))
  replace H4 := Lib.hid (H4.out.far (p := ⟨w.heap.size, 2, none⟩) (show w.heap.size + 1 + 1 ≠ w.heap.size by omega) (.int .i64 0))
  replace HE := Lib.hid (HE.out.far (p := ⟨w.heap.size, 2, none⟩) (show w.heap.size + 1 ≠ w.heap.size by omega) (.int .i64 0))
  replace HB := Lib.hid (HB.out.setCell (p := ⟨w.heap.size, 2, none⟩) (Nat.le_refl _) (.int .i64 0))
  replace H4 := Lib.hid (H4.out.far (p := ⟨w.heap.size, 4, none⟩) (show w.heap.size + 1 + 1 ≠ w.heap.size by omega) (.int .u64 0))
  replace HE := Lib.hid (HE.out.far (p := ⟨w.heap.size, 4, none⟩) (show w.heap.size + 1 ≠ w.heap.size by omega) (.int .u64 0))
  replace HB := Lib.hid (HB.out.setCell (p := ⟨w.heap.size, 4, none⟩) (Nat.le_refl _) (.int .u64 0))
  replace H4 := Lib.hid (H4.out.far (p := ⟨w.heap.size, 0, none⟩) (show w.heap.size + 1 + 1 ≠ w.heap.size by omega) (.int .i64 ((an : Int) + 1)))
  replace HE := Lib.hid (HE.out.far (p := ⟨w.heap.size, 0, none⟩) (show w.heap.size + 1 ≠ w.heap.size by omega) (.int .i64 ((an : Int) + 1)))
  replace HB := Lib.hid (HB.out.setCell (p := ⟨w.heap.size, 0, none⟩) (Nat.le_refl _) (.int .i64 ((an : Int) + 1)))
  have hgz := (((HG.out.put 1 (.int .i64 0)).put 2 (.int .i64 0)).put 4 (.int .u64 0)).put 0 (.int .i64 ((an : Int) + 1))
  rw [show ((an : Int) + 1) = y.at_ + 1 by rw [HAN.out]] at hgz H4 HB HE ⊢
  replace HG := Lib.hid (show Lies ((((wr2.setCell ⟨w.heap.size, 1, none⟩ (.int .i64 0)).setCell ⟨w.heap.size, 2, none⟩ (.int .i64 0)).setCell ⟨w.heap.size, 4, none⟩ (.int .u64 0)).setCell ⟨w.heap.size, 0, none⟩ (.int .i64 (y.at_ + 1))) (w.heap.size) 27 (thC (endT (setR (setR y ian e.vl) ibn 0)) v0) from hgz)
  clear hgz
  generalize (((wr2.setCell ⟨w.heap.size, 1, none⟩ (.int .i64 0)).setCell ⟨w.heap.size, 2, none⟩ (.int .i64 0)).setCell ⟨w.heap.size, 4, none⟩ (.int .u64 0)).setCell ⟨w.heap.size, 0, none⟩ (.int .i64 (y.at_ + 1)) = w9 at *
  have HBE : Hid (behT (atT l y) y e v = (endT (setR (setR y ian e.vl) ibn 0))) := by
    show _ = _
    rw [HGT.out]
    unfold behT regT
    rw [HKD.out, HIA.out, HIB.out]
    simp
  clear HE HI
  have c0 := (HG.out.cell 0).trans (show _ = some (Value.int .i64 (endT (setR (setR y ian e.vl) ibn 0)).at_) from rfl)
  have c1 := (HG.out.cell 1).trans (show _ = some (Value.int .i64 (endT (setR (setR y ian e.vl) ibn 0)).ph) from rfl)
  have c2 := (HG.out.cell 2).trans (show _ = some (Value.int .i64 (endT (setR (setR y ian e.vl) ibn 0)).rg) from rfl)
  have c3 := (HG.out.cell 3).trans (show _ = some (Value.int .i64 (endT (setR (setR y ian e.vl) ibn 0)).st) from rfl)
  have c4 := (HG.out.cell 4).trans (show _ = some (Value.int .u64 ((endT (setR (setR y ian e.vl) ibn 0)).tk : Int)) from rfl)
  have c5 := (HG.out.cell 5).trans (show _ = some (Value.int .u64 ((endT (setR (setR y ian e.vl) ibn 0)).r 0 : Int)) from rfl)
  have c6 := (HG.out.cell 6).trans (show _ = some (Value.int .u64 ((endT (setR (setR y ian e.vl) ibn 0)).r 1 : Int)) from rfl)
  have c7 := (HG.out.cell 7).trans (show _ = some (Value.int .u64 ((endT (setR (setR y ian e.vl) ibn 0)).r 2 : Int)) from rfl)
  have c8 := (HG.out.cell 8).trans (show _ = some (Value.int .u64 ((endT (setR (setR y ian e.vl) ibn 0)).r 3 : Int)) from rfl)
  have c9 := (HG.out.cell 9).trans (show _ = some (Value.int .u64 ((endT (setR (setR y ian e.vl) ibn 0)).r 4 : Int)) from rfl)
  have c10 := (HG.out.cell 10).trans (show _ = some (Value.int .u64 ((endT (setR (setR y ian e.vl) ibn 0)).r 5 : Int)) from rfl)
  have c11 := (HG.out.cell 11).trans (show _ = some (Value.int .u64 ((endT (setR (setR y ian e.vl) ibn 0)).r 6 : Int)) from rfl)
  have c12 := (HG.out.cell 12).trans (show _ = some (Value.int .u64 ((endT (setR (setR y ian e.vl) ibn 0)).r 7 : Int)) from rfl)
  have c13 := (HG.out.cell 13).trans (show _ = some (v0) from rfl)
  have cl := HG.out.lt
  go_wp2_with (
    refine wpList_store_row rfl 27 _ _ rfl (w.heap.size + 1 + 1) (thC (endT (setR (setR y ian e.vl) ibn 0)) v0) rfl rfl 27 thZ H4.out infoTh rfl (HONE.out _) ?_
    clear c0 c1 c2 c3 c4 c5 c6 c7 c8 c9 c10 c11 c12 c13 cl
    have hk9 := kept_rowT (w := w9) (g := w.heap.size + 1 + 1) (thC (endT (setR (setR y ian e.vl) ibn 0)) v0)
    have HBZ := Lib.hid (HB.out.trans (hk9.below HB.out.size (fun k hk (e : k = w.heap.size + 1 + 1) => by omega)))
    have Q4 := Lib.hid (lies_row H4.out (thC (endT (setR (setR y ian e.vl) ibn 0)) v0))
    clear hk9
    generalize w9.setRow (w.heap.size + 1 + 1) (thC (endT (setR (setR y ian e.vl) ibn 0)) v0) = wF at *
    clear HB H4 HG
    generalize hz9 : (endT (setR (setR y ian e.vl) ibn 0)) = Z9 at *
    have z0 := (Q4.out.cell 0).trans (show _ = some (Value.int .i64 Z9.at_) from rfl)
    have z1 := (Q4.out.cell 1).trans (show _ = some (Value.int .i64 Z9.ph) from rfl)
    have z2 := (Q4.out.cell 2).trans (show _ = some (Value.int .i64 Z9.rg) from rfl)
    have z3 := (Q4.out.cell 3).trans (show _ = some (Value.int .i64 Z9.st) from rfl)
    have z4 := (Q4.out.cell 4).trans (show _ = some (Value.int .u64 (Z9.tk : Int)) from rfl)
    have z5 := (Q4.out.cell 5).trans (show _ = some (Value.int .u64 (Z9.r 0 : Int)) from rfl)
    have z6 := (Q4.out.cell 6).trans (show _ = some (Value.int .u64 (Z9.r 1 : Int)) from rfl)
    have z7 := (Q4.out.cell 7).trans (show _ = some (Value.int .u64 (Z9.r 2 : Int)) from rfl)
    have z8 := (Q4.out.cell 8).trans (show _ = some (Value.int .u64 (Z9.r 3 : Int)) from rfl)
    have z9 := (Q4.out.cell 9).trans (show _ = some (Value.int .u64 (Z9.r 4 : Int)) from rfl)
    have z10 := (Q4.out.cell 10).trans (show _ = some (Value.int .u64 (Z9.r 5 : Int)) from rfl)
    have z11 := (Q4.out.cell 11).trans (show _ = some (Value.int .u64 (Z9.r 6 : Int)) from rfl)
    have z12 := (Q4.out.cell 12).trans (show _ = some (Value.int .u64 (Z9.r 7 : Int)) from rfl)
    have z13 := (Q4.out.cell 13).trans (show _ = some (v0) from rfl)
    have zl := Q4.out.lt
    go_wp2
    exact bodyPost_ret (v := .agg (thC Z9 v0)) (by simp [results, Try.results36, go_sem, z0, z1, z2, z3, z4, z5, z6, z7, z8, z9, z10, z11, z12, z13]) rfl ⟨by rw [HBE.out], HBZ.out⟩)
end Go.Proofs.Ytiegmpjoiekekaa
/-
  What an event makes of a thread (layer 16): the document's Behind: what was seen grows.
-/
namespace Go.Proofs.Ytiegmpjoiekekaa
open Go.RowKit
set_option linter.unusedVariables false
set_option linter.unusedSimpArgs false
/-- What the operations leave that make what was seen anew. -/
def beV (b0 b1 N n : Nat) (TT : TypeId) (y : Th) (v0 : Value) (e : Ev) (j : Nat) (u : Value) (q : World) : Prop :=
  match j with
  | 0 => ∃ r, u = .slice (some ⟨r, 0, none⟩) 0 0 ∧ N ≤ r ∧ Lies q r 23 #[] ∧ q.ownsRow N 23 1 u 0 []
  | 1 => u = .pointer (some ⟨b0, 13, none⟩)
  | 2 => u = v0
  | 3 => q.ownsRow N 23 1 u n (cells64 y.sn)
  | 4 => u = .pointer (some ⟨b1, 4, none⟩)
  | 5 => u = .int .u64 (e.vl : Int)
  | 6 => ∃ g, u = .slice (some ⟨g, 0, none⟩) 1 1 ∧ N ≤ g ∧ Lies q g 23 #[.int .u64 (e.vl : Int)]
  | 7 => q.ownsRow N 23 1 u (n + 1) (cells64 (y.sn ++ [e.vl]))
  | 8 => u = .pointer (some ⟨b0, 13, none⟩)
  | 9 => ∃ A2 c2, Lies q b0 TT (thC y (.slice A2 (n + 1) c2)) ∧ q.ownsRow N 23 1 (.slice A2 (n + 1) c2) (n + 1) (cells64 (y.sn ++ [e.vl]))
  | 10 => Lies q b0 TT (thC y v0)
  | _ => True
theorem kept_from {B : Nat} {w w' : World} (h : Below B w w') : Kept (fun k => B ≤ k) w w' := ⟨h.os, h.tape, h.output, h.size, fun k hk hn => h.block k (by omega)⟩
section
variable {b0 b1 N n : Nat} {TT : TypeId} {y : Th} {v0 : Value} {e : Ev} {j : Nat} {u : Value} {q q' : World}
theorem beV_alloc (ob : Obj) (h : beV b0 b1 N n TT y v0 e j u q) : beV b0 b1 N n TT y v0 e j u (q.alloc ob) := by
  have hb : Below q.heap.size q (q.alloc ob) := (Below.refl _ _).alloc (Nat.le_refl _) _
  match j with
  | 0 => obtain ⟨r, h1, h2, h3, h4⟩ := h; exact ⟨r, h1, h2, h3.alloc ob, owned_below h4 hb⟩
  | 1 => exact h
  | 2 => exact h
  | 3 => exact owned_below h hb
  | 4 => exact h
  | 5 => exact h
  | 6 => obtain ⟨g, h1, h2, h3⟩ := h; exact ⟨g, h1, h2, h3.alloc ob⟩
  | 7 => exact owned_below h hb
  | 8 => exact h
  | 9 => obtain ⟨A2, c2, h1, h2⟩ := h; exact ⟨A2, c2, h1.alloc ob, owned_below h2 hb⟩
  | 10 => exact Lies.alloc h ob
  | _ + 11 => trivial
theorem beV_low (hj : (j != 0 && (j != 3 && (j != 6 && (j != 7 && (j != 9 && j != 10))))) = true) (h : beV b0 b1 N n TT y v0 e j u q) : beV b0 b1 N n TT y v0 e j u q' := by
  match j, hj with
  | 1, _ => exact h
  | 2, _ => exact h
  | 4, _ => exact h
  | 5, _ => exact h
  | 8, _ => exact h
  | _ + 11, _ => trivial
theorem beV_ten (hb : Below (b0 + 1) q q') (hj : (j != 0 && (j != 3 && (j != 6 && (j != 7 && j != 9)))) = true) (h : beV b0 b1 N n TT y v0 e j u q) : beV b0 b1 N n TT y v0 e j u q' := by
  match j, hj with
  | 1, _ => exact h
  | 2, _ => exact h
  | 4, _ => exact h
  | 5, _ => exact h
  | 8, _ => exact h
  | 10, _ => exact Lies.below h hb (by omega)
  | _ + 11, _ => trivial
theorem beV_grow {r : Nat} (k : Kept (fun i => (Value.slice (some ⟨r, 0, none⟩) 0 0).ownBlock = some i) q q') (hr : Lies q r 23 #[]) (hne : r ≠ b0) (hj : (j != 0 && (j != 3 && (j != 7 && j != 9))) = true) (h : beV b0 b1 N n TT y v0 e j u q) : beV b0 b1 N n TT y v0 e j u q' := by
  have hi : ∀ i, (Value.slice (some ⟨r, 0, none⟩) 0 0).ownBlock = some i → i = r := fun i hi => by
    simp [Value.ownBlock] at hi; exact hi.symm
  match j, hj with
  | 1, _ => exact h
  | 2, _ => exact h
  | 4, _ => exact h
  | 5, _ => exact h
  | 6, _ =>
    obtain ⟨g, h1, h2, h3⟩ := h
    exact ⟨g, h1, h2, h3.kept k (fun e => by have := hi _ e; subst this; have := (hr.same h3).2; simp at this)⟩
  | 8, _ => exact h
  | 10, _ => exact Lies.kept h k (fun e => hne (hi _ e).symm)
  | _ + 11, _ => trivial
end
set_option maxHeartbeats 8000000 in
set_option maxRecDepth 100000 in
theorem rfBeh12 (l : List In) (A : Option Addr) (c : Nat) (y : Th) (S : Option Addr) (cs : Nat) (e : Ev) (v : Nat) (w : World) (h : InsAt w A c l) (hs : SeqS w 1 (.slice S y.sn.length cs) y.sn.length (cells64 y.sn)) (hl : y.sn.length ≤ 1000000) (hcd : codeB l = true) (hat0 : 0 ≤ y.at_) (hat1 : y.at_ < (l.length : Int)) (hk : e.kd = 12) :
    Calls Try.prog 36 #[.slice A l.length c, .agg (thC y (.slice S y.sn.length cs)), .agg (evC e), .int .u64 (v : Int)] w fun q w' => ∃ A2 c2, q = .returned (.agg (thC (behT (atT l y) y e v) (.slice A2 (behT (atT l y) y e v).sn.length c2))) ∧ w'.ownsRow w.heap.size 23 1 (.slice A2 (behT (atT l y) y e v).sn.length c2) (behT (atT l y) y e v).sn.length (cells64 (behT (atT l y) y e v).sn) ∧ Below w.heap.size w w' := by
  obtain ⟨hc1, hc2⟩ := seq_form h
  have hb3 : Below w.heap.size w (((w.alloc (.cells (thC y (.slice S y.sn.length cs)) 27)).alloc (.cells (evC e) 42)).alloc (.cells thZ 27)) := (((Below.refl _ _).alloc (Nat.le_refl _) _).alloc (by simp) _).alloc (by simp; omega) _
  have l1 := ((Lies.made w 27 (thC y (.slice S y.sn.length cs))).alloc (.cells (evC e) 42)).alloc (.cells thZ 27)
  have l2 := (Lies.made (w.alloc (.cells (thC y (.slice S y.sn.length cs)) 27)) 42 (evC e)).alloc (.cells thZ 27)
  have l3 := Lies.made ((w.alloc (.cells (thC y (.slice S y.sn.length cs)) 27)).alloc (.cells (evC e) 42)) 27 thZ
  rw [show (w.alloc (.cells (thC y (.slice S y.sn.length cs)) 27)).heap.size = w.heap.size + 1 by simp] at l2
  rw [show ((w.alloc (.cells (thC y (.slice S y.sn.length cs)) 27)).alloc (.cells (evC e) 42)).heap.size = w.heap.size + 1 + 1 by simp] at l3
  have HB := Lib.hid hb3
  have HG := Lib.hid l1
  have HE := Lib.hid l2
  have H4 := Lib.hid l3
  have HONE := Lib.hid (fun z A2 m c2 => thC_one z (v := .slice A2 m c2) rfl)
  have HKD := Lib.hid hk
  have HH := Lib.hid (fun (q : World) (hq : Below w.heap.size w q) => h.later hq)
  clear hb3 l1 l2 l3 hk
  have HSQ := Lib.hid (fun (q : World) (hq : Below w.heap.size w q) => hs.later hq)
  clear hs
  obtain ⟨an, han⟩ : ∃ n : Nat, y.at_ = n := ⟨y.at_.toNat, by omega⟩
  obtain ⟨i, hi⟩ : ∃ i, l[an]? = some i := ⟨_, List.getElem?_eq_getElem (by omega)⟩
  have hgt := atT_get han hi
  have hab := right_ab ((codeB_parts hcd).2 i (List.mem_of_getElem? hi)).1
  have hlen := (codeB_parts hcd).1
  obtain ⟨b, off, rfl, hbl, hg⟩ := InsAt.at_ h hi
  have HGI := Lib.hid (fun (q : World) (hq : Below w.heap.size w q) (j : Nat) (u : Value) (hj : j < 6) (hu : (inF i)[j]? = some u) => cell_later (hg j u hj hu) hq)
  have hal : (an : Int) < (l.length : Int) := by omega
  have hw1a : IntKind.i64.wrap ((an : Int) + 1) = (an : Int) + 1 := IntWalk.i64_in _ (by omega)
  have HAN := Lib.hid han
  obtain ⟨ian, hian⟩ : ∃ n : Nat, i.a = n := ⟨i.a.toNat, by omega⟩
  obtain ⟨ibn, hibn⟩ : ∃ n : Nat, i.b = n := ⟨i.b.toNat, by omega⟩
  have ha8 : ian < 8 := by omega
  have hb8 : ibn < 8 := by omega
  have HIA := Lib.hid hian
  have HIB := Lib.hid hibn
  have HGT := Lib.hid hgt
  clear hgt hab hi hg hbl hian hibn han h hcd hat0 hat1
  go_enter Try.func36, Try.ntmps36
  go_upto_region 1 with (fail)
  generalize hw1 : (((w.alloc (.cells (thC y (.slice S y.sn.length cs)) 27)).alloc (.cells (evC e) 42)).alloc (.cells thZ 27)) = w1 at *
  clear hw1
  obtain ⟨n, hn⟩ : ∃ n, y.sn.length = n := ⟨_, rfl⟩
  rw [hn] at HG HSQ hl
  have HN := Lib.hid hn
  clear hn
  have q0 := (HE.out.cell 0).trans (show _ = some (Value.int .i64 e.th) from rfl)
  have q1 := (HE.out.cell 1).trans (show _ = some (Value.int .i64 e.kd) from rfl)
  have q2 := (HE.out.cell 2).trans (show _ = some (Value.int .i64 e.rg) from rfl)
  have q3 := (HE.out.cell 3).trans (show _ = some (Value.int .u64 (e.tk : Int)) from rfl)
  have q4 := (HE.out.cell 4).trans (show _ = some (Value.int .u64 (e.vl : Int)) from rfl)
  have ql := HE.out.lt
  rw [HKD.out] at q1
  have g0 := HGI.out _ HB.out 0 _ (by decide) rfl
  have g1 := HGI.out _ HB.out 1 _ (by decide) rfl
  have g2 := HGI.out _ HB.out 2 _ (by decide) rfl
  have g3 := HGI.out _ HB.out 3 _ (by decide) rfl
  have g4 := HGI.out _ HB.out 4 _ (by decide) rfl
  have g5 := HGI.out _ HB.out 5 _ (by decide) rfl
  rw [Nat.add_zero] at g0
  have c0 := (HG.out.cell 0).trans (show _ = some (Value.int .i64 y.at_) from rfl)
  rw [HAN.out] at c0
  have cl := HG.out.lt
  go_upto_region 14 with (fail)
  clear q0 q1 q2 q3 q4 ql
  clear g0 g1 g2 g3 g4 g5 c0 cl
  have hb3s : w.heap.size + 1 + 1 < w1.heap.size := H4.out.lt
  have hba := (Below.refl w1.heap.size w1).alloc (Nat.le_refl _) (.cells (inC i) 50)
  have HI := Lib.hid (Lies.made w1 50 (inC i))
  replace HG := Lib.hid (HG.out.below hba HG.out.lt)
  replace HE := Lib.hid (HE.out.below hba HE.out.lt)
  replace H4 := Lib.hid (H4.out.below hba H4.out.lt)
  replace HB := Lib.hid (HB.out.trans (hba.mono HB.out.size))
  clear hba
  generalize hw2 : w1.alloc (.cells (inC i) 50) = wr0 at *
  generalize hb3e : w1.heap.size = b3 at *
  clear hw2 hb3e
  have q0 := (HE.out.cell 0).trans (show _ = some (Value.int .i64 e.th) from rfl)
  have q1 := (HE.out.cell 1).trans (show _ = some (Value.int .i64 e.kd) from rfl)
  have q2 := (HE.out.cell 2).trans (show _ = some (Value.int .i64 e.rg) from rfl)
  have q3 := (HE.out.cell 3).trans (show _ = some (Value.int .u64 (e.tk : Int)) from rfl)
  have q4 := (HE.out.cell 4).trans (show _ = some (Value.int .u64 (e.vl : Int)) from rfl)
  have ql := HE.out.lt
  rw [HKD.out] at q1
  go_wp2_with fail
  clear q0 q1 q2 q3 q4 ql
  obtain ⟨N, hN⟩ : ∃ N, wr0.heap.size = N := ⟨_, rfl⟩
  have hBN : w.heap.size + 1 + 1 < N := by rw [← hN]; exact H4.out.lt
  have HNS : Hid (wr0.heap.size = N) := hN
  have HNW : Hid (N ≤ wr0.heap.size) := Nat.le_of_eq hN.symm
  clear hN
  have HEK := Lib.hid (fun (q : World) (hq : Kept (oneRow (w.heap.size)) wr0 q) => HE.out.kept hq (fun (e : w.heap.size + 1 = w.heap.size) => by omega))
  have HSK := Lib.hid (fun (q : World) (hq : Kept (oneRow (w.heap.size)) wr0 q) => HSQ.out q (HB.out.trans (hq.below HB.out.size (fun k hk (e : k = w.heap.size) => by omega))))
  have HSZ := Lib.hid (fun (q : World) (hq : Kept (oneRow (w.heap.size)) wr0 q) => Nat.le_trans HNW.out hq.size)
  have HXS : Hid (cells64 y.sn ++ [.int .u64 (e.vl : Int)] = cells64 (y.sn ++ [e.vl])) := by show _ = _; simp [cells64]
  refine wp_region_rely (fun q => Kept (oneRow (w.heap.size)) wr0 q) (beV (w.heap.size) (w.heap.size + 1) N n 27 y (.slice S n cs) e) [some 100, some 101, some 102, some 103, some 104, some 105, some 106, some 107, some 108, none] [[], [], [1, 10], [0, 2], [], [4], [5], [3, 6], [], [8, 7, 10]] [[], [], [1], [0, 1, 2], [], [4], [4, 5], [0, 2, 3, 5, 6], [0, 1, 2, 3, 4, 5, 6], [0, 1, 2, 3, 4, 5, 6, 7, 8, 10]] [[1, 2, 4, 5, 6, 7, 10], [0, 3, 4, 5, 6, 7, 10], [0, 4, 5, 6, 7, 10], [4, 5, 6, 10], [0, 1, 2, 3, 6, 7, 10], [0, 1, 2, 3, 7, 10], [0, 1, 2, 3, 10], [10], [7, 10], []] [0, 1, 2, 3, 4, 5, 6, 7, 8, 9] 11 (by kernel_rfl) (by kernel_rfl) (by kernel_rfl) (by kernel_rfl) ?rS ?rI ?rT ?rE
  case rS => exact Kept.drew _ _
  case rI =>
    intro j h1 h2
    have h1 : j < 11 := h1
    have h2 : 10 ≤ j := h2
    obtain rfl : j = 10 := by omega
    exact HG.out.drewN 1
  case rT =>
    refine RelySteps.cons (RelyStep.mk [] [1, 2, 4, 5, 6, 7, 10] rfl rfl rfl (fun xv wS hS hV bq hb K hK => ?_)) ?_
    · clear hV
      simp only [putsOf, List.foldl_cons, List.foldl_nil, List.getD_cons_zero, List.getD_cons_succ, List.getD_nil, cond_true, cond_false, Act.put, List.setIfInBounds_toArray, List.set_cons_zero, List.set_cons_succ] at hb
      subst hb
      rw [if_pos (by rfl)]
      have HSS := Lib.hid hS
      clear hS
      go_wp2_with fail
      exact hK.out _ _ ⟨_, rfl, HSS.out.trans (Kept.alloc noRow wS _) (fun _ _ e => e.elim), ⟨_, rfl, HSZ.out _ HSS.out, Lies.made _ _ _, owned_empty _ _ (HSZ.out _ HSS.out)⟩, AllP.of _ (fun j _ u h => beV_alloc _ h)⟩
    refine RelySteps.cons (RelyStep.mk [] [0, 3, 4, 5, 6, 7, 10] rfl rfl rfl (fun xv wS hS hV bq hb K hK => ?_)) ?_
    · clear hV
      simp only [putsOf, List.foldl_cons, List.foldl_nil, List.getD_cons_zero, List.getD_cons_succ, List.getD_nil, cond_true, cond_false, Act.put, List.setIfInBounds_toArray, List.set_cons_zero, List.set_cons_succ] at hb
      subst hb
      rw [if_pos (by rfl)]
      go_wp2_with fail
      exact hK.out _ _ ⟨_, rfl, hS, rfl, AllP.same _⟩
    refine RelySteps.cons (RelyStep.mk [1, 10] [0, 4, 5, 6, 7, 10] rfl rfl rfl (fun xv wS hS hV bq hb K hK => ?_)) ?_
    · obtain ⟨h1, h10, _⟩ := hV
      have h1 : xv 1 = _ := h1
      simp only [putsOf, List.foldl_cons, List.foldl_nil, List.getD_cons_zero, List.getD_cons_succ, List.getD_nil, cond_true, cond_false, Act.put, List.setIfInBounds_toArray, List.set_cons_zero, List.set_cons_succ, h1] at hb
      clear h1
      generalize xv 10 = y10 at *
      subst hb
      rw [if_pos (by rfl)]
      (have qq : Lies wS (w.heap.size) 27 (thC y (.slice S n cs)) := h10; have c9 := (qq.cell 13).trans (show _ = some (.slice S n cs) from rfl); have c8 := qq.lt)
      go_wp2_with fail
      exact hK.out _ _ ⟨_, rfl, hS, rfl, AllP.same _⟩
    refine RelySteps.cons (RelyStep.mk [0, 2] [4, 5, 6, 10] rfl rfl rfl (fun xv wS hS hV bq hb K hK => ?_)) ?_
    · obtain ⟨h0, h2, _⟩ := hV
      have h2 : xv 2 = _ := h2
      simp only [putsOf, List.foldl_cons, List.foldl_nil, List.getD_cons_zero, List.getD_cons_succ, List.getD_nil, cond_true, cond_false, Act.put, List.setIfInBounds_toArray, List.set_cons_zero, List.set_cons_succ, h2] at hb
      generalize xv 0 = y0 at *
      clear h2
      subst hb
      rw [if_pos (by rfl)]
      obtain ⟨r, rfl, hr, hlr, ho⟩ := h0
      have HSS := Lib.hid hS
      clear hS
      refine step_list (ops := #[]) (by rfl) (append_argS wS 1 rfl (.tmp 100) (.tmp 102) 25 rfl N 23 (.int .u64 0) 8 Try.underlying25 Try.info64 rfl (by decide) _ 0 [] rfl ho S n cs rfl (cells64 y.sn) (HSK.out _ HSS.out) (cells64_one _) (by unfold maxLen; omega) (by omega) (HSZ.out _ HSS.out) ?_)
      intro v' w' ho3 hb3 hg3
      rw [List.nil_append, Nat.zero_add] at ho3
      have hk3 := Kept.of_grown hg3
      exact hK.out _ _ ⟨_, rfl, HSS.out.trans (kept_from hb3) (fun k hk (e : N ≤ k) => by have := HNS.out; omega), ho3, AllP.of _ (fun j hj u h => beV_grow hk3 hlr (fun (e : r = w.heap.size) => by omega) (all_in (fun j => j != 0 && (j != 3 && (j != 7 && j != 9))) rfl hj) h)⟩
    refine RelySteps.cons (RelyStep.mk [] [0, 1, 2, 3, 6, 7, 10] rfl rfl rfl (fun xv wS hS hV bq hb K hK => ?_)) ?_
    · clear hV
      simp only [putsOf, List.foldl_cons, List.foldl_nil, List.getD_cons_zero, List.getD_cons_succ, List.getD_nil, cond_true, cond_false, Act.put, List.setIfInBounds_toArray, List.set_cons_zero, List.set_cons_succ] at hb
      subst hb
      rw [if_pos (by rfl)]
      go_wp2_with fail
      exact hK.out _ _ ⟨_, rfl, hS, rfl, AllP.same _⟩
    refine RelySteps.cons (RelyStep.mk [4] [0, 1, 2, 3, 7, 10] rfl rfl rfl (fun xv wS hS hV bq hb K hK => ?_)) ?_
    · obtain ⟨h4, _⟩ := hV
      have h4 : xv 4 = _ := h4
      simp only [putsOf, List.foldl_cons, List.foldl_nil, List.getD_cons_zero, List.getD_cons_succ, List.getD_nil, cond_true, cond_false, Act.put, List.setIfInBounds_toArray, List.set_cons_zero, List.set_cons_succ, h4] at hb
      clear h4
      subst hb
      rw [if_pos (by rfl)]
      (have HZ := Lib.hid (HEK.out _ hS); have c9 := (HZ.out.cell 4).trans (show _ = some (Value.int .u64 (e.vl : Int)) from rfl); have c8 := HZ.out.lt)
      go_wp2_with fail
      exact hK.out _ _ ⟨_, rfl, hS, rfl, AllP.same _⟩
    refine RelySteps.cons (RelyStep.mk [5] [0, 1, 2, 3, 10] rfl rfl rfl (fun xv wS hS hV bq hb K hK => ?_)) ?_
    · obtain ⟨h5, _⟩ := hV
      have h5 : xv 5 = _ := h5
      simp only [putsOf, List.foldl_cons, List.foldl_nil, List.getD_cons_zero, List.getD_cons_succ, List.getD_nil, cond_true, cond_false, Act.put, List.setIfInBounds_toArray, List.set_cons_zero, List.set_cons_succ, h5] at hb
      clear h5
      subst hb
      rw [if_pos (by rfl)]
      have HSS := Lib.hid hS
      clear hS
      go_wp2_with fail
      exact hK.out _ _ ⟨_, rfl, HSS.out.trans (Kept.alloc noRow wS _) (fun _ _ e => e.elim), ⟨_, rfl, HSZ.out _ HSS.out, Lies.made _ _ _⟩, AllP.of _ (fun j _ u h => beV_alloc _ h)⟩
    refine RelySteps.cons (RelyStep.mk [3, 6] [10] rfl rfl rfl (fun xv wS hS hV bq hb K hK => ?_)) ?_
    · obtain ⟨h3, h6, _⟩ := hV
      simp only [putsOf, List.foldl_cons, List.foldl_nil, List.getD_cons_zero, List.getD_cons_succ, List.getD_nil, cond_true, cond_false, Act.put, List.setIfInBounds_toArray, List.set_cons_zero, List.set_cons_succ] at hb
      generalize xv 3 = y3 at *
      generalize xv 6 = y6 at *
      subst hb
      rw [if_pos (by rfl)]
      obtain ⟨g, rfl, hg6, hl6⟩ := h6
      have HSS := Lib.hid hS
      clear hS
      refine step_list (ops := #[]) (by rfl) (append_argS wS 1 rfl (.tmp 103) (.tmp 106) 25 rfl N 23 (.int .u64 0) 8 Try.underlying25 Try.info64 rfl (by decide) _ n (cells64 y.sn) rfl h3 (some ⟨g, 0, none⟩) 1 1 rfl [.int .u64 (e.vl : Int)] ⟨rfl, _, _, rfl, Nat.le_refl _, by unfold maxLen; omega, (fun h => by cases h), fun k x hx => ⟨g, 0, rfl, by rw [Nat.zero_add, hl6.cell]; rw [← hx]; simp⟩⟩ (by intro q hq; simp at hq; subst hq; rfl) (by unfold maxLen; omega) (by omega) (HSZ.out _ HSS.out) ?_)
      intro v' w' ho3 hb3 hg3
      rw [HXS.out] at ho3
      exact hK.out _ _ ⟨_, rfl, HSS.out.trans (kept_from hb3) (fun k hk (e : N ≤ k) => by have := HNS.out; omega), ho3, AllP.of _ (fun j hj u h => beV_ten (hb3.mono (show w.heap.size + 1 ≤ N by omega)) (all_in (fun j => j != 0 && (j != 3 && (j != 6 && (j != 7 && j != 9)))) rfl hj) h)⟩
    refine RelySteps.cons (RelyStep.mk [] [7, 10] rfl rfl rfl (fun xv wS hS hV bq hb K hK => ?_)) ?_
    · clear hV
      simp only [putsOf, List.foldl_cons, List.foldl_nil, List.getD_cons_zero, List.getD_cons_succ, List.getD_nil, cond_true, cond_false, Act.put, List.setIfInBounds_toArray, List.set_cons_zero, List.set_cons_succ] at hb
      subst hb
      rw [if_pos (by rfl)]
      go_wp2_with fail
      exact hK.out _ _ ⟨_, rfl, hS, rfl, AllP.same _⟩
    refine RelySteps.cons (RelyStep.mk [8, 7, 10] [] rfl rfl rfl (fun xv wS hS hV bq hb K hK => ?_)) ?_
    · obtain ⟨h8, h7, h10, _⟩ := hV
      have h8 : xv 8 = _ := h8
      simp only [putsOf, List.foldl_cons, List.foldl_nil, List.getD_cons_zero, List.getD_cons_succ, List.getD_nil, cond_true, cond_false, Act.put, List.setIfInBounds_toArray, List.set_cons_zero, List.set_cons_succ, h8] at hb
      clear h8
      generalize xv 7 = y7 at *
      generalize xv 10 = y10 at *
      subst hb
      rw [if_pos (by rfl)]
      have qq : Lies wS (w.heap.size) 27 (thC y (.slice S n cs)) := h10
      obtain ⟨A2, c2, rfl⟩ := owns_slice h7
      have HQ := Lib.hid qq
      have HO7 := Lib.hid h7
      have HSS := Lib.hid hS
      have c9 := (qq.cell 13).trans (show _ = some (.slice S n cs) from rfl)
      have c8 := qq.lt
      have f9 := qq.free 13
      clear hS h7 qq h10
      go_wp2_with fail
      exact hK.out _ _ ⟨undef, rfl, HSS.out.trans (Kept.put wS (w.heap.size) 13 _) (fun _ _ e => e), ⟨A2, c2, HQ.out.put 13 _, owns_put HO7.out HQ.out (by decide) 13 _⟩, AllP.of _ (fun j hj u h => beV_low (all_in (fun j => j != 0 && (j != 3 && (j != 6 && (j != 7 && (j != 9 && j != 10))))) rfl hj) h)⟩
    exact RelySteps.nil
  case rE =>
    intro xv wE hS hV
    have h9 := hV 9 (by decide) (by decide)
    clear hV
    simp only [putsOf, List.foldl_cons, List.foldl_nil, List.getD_cons_zero, List.getD_cons_succ, List.getD_nil, cond_true, cond_false, Act.put, List.setIfInBounds_toArray, List.set_cons_zero, List.set_cons_succ]
    generalize xv 0 = y0 at *
    generalize xv 1 = y1 at *
    generalize xv 2 = y2 at *
    generalize xv 3 = y3 at *
    generalize xv 4 = y4 at *
    generalize xv 5 = y5 at *
    generalize xv 6 = y6 at *
    generalize xv 7 = y7 at *
    generalize xv 8 = y8 at *
    generalize xv 9 = y9 at *
    obtain ⟨A2, k2, hl2, ho2⟩ := h9
    have hb2 := hS.below HB.out.size (fun k hk (e : k = w.heap.size) => by omega)
    replace H4 := Lib.hid (H4.out.kept hS (fun (e : w.heap.size + 1 + 1 = w.heap.size) => by omega))
    replace HE := Lib.hid (HE.out.kept hS (fun (e : w.heap.size + 1 = w.heap.size) => by omega))
    replace HB := Lib.hid (HB.out.trans hb2)
    replace HG := Lib.hid hl2
    have HO := Lib.hid (owns_mono ho2 (show w.heap.size ≤ N by omega))
    clear hS hb2 hl2 ho2 HI HSQ HEK HSK HSZ HXS HGI
    have c0 := (HG.out.cell 0).trans (show _ = some (.int .i64 y.at_) from rfl)
    rw [HAN.out] at c0
    have c1 := (HG.out.cell 1).trans (show _ = some (.int .i64 y.ph) from rfl)
    have c2 := (HG.out.cell 2).trans (show _ = some (.int .i64 y.rg) from rfl)
    have c4 := (HG.out.cell 4).trans (show _ = some (.int .u64 (y.tk : Int)) from rfl)
    have cl := HG.out.lt
    have f0 := HG.out.free 0
    have f1 := HG.out.free 1
    have f2 := HG.out.free 2
    have f4 := HG.out.free 4
    go_upto_region 37 with (fail)
    clear c0 c1 c2 c4 cl f0 f1 f2 f4
    have hgz := (((HG.out.put 1 (.int .i64 0)).put 2 (.int .i64 0)).put 4 (.int .u64 0)).put 0 (.int .i64 ((an : Int) + 1))
    have hkz := (((Kept.put wE (w.heap.size) 1 (.int .i64 0)).trans (Kept.put _ (w.heap.size) 2 (.int .i64 0)) (fun _ _ e => e)).trans (Kept.put _ (w.heap.size) 4 (.int .u64 0)) (fun _ _ e => e)).trans (Kept.put _ (w.heap.size) 0 (.int .i64 ((an : Int) + 1))) (fun _ _ e => e)
    rw [show ((an : Int) + 1) = y.at_ + 1 by rw [HAN.out]] at hgz hkz ⊢
    have hoz := owns_kept HO.out hkz (fun r cur hr hl (e : r = w.heap.size) => by subst e; exact absurd (hl.same HG.out).1 (by decide))
    replace H4 := Lib.hid (H4.out.kept hkz (fun (e : w.heap.size + 1 + 1 = w.heap.size) => by omega))
    replace HB := Lib.hid (HB.out.trans (hkz.below HB.out.size (fun k hk (e : k = w.heap.size) => by omega)))
    replace HG := Lib.hid (show Lies ((((wE.setCell ⟨w.heap.size, 1, none⟩ (.int .i64 0)).setCell ⟨w.heap.size, 2, none⟩ (.int .i64 0)).setCell ⟨w.heap.size, 4, none⟩ (.int .u64 0)).setCell ⟨w.heap.size, 0, none⟩ (.int .i64 (y.at_ + 1))) (w.heap.size) 27 (thC (endT (seeT y e.vl)) (.slice A2 (n + 1) k2)) from hgz)
    replace HO := Lib.hid hoz
    clear hgz hkz hoz HE
    generalize (((wE.setCell ⟨w.heap.size, 1, none⟩ (.int .i64 0)).setCell ⟨w.heap.size, 2, none⟩ (.int .i64 0)).setCell ⟨w.heap.size, 4, none⟩ (.int .u64 0)).setCell ⟨w.heap.size, 0, none⟩ (.int .i64 (y.at_ + 1)) = w9 at *
    have HBE : Hid (behT (atT l y) y e v = (endT (seeT y e.vl))) := by
      show _ = _
      unfold behT
      rw [HKD.out]
      simp
    have HZN : Hid (((endT (seeT y e.vl))).sn.length = n + 1) := by show (y.sn ++ [e.vl]).length = _; rw [List.length_append, HN.out]; rfl
    replace HO : Hid (w9.ownsRow w.heap.size 23 1 (.slice A2 (n + 1) k2) (n + 1) (cells64 ((endT (seeT y e.vl))).sn)) := HO
    have c0 := (HG.out.cell 0).trans (show _ = some (Value.int .i64 (endT (seeT y e.vl)).at_) from rfl)
    have c1 := (HG.out.cell 1).trans (show _ = some (Value.int .i64 (endT (seeT y e.vl)).ph) from rfl)
    have c2 := (HG.out.cell 2).trans (show _ = some (Value.int .i64 (endT (seeT y e.vl)).rg) from rfl)
    have c3 := (HG.out.cell 3).trans (show _ = some (Value.int .i64 (endT (seeT y e.vl)).st) from rfl)
    have c4 := (HG.out.cell 4).trans (show _ = some (Value.int .u64 ((endT (seeT y e.vl)).tk : Int)) from rfl)
    have c5 := (HG.out.cell 5).trans (show _ = some (Value.int .u64 ((endT (seeT y e.vl)).r 0 : Int)) from rfl)
    have c6 := (HG.out.cell 6).trans (show _ = some (Value.int .u64 ((endT (seeT y e.vl)).r 1 : Int)) from rfl)
    have c7 := (HG.out.cell 7).trans (show _ = some (Value.int .u64 ((endT (seeT y e.vl)).r 2 : Int)) from rfl)
    have c8 := (HG.out.cell 8).trans (show _ = some (Value.int .u64 ((endT (seeT y e.vl)).r 3 : Int)) from rfl)
    have c9 := (HG.out.cell 9).trans (show _ = some (Value.int .u64 ((endT (seeT y e.vl)).r 4 : Int)) from rfl)
    have c10 := (HG.out.cell 10).trans (show _ = some (Value.int .u64 ((endT (seeT y e.vl)).r 5 : Int)) from rfl)
    have c11 := (HG.out.cell 11).trans (show _ = some (Value.int .u64 ((endT (seeT y e.vl)).r 6 : Int)) from rfl)
    have c12 := (HG.out.cell 12).trans (show _ = some (Value.int .u64 ((endT (seeT y e.vl)).r 7 : Int)) from rfl)
    have c13 := (HG.out.cell 13).trans (show _ = some ((.slice A2 (n + 1) k2)) from rfl)
    have cl := HG.out.lt
    go_wp2_with (
      refine wpList_store_row rfl 27 _ _ rfl (w.heap.size + 1 + 1) (thC (endT (seeT y e.vl)) (.slice A2 (n + 1) k2)) rfl rfl 27 thZ H4.out infoTh rfl (HONE.out _ _ _ _) ?_
      clear c0 c1 c2 c3 c4 c5 c6 c7 c8 c9 c10 c11 c12 c13 cl
      have hk9 := kept_rowT (w := w9) (g := w.heap.size + 1 + 1) (thC (endT (seeT y e.vl)) (.slice A2 (n + 1) k2))
      have HBZ := Lib.hid (HB.out.trans (hk9.below HB.out.size (fun k hk (e : k = w.heap.size + 1 + 1) => by omega)))
      have Q4 := Lib.hid (lies_row H4.out (thC (endT (seeT y e.vl)) (.slice A2 (n + 1) k2)))
      have HOZ := Lib.hid (owns_kept HO.out hk9 (fun r cur hr hl (e : r = w.heap.size + 1 + 1) => by subst e; exact absurd (hl.same H4.out).1 (by decide)))
      clear hk9
      generalize w9.setRow (w.heap.size + 1 + 1) (thC (endT (seeT y e.vl)) (.slice A2 (n + 1) k2)) = wF at *
      clear HB H4 HG HO
      generalize hz9 : (endT (seeT y e.vl)) = Z9 at *
      have z0 := (Q4.out.cell 0).trans (show _ = some (Value.int .i64 Z9.at_) from rfl)
      have z1 := (Q4.out.cell 1).trans (show _ = some (Value.int .i64 Z9.ph) from rfl)
      have z2 := (Q4.out.cell 2).trans (show _ = some (Value.int .i64 Z9.rg) from rfl)
      have z3 := (Q4.out.cell 3).trans (show _ = some (Value.int .i64 Z9.st) from rfl)
      have z4 := (Q4.out.cell 4).trans (show _ = some (Value.int .u64 (Z9.tk : Int)) from rfl)
      have z5 := (Q4.out.cell 5).trans (show _ = some (Value.int .u64 (Z9.r 0 : Int)) from rfl)
      have z6 := (Q4.out.cell 6).trans (show _ = some (Value.int .u64 (Z9.r 1 : Int)) from rfl)
      have z7 := (Q4.out.cell 7).trans (show _ = some (Value.int .u64 (Z9.r 2 : Int)) from rfl)
      have z8 := (Q4.out.cell 8).trans (show _ = some (Value.int .u64 (Z9.r 3 : Int)) from rfl)
      have z9 := (Q4.out.cell 9).trans (show _ = some (Value.int .u64 (Z9.r 4 : Int)) from rfl)
      have z10 := (Q4.out.cell 10).trans (show _ = some (Value.int .u64 (Z9.r 5 : Int)) from rfl)
      have z11 := (Q4.out.cell 11).trans (show _ = some (Value.int .u64 (Z9.r 6 : Int)) from rfl)
      have z12 := (Q4.out.cell 12).trans (show _ = some (Value.int .u64 (Z9.r 7 : Int)) from rfl)
      have z13 := (Q4.out.cell 13).trans (show _ = some ((.slice A2 (n + 1) k2)) from rfl)
      have zl := Q4.out.lt
      go_wp2
      exact bodyPost_ret (v := .agg (thC Z9 (.slice A2 (n + 1) k2))) (by simp [results, Try.results36, go_sem, z0, z1, z2, z3, z4, z5, z6, z7, z8, z9, z10, z11, z12, z13]) rfl ⟨A2, k2, by rw [HBE.out, HZN.out], by rw [HBE.out, HZN.out]; exact HOZ.out, HBZ.out⟩)
end Go.Proofs.Ytiegmpjoiekekaa
/-
  What an event makes of a thread (layer 16): the document's Behind, at any event.
-/
namespace Go.Proofs.Ytiegmpjoiekekaa
open Go.RowKit
set_option linter.unusedVariables false
set_option linter.unusedSimpArgs false
theorem behT_sn {i : In} {y : Th} {e : Ev} {v : Nat} (h : e.kd ≠ 12) : (behT i y e v).sn = y.sn := by
  unfold behT
  split
  · rfl
  split
  · rfl
  split
  · rfl
  split
  · rfl
  try rw [if_neg h]
  exact regT_sn i y e v
def BehPost (l : List In) (y : Th) (S : Option Addr) (cs : Nat) (e : Ev) (v : Nat) (w : World) (q : Ending) (w' : World) : Prop :=
  ∃ A2 c2, q = .returned (.agg (thC (behT (atT l y) y e v) (.slice A2 (behT (atT l y) y e v).sn.length c2))) ∧ (A2 = S ∧ c2 = cs ∧ (behT (atT l y) y e v).sn = y.sn ∨ w'.ownsRow w.heap.size 23 1 (.slice A2 (behT (atT l y) y e v).sn.length c2) (behT (atT l y) y e v).sn.length (cells64 (behT (atT l y) y e v).sn)) ∧ Below w.heap.size w w'
theorem rfBeh16 (l : List In) (A : Option Addr) (c : Nat) (y : Th) (S : Option Addr) (cs : Nat) (e : Ev) (v : Nat) (w : World) (h : InsAt w A c l) (hs : SeqS w 1 (.slice S y.sn.length cs) y.sn.length (cells64 y.sn)) (hl : y.sn.length ≤ 1000000) (hcd : codeB l = true) (hat0 : 0 ≤ y.at_) (hat1 : e.kd ≠ 1 ∧ e.kd ≠ 3 ∧ e.kd ≠ 14 ∧ e.kd ≠ 15 → y.at_ < (l.length : Int)) (hkk : 1 ≤ e.kd ∧ e.kd ≤ 15) :
    Calls Try.prog 36 #[.slice A l.length c, .agg (thC y (.slice S y.sn.length cs)), .agg (evC e), .int .u64 (v : Int)] w (BehPost l y S cs e v w) := by
  have hcs : e.kd = 12 ∨ e.kd = 1 ∨ e.kd = 3 ∨ e.kd = 14 ∨ e.kd = 15 ∨ e.kd = 2 ∨ e.kd = 4 ∨ e.kd = 5 ∨ e.kd = 6 ∨ e.kd = 7 ∨ e.kd = 8 ∨ e.kd = 9 ∨ e.kd = 10 ∨ e.kd = 11 ∨ e.kd = 13 := by omega
  by_cases h12 : e.kd = 12
  · refine (rfBeh12 l A c y S cs e v w h hs hl hcd hat0 (hat1 (by omega)) h12).mono ?_
    rintro q w' ⟨A2, c2, h1, h2, h3⟩
    exact ⟨A2, c2, h1, .inr h2, h3⟩
  have hsn := behT_sn (i := atT l y) (y := y) (v := v) h12
  have fin : ∀ q w', (q = .returned (.agg (thC (behT (atT l y) y e v) (.slice S y.sn.length cs))) ∧ Below w.heap.size w w') → BehPost l y S cs e v w q w' := by
    rintro q w' ⟨h1, h2⟩
    exact ⟨S, cs, by rw [hsn]; exact h1, .inl ⟨rfl, rfl, hsn⟩, h2⟩
  rcases hcs with k | k | k | k | k | k | k | k | k | k | k | k | k | k | k
  · exact absurd k h12
  · exact (rfBeh1 l A c y _ e v w h rfl k).mono fin
  · exact (rfBeh3 l A c y _ e v w h rfl k).mono fin
  · exact (rfBeh14 l A c y _ e v w h rfl k).mono fin
  · exact (rfBeh15 l A c y _ e v w h rfl k).mono fin
  · exact (rfBeh2 l A c y _ e v w h rfl hcd hat0 (hat1 (by omega)) k).mono fin
  · exact (rfBeh4 l A c y _ e v w h rfl hcd hat0 (hat1 (by omega)) k).mono fin
  · exact (rfBeh5 l A c y _ e v w h rfl hcd hat0 (hat1 (by omega)) k).mono fin
  · exact (rfBeh6 l A c y _ e v w h rfl hcd hat0 (hat1 (by omega)) k).mono fin
  · exact (rfBeh7 l A c y _ e v w h rfl hcd hat0 (hat1 (by omega)) k).mono fin
  · exact (rfBeh8 l A c y _ e v w h rfl hcd hat0 (hat1 (by omega)) k).mono fin
  · exact (rfBeh9 l A c y _ e v w h rfl hcd hat0 (hat1 (by omega)) k).mono fin
  · exact (rfBeh10 l A c y _ e v w h rfl hcd hat0 (hat1 (by omega)) k).mono fin
  · exact (rfBeh11 l A c y _ e v w h rfl hcd hat0 (hat1 (by omega)) k).mono fin
  · exact (rfBeh13 l A c y _ e v w h rfl hcd hat0 (hat1 (by omega)) k).mono fin
end Go.Proofs.Ytiegmpjoiekekaa
