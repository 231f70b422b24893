/-
  What an event makes of a thread (layer 16): the document's Behind: one register, or none.
-/
import Derived.Test.YtiegmpjoiekekaaThd
namespace Go.Proofs.Ytiegmpjoiekekaa
open Go.RowKit
set_option linter.unusedVariables false
set_option linter.unusedSimpArgs false
set_option maxHeartbeats 8000000 in
set_option maxRecDepth 100000 in
theorem rfBeh13 (l : List In) (A : Option Addr) (c : Nat) (y : Th) (v0 : Value) (e : Ev) (v : Nat) (w : World) (h : InsAt w A c l) (hv : v0.oneCell' = true) (hcd : codeB l = true) (hat0 : 0 ≤ y.at_) (hat1 : y.at_ < (l.length : Int)) (hk : e.kd = 13) :
    Calls Try.prog 36 #[.slice A l.length c, .agg (thC y v0), .agg (evC e), .int .u64 (v : Int)] w fun q w' => q = .returned (.agg (thC (behT (atT l y) y e v) v0)) ∧ Below w.heap.size w w' := by
  obtain ⟨hc1, hc2⟩ := seq_form h
  have hb3 : Below w.heap.size w (((w.alloc (.cells (thC y v0) 27)).alloc (.cells (evC e) 42)).alloc (.cells thZ 27)) := (((Below.refl _ _).alloc (Nat.le_refl _) _).alloc (by simp) _).alloc (by simp; omega) _
  have l1 := ((Lies.made w 27 (thC y v0)).alloc (.cells (evC e) 42)).alloc (.cells thZ 27)
  have l2 := (Lies.made (w.alloc (.cells (thC y v0) 27)) 42 (evC e)).alloc (.cells thZ 27)
  have l3 := Lies.made ((w.alloc (.cells (thC y v0) 27)).alloc (.cells (evC e) 42)) 27 thZ
  rw [show (w.alloc (.cells (thC y v0) 27)).heap.size = w.heap.size + 1 by simp] at l2
  rw [show ((w.alloc (.cells (thC y v0) 27)).alloc (.cells (evC e) 42)).heap.size = w.heap.size + 1 + 1 by simp] at l3
  have HB := Lib.hid hb3
  have HG := Lib.hid l1
  have HE := Lib.hid l2
  have H4 := Lib.hid l3
  have HONE := Lib.hid (fun z => thC_one z hv)
  have HKD := Lib.hid hk
  have HH := Lib.hid (fun (q : World) (hq : Below w.heap.size w q) => h.later hq)
  clear hb3 l1 l2 l3 hk
  clear hv
  obtain ⟨an, han⟩ : ∃ n : Nat, y.at_ = n := ⟨y.at_.toNat, by omega⟩
  obtain ⟨i, hi⟩ : ∃ i, l[an]? = some i := ⟨_, List.getElem?_eq_getElem (by omega)⟩
  have hgt := atT_get han hi
  have hab := right_ab ((codeB_parts hcd).2 i (List.mem_of_getElem? hi)).1
  have hlen := (codeB_parts hcd).1
  obtain ⟨b, off, rfl, hbl, hg⟩ := InsAt.at_ h hi
  have HGI := Lib.hid (fun (q : World) (hq : Below w.heap.size w q) (j : Nat) (u : Value) (hj : j < 6) (hu : (inF i)[j]? = some u) => cell_later (hg j u hj hu) hq)
  have hal : (an : Int) < (l.length : Int) := by omega
  have hw1a : IntKind.i64.wrap ((an : Int) + 1) = (an : Int) + 1 := IntWalk.i64_in _ (by omega)
  have HAN := Lib.hid han
  obtain ⟨ian, hian⟩ : ∃ n : Nat, i.a = n := ⟨i.a.toNat, by omega⟩
  obtain ⟨ibn, hibn⟩ : ∃ n : Nat, i.b = n := ⟨i.b.toNat, by omega⟩
  have ha8 : ian < 8 := by omega
  have hb8 : ibn < 8 := by omega
  have HIA := Lib.hid hian
  have HIB := Lib.hid hibn
  have HGT := Lib.hid hgt
  clear hgt hab hi hg hbl hian hibn han h hcd hat0 hat1
  go_enter Try.func36, Try.ntmps36
  go_upto_region 1 with (fail)
  generalize hw1 : (((w.alloc (.cells (thC y v0) 27)).alloc (.cells (evC e) 42)).alloc (.cells thZ 27)) = w1 at *
  clear hw1
  have q0 := (HE.out.cell 0).trans (show _ = some (Value.int .i64 e.th) from rfl)
  have q1 := (HE.out.cell 1).trans (show _ = some (Value.int .i64 e.kd) from rfl)
  have q2 := (HE.out.cell 2).trans (show _ = some (Value.int .i64 e.rg) from rfl)
  have q3 := (HE.out.cell 3).trans (show _ = some (Value.int .u64 (e.tk : Int)) from rfl)
  have q4 := (HE.out.cell 4).trans (show _ = some (Value.int .u64 (e.vl : Int)) from rfl)
  have ql := HE.out.lt
  rw [HKD.out] at q1
  have g0 := HGI.out _ HB.out 0 _ (by decide) rfl
  have g1 := HGI.out _ HB.out 1 _ (by decide) rfl
  have g2 := HGI.out _ HB.out 2 _ (by decide) rfl
  have g3 := HGI.out _ HB.out 3 _ (by decide) rfl
  have g4 := HGI.out _ HB.out 4 _ (by decide) rfl
  have g5 := HGI.out _ HB.out 5 _ (by decide) rfl
  rw [Nat.add_zero] at g0
  have c0 := (HG.out.cell 0).trans (show _ = some (Value.int .i64 y.at_) from rfl)
  rw [HAN.out] at c0
  have cl := HG.out.lt
  go_upto_region 14 with (fail)
  clear q0 q1 q2 q3 q4 ql
  clear g0 g1 g2 g3 g4 g5 c0 cl
  have hb3s : w.heap.size + 1 + 1 < w1.heap.size := H4.out.lt
  have hba := (Below.refl w1.heap.size w1).alloc (Nat.le_refl _) (.cells (inC i) 50)
  have HI := Lib.hid (Lies.made w1 50 (inC i))
  replace HG := Lib.hid (HG.out.below hba HG.out.lt)
  replace HE := Lib.hid (HE.out.below hba HE.out.lt)
  replace H4 := Lib.hid (H4.out.below hba H4.out.lt)
  replace HB := Lib.hid (HB.out.trans (hba.mono HB.out.size))
  clear hba
  generalize hw2 : w1.alloc (.cells (inC i) 50) = wr0 at *
  generalize hb3e : w1.heap.size = b3 at *
  clear hw2 hb3e
  have q0 := (HE.out.cell 0).trans (show _ = some (Value.int .i64 e.th) from rfl)
  have q1 := (HE.out.cell 1).trans (show _ = some (Value.int .i64 e.kd) from rfl)
  have q2 := (HE.out.cell 2).trans (show _ = some (Value.int .i64 e.rg) from rfl)
  have q3 := (HE.out.cell 3).trans (show _ = some (Value.int .u64 (e.tk : Int)) from rfl)
  have q4 := (HE.out.cell 4).trans (show _ = some (Value.int .u64 (e.vl : Int)) from rfl)
  have ql := HE.out.lt
  rw [HKD.out] at q1
  go_upto_region 33 with (fail)
  clear q0 q1 q2 q3 q4 ql
  have c0 := (HG.out.cell 0).trans (show _ = some (.int .i64 y.at_) from rfl)
  rw [HAN.out] at c0
  have c1 := (HG.out.cell 1).trans (show _ = some (.int .i64 y.ph) from rfl)
  have c2 := (HG.out.cell 2).trans (show _ = some (.int .i64 y.rg) from rfl)
  have c4 := (HG.out.cell 4).trans (show _ = some (.int .u64 (y.tk : Int)) from rfl)
  have cl := HG.out.lt
  have f0 := HG.out.free 0
  have f1 := HG.out.free 1
  have f2 := HG.out.free 2
  have f4 := HG.out.free 4
  go_upto_region 37 with (fail)
  clear c0 c1 c2 c4 cl f0 f1 f2 f4
  replace H4 := Lib.hid (H4.out.far (p := ⟨w.heap.size, 1, none⟩) (show w.heap.size + 1 + 1 ≠ w.heap.size by omega) (.int .i64 0))
  replace HE := Lib.hid (HE.out.far (p := ⟨w.heap.size, 1, none⟩) (show w.heap.size + 1 ≠ w.heap.size by omega) (.int .i64 0))
  replace HB := Lib.hid (HB.out.setCell (p := ⟨w.heap.size, 1, none⟩) (Nat.le_refl _) (.int .i64 0))
  replace H4 := Lib.hid (H4.out.far (p := ⟨w.heap.size, 2, none⟩) (show w.heap.size + 1 + 1 ≠ w.heap.size by omega) (.int .i64 0))
  replace HE := Lib.hid (HE.out.far (p := ⟨w.heap.size, 2, none⟩) (show w.heap.size + 1 ≠ w.heap.size by omega) (.int .i64 0))
  replace HB := Lib.hid (HB.out.setCell (p := ⟨w.heap.size, 2, none⟩) (Nat.le_refl _) (.int .i64 0))
  replace H4 := Lib.hid (H4.out.far (p := ⟨w.heap.size, 4, none⟩) (show w.heap.size + 1 + 1 ≠ w.heap.size by omega) (.int .u64 0))
  replace HE := Lib.hid (HE.out.far (p := ⟨w.heap.size, 4, none⟩) (show w.heap.size + 1 ≠ w.heap.size by omega) (.int .u64 0))
  replace HB := Lib.hid (HB.out.setCell (p := ⟨w.heap.size, 4, none⟩) (Nat.le_refl _) (.int .u64 0))
  replace H4 := Lib.hid (H4.out.far (p := ⟨w.heap.size, 0, none⟩) (show w.heap.size + 1 + 1 ≠ w.heap.size by omega) (.int .i64 ((an : Int) + 1)))
  replace HE := Lib.hid (HE.out.far (p := ⟨w.heap.size, 0, none⟩) (show w.heap.size + 1 ≠ w.heap.size by omega) (.int .i64 ((an : Int) + 1)))
  replace HB := Lib.hid (HB.out.setCell (p := ⟨w.heap.size, 0, none⟩) (Nat.le_refl _) (.int .i64 ((an : Int) + 1)))
  have hgz := (((HG.out.put 1 (.int .i64 0)).put 2 (.int .i64 0)).put 4 (.int .u64 0)).put 0 (.int .i64 ((an : Int) + 1))
  rw [show ((an : Int) + 1) = y.at_ + 1 by rw [HAN.out]] at hgz H4 HB HE ⊢
  replace HG := Lib.hid (show Lies ((((wr0.setCell ⟨w.heap.size, 1, none⟩ (.int .i64 0)).setCell ⟨w.heap.size, 2, none⟩ (.int .i64 0)).setCell ⟨w.heap.size, 4, none⟩ (.int .u64 0)).setCell ⟨w.heap.size, 0, none⟩ (.int .i64 (y.at_ + 1))) (w.heap.size) 27 (thC (endT y) v0) from hgz)
  clear hgz
  generalize (((wr0.setCell ⟨w.heap.size, 1, none⟩ (.int .i64 0)).setCell ⟨w.heap.size, 2, none⟩ (.int .i64 0)).setCell ⟨w.heap.size, 4, none⟩ (.int .u64 0)).setCell ⟨w.heap.size, 0, none⟩ (.int .i64 (y.at_ + 1)) = w9 at *
  have HBE : Hid (behT (atT l y) y e v = (endT y)) := by
    show _ = _
    rw [HGT.out]
    unfold behT regT
    rw [HKD.out, HIA.out, HIB.out]
    simp
  clear HE HI
  have c0 := (HG.out.cell 0).trans (show _ = some (Value.int .i64 (endT y).at_) from rfl)
  have c1 := (HG.out.cell 1).trans (show _ = some (Value.int .i64 (endT y).ph) from rfl)
  have c2 := (HG.out.cell 2).trans (show _ = some (Value.int .i64 (endT y).rg) from rfl)
  have c3 := (HG.out.cell 3).trans (show _ = some (Value.int .i64 (endT y).st) from rfl)
  have c4 := (HG.out.cell 4).trans (show _ = some (Value.int .u64 ((endT y).tk : Int)) from rfl)
  have c5 := (HG.out.cell 5).trans (show _ = some (Value.int .u64 ((endT y).r 0 : Int)) from rfl)
  have c6 := (HG.out.cell 6).trans (show _ = some (Value.int .u64 ((endT y).r 1 : Int)) from rfl)
  have c7 := (HG.out.cell 7).trans (show _ = some (Value.int .u64 ((endT y).r 2 : Int)) from rfl)
  have c8 := (HG.out.cell 8).trans (show _ = some (Value.int .u64 ((endT y).r 3 : Int)) from rfl)
  have c9 := (HG.out.cell 9).trans (show _ = some (Value.int .u64 ((endT y).r 4 : Int)) from rfl)
  have c10 := (HG.out.cell 10).trans (show _ = some (Value.int .u64 ((endT y).r 5 : Int)) from rfl)
  have c11 := (HG.out.cell 11).trans (show _ = some (Value.int .u64 ((endT y).r 6 : Int)) from rfl)
  have c12 := (HG.out.cell 12).trans (show _ = some (Value.int .u64 ((endT y).r 7 : Int)) from rfl)
  have c13 := (HG.out.cell 13).trans (show _ = some (v0) from rfl)
  have cl := HG.out.lt
  go_wp2_with (
    refine wpList_store_row rfl 27 _ _ rfl (w.heap.size + 1 + 1) (thC (endT y) v0) rfl rfl 27 thZ H4.out infoTh rfl (HONE.out _) ?_
    clear c0 c1 c2 c3 c4 c5 c6 c7 c8 c9 c10 c11 c12 c13 cl
    have hk9 := kept_rowT (w := w9) (g := w.heap.size + 1 + 1) (thC (endT y) v0)
    have HBZ := Lib.hid (HB.out.trans (hk9.below HB.out.size (fun k hk (e : k = w.heap.size + 1 + 1) => by omega)))
    have Q4 := Lib.hid (lies_row H4.out (thC (endT y) v0))
    clear hk9
    generalize w9.setRow (w.heap.size + 1 + 1) (thC (endT y) v0) = wF at *
    clear HB H4 HG
    generalize hz9 : (endT y) = Z9 at *
    have z0 := (Q4.out.cell 0).trans (show _ = some (Value.int .i64 Z9.at_) from rfl)
    have z1 := (Q4.out.cell 1).trans (show _ = some (Value.int .i64 Z9.ph) from rfl)
    have z2 := (Q4.out.cell 2).trans (show _ = some (Value.int .i64 Z9.rg) from rfl)
    have z3 := (Q4.out.cell 3).trans (show _ = some (Value.int .i64 Z9.st) from rfl)
    have z4 := (Q4.out.cell 4).trans (show _ = some (Value.int .u64 (Z9.tk : Int)) from rfl)
    have z5 := (Q4.out.cell 5).trans (show _ = some (Value.int .u64 (Z9.r 0 : Int)) from rfl)
    have z6 := (Q4.out.cell 6).trans (show _ = some (Value.int .u64 (Z9.r 1 : Int)) from rfl)
    have z7 := (Q4.out.cell 7).trans (show _ = some (Value.int .u64 (Z9.r 2 : Int)) from rfl)
    have z8 := (Q4.out.cell 8).trans (show _ = some (Value.int .u64 (Z9.r 3 : Int)) from rfl)
    have z9 := (Q4.out.cell 9).trans (show _ = some (Value.int .u64 (Z9.r 4 : Int)) from rfl)
    have z10 := (Q4.out.cell 10).trans (show _ = some (Value.int .u64 (Z9.r 5 : Int)) from rfl)
    have z11 := (Q4.out.cell 11).trans (show _ = some (Value.int .u64 (Z9.r 6 : Int)) from rfl)
    have z12 := (Q4.out.cell 12).trans (show _ = some (Value.int .u64 (Z9.r 7 : Int)) from rfl)
    have z13 := (Q4.out.cell 13).trans (show _ = some (v0) from rfl)
    have zl := Q4.out.lt
    go_wp2
    exact bodyPost_ret (v := .agg (thC Z9 v0)) (by simp [results, Try.results36, go_sem, z0, z1, z2, z3, z4, z5, z6, z7, z8, z9, z10, z11, z12, z13]) rfl ⟨by rw [HBE.out], HBZ.out⟩)
set_option maxHeartbeats 8000000 in
set_option maxRecDepth 100000 in
theorem rfBeh2 (l : List In) (A : Option Addr) (c : Nat) (y : Th) (v0 : Value) (e : Ev) (v : Nat) (w : World) (h : InsAt w A c l) (hv : v0.oneCell' = true) (hcd : codeB l = true) (hat0 : 0 ≤ y.at_) (hat1 : y.at_ < (l.length : Int)) (hk : e.kd = 2) :
    Calls Try.prog 36 #[.slice A l.length c, .agg (thC y v0), .agg (evC e), .int .u64 (v : Int)] w fun q w' => q = .returned (.agg (thC (behT (atT l y) y e v) v0)) ∧ Below w.heap.size w w' := by
  obtain ⟨hc1, hc2⟩ := seq_form h
  have hb3 : Below w.heap.size w (((w.alloc (.cells (thC y v0) 27)).alloc (.cells (evC e) 42)).alloc (.cells thZ 27)) := (((Below.refl _ _).alloc (Nat.le_refl _) _).alloc (by simp) _).alloc (by simp; omega) _
  have l1 := ((Lies.made w 27 (thC y v0)).alloc (.cells (evC e) 42)).alloc (.cells thZ 27)
  have l2 := (Lies.made (w.alloc (.cells (thC y v0) 27)) 42 (evC e)).alloc (.cells thZ 27)
  have l3 := Lies.made ((w.alloc (.cells (thC y v0) 27)).alloc (.cells (evC e) 42)) 27 thZ
  rw [show (w.alloc (.cells (thC y v0) 27)).heap.size = w.heap.size + 1 by simp] at l2
  rw [show ((w.alloc (.cells (thC y v0) 27)).alloc (.cells (evC e) 42)).heap.size = w.heap.size + 1 + 1 by simp] at l3
  have HB := Lib.hid hb3
  have HG := Lib.hid l1
  have HE := Lib.hid l2
  have H4 := Lib.hid l3
  have HONE := Lib.hid (fun z => thC_one z hv)
  have HKD := Lib.hid hk
  have HH := Lib.hid (fun (q : World) (hq : Below w.heap.size w q) => h.later hq)
  clear hb3 l1 l2 l3 hk
  clear hv
  obtain ⟨an, han⟩ : ∃ n : Nat, y.at_ = n := ⟨y.at_.toNat, by omega⟩
  obtain ⟨i, hi⟩ : ∃ i, l[an]? = some i := ⟨_, List.getElem?_eq_getElem (by omega)⟩
  have hgt := atT_get han hi
  have hab := right_ab ((codeB_parts hcd).2 i (List.mem_of_getElem? hi)).1
  have hlen := (codeB_parts hcd).1
  obtain ⟨b, off, rfl, hbl, hg⟩ := InsAt.at_ h hi
  have HGI := Lib.hid (fun (q : World) (hq : Below w.heap.size w q) (j : Nat) (u : Value) (hj : j < 6) (hu : (inF i)[j]? = some u) => cell_later (hg j u hj hu) hq)
  have hal : (an : Int) < (l.length : Int) := by omega
  have hw1a : IntKind.i64.wrap ((an : Int) + 1) = (an : Int) + 1 := IntWalk.i64_in _ (by omega)
  have HAN := Lib.hid han
  obtain ⟨ian, hian⟩ : ∃ n : Nat, i.a = n := ⟨i.a.toNat, by omega⟩
  obtain ⟨ibn, hibn⟩ : ∃ n : Nat, i.b = n := ⟨i.b.toNat, by omega⟩
  have ha8 : ian < 8 := by omega
  have hb8 : ibn < 8 := by omega
  have HIA := Lib.hid hian
  have HIB := Lib.hid hibn
  have HGT := Lib.hid hgt
  clear hgt hab hi hg hbl hian hibn han h hcd hat0 hat1
  go_enter Try.func36, Try.ntmps36
  go_upto_region 1 with (fail)
  generalize hw1 : (((w.alloc (.cells (thC y v0) 27)).alloc (.cells (evC e) 42)).alloc (.cells thZ 27)) = w1 at *
  clear hw1
  have q0 := (HE.out.cell 0).trans (show _ = some (Value.int .i64 e.th) from rfl)
  have q1 := (HE.out.cell 1).trans (show _ = some (Value.int .i64 e.kd) from rfl)
  have q2 := (HE.out.cell 2).trans (show _ = some (Value.int .i64 e.rg) from rfl)
  have q3 := (HE.out.cell 3).trans (show _ = some (Value.int .u64 (e.tk : Int)) from rfl)
  have q4 := (HE.out.cell 4).trans (show _ = some (Value.int .u64 (e.vl : Int)) from rfl)
  have ql := HE.out.lt
  rw [HKD.out] at q1
  have g0 := HGI.out _ HB.out 0 _ (by decide) rfl
  have g1 := HGI.out _ HB.out 1 _ (by decide) rfl
  have g2 := HGI.out _ HB.out 2 _ (by decide) rfl
  have g3 := HGI.out _ HB.out 3 _ (by decide) rfl
  have g4 := HGI.out _ HB.out 4 _ (by decide) rfl
  have g5 := HGI.out _ HB.out 5 _ (by decide) rfl
  rw [Nat.add_zero] at g0
  have c0 := (HG.out.cell 0).trans (show _ = some (Value.int .i64 y.at_) from rfl)
  rw [HAN.out] at c0
  have cl := HG.out.lt
  go_upto_region 14 with (fail)
  clear q0 q1 q2 q3 q4 ql
  clear g0 g1 g2 g3 g4 g5 c0 cl
  have hb3s : w.heap.size + 1 + 1 < w1.heap.size := H4.out.lt
  have hba := (Below.refl w1.heap.size w1).alloc (Nat.le_refl _) (.cells (inC i) 50)
  have HI := Lib.hid (Lies.made w1 50 (inC i))
  replace HG := Lib.hid (HG.out.below hba HG.out.lt)
  replace HE := Lib.hid (HE.out.below hba HE.out.lt)
  replace H4 := Lib.hid (H4.out.below hba H4.out.lt)
  replace HB := Lib.hid (HB.out.trans (hba.mono HB.out.size))
  clear hba
  generalize hw2 : w1.alloc (.cells (inC i) 50) = wr0 at *
  generalize hb3e : w1.heap.size = b3 at *
  clear hw2 hb3e
  have q0 := (HE.out.cell 0).trans (show _ = some (Value.int .i64 e.th) from rfl)
  have q1 := (HE.out.cell 1).trans (show _ = some (Value.int .i64 e.kd) from rfl)
  have q2 := (HE.out.cell 2).trans (show _ = some (Value.int .i64 e.rg) from rfl)
  have q3 := (HE.out.cell 3).trans (show _ = some (Value.int .u64 (e.tk : Int)) from rfl)
  have q4 := (HE.out.cell 4).trans (show _ = some (Value.int .u64 (e.vl : Int)) from rfl)
  have ql := HE.out.lt
  rw [HKD.out] at q1
  have d1 := (HI.out.cell 1).trans (show _ = some (Value.int .i64 i.a) from rfl)
  have d2 := (HI.out.cell 2).trans (show _ = some (Value.int .i64 i.b) from rfl)
  have dl := HI.out.lt
  rw [HIA.out] at d1
  rw [HIB.out] at d2
  have ra := (HG.out.cell (5 + ibn)).trans (thC_reg y v0 hb8)
  have rl := HG.out.lt
  have rf := HG.out.free (5 + ibn)
  go_upto_region 33 with (fail)
  clear q0 q1 q2 q3 q4 ql
  clear d1 d2 dl ra rl rf
  replace H4 := Lib.hid (H4.out.far (p := ⟨w.heap.size, 5 + ibn, none⟩) (show w.heap.size + 1 + 1 ≠ w.heap.size by omega) (.int .u64 0))
  replace HE := Lib.hid (HE.out.far (p := ⟨w.heap.size, 5 + ibn, none⟩) (show w.heap.size + 1 ≠ w.heap.size by omega) (.int .u64 0))
  replace HB := Lib.hid (HB.out.setCell (p := ⟨w.heap.size, 5 + ibn, none⟩) (Nat.le_refl _) (.int .u64 0))
  replace HI := Lib.hid (HI.out.far (p := ⟨w.heap.size, 5 + ibn, none⟩) (show b3 ≠ w.heap.size by omega) (.int .u64 0))
  replace HG := Lib.hid (show Lies (wr0.setCell ⟨w.heap.size, 5 + ibn, none⟩ (.int .u64 0)) (w.heap.size) 27 (thC (setR y ibn 0) v0) from by have := HG.out.put (5 + ibn) (.int .u64 ((0 : Nat) : Int)); rwa [thC_set y v0 hb8] at this)
  generalize wr0.setCell ⟨w.heap.size, 5 + ibn, none⟩ (.int .u64 0) = wr1 at *
  have c0 := (HG.out.cell 0).trans (show _ = some (.int .i64 y.at_) from rfl)
  rw [HAN.out] at c0
  have c1 := (HG.out.cell 1).trans (show _ = some (.int .i64 y.ph) from rfl)
  have c2 := (HG.out.cell 2).trans (show _ = some (.int .i64 y.rg) from rfl)
  have c4 := (HG.out.cell 4).trans (show _ = some (.int .u64 (y.tk : Int)) from rfl)
  have cl := HG.out.lt
  have f0 := HG.out.free 0
  have f1 := HG.out.free 1
  have f2 := HG.out.free 2
  have f4 := HG.out.free 4
  go_upto_region 37 with (fail)
  clear c0 c1 c2 c4 cl f0 f1 f2 f4
  replace H4 := Lib.hid (H4.out.far (p := ⟨w.heap.size, 1, none⟩) (show w.heap.size + 1 + 1 ≠ w.heap.size by omega) (.int .i64 0))
  replace HE := Lib.hid (HE.out.far (p := ⟨w.heap.size, 1, none⟩) (show w.heap.size + 1 ≠ w.heap.size by omega) (.int .i64 0))
  replace HB := Lib.hid (HB.out.setCell (p := ⟨w.heap.size, 1, none⟩) (Nat.le_refl _) (.int .i64 0))
  replace H4 := Lib.hid (H4.out.far (p := ⟨w.heap.size, 2, none⟩) (show w.heap.size + 1 + 1 ≠ w.heap.size by omega) (.int .i64 0))
  replace HE := Lib.hid (HE.out.far (p := ⟨w.heap.size, 2, none⟩) (show w.heap.size + 1 ≠ w.heap.size by omega) (.int .i64 0))
  replace HB := Lib.hid (HB.out.setCell (p := ⟨w.heap.size, 2, none⟩) (Nat.le_refl _) (.int .i64 0))
  replace H4 := Lib.hid (H4.out.far (p := ⟨w.heap.size, 4, none⟩) (show w.heap.size + 1 + 1 ≠ w.heap.size by omega) (.int .u64 0))
  replace HE := Lib.hid (HE.out.far (p := ⟨w.heap.size, 4, none⟩) (show w.heap.size + 1 ≠ w.heap.size by omega) (.int .u64 0))
  replace HB := Lib.hid (HB.out.setCell (p := ⟨w.heap.size, 4, none⟩) (Nat.le_refl _) (.int .u64 0))
  replace H4 := Lib.hid (H4.out.far (p := ⟨w.heap.size, 0, none⟩) (show w.heap.size + 1 + 1 ≠ w.heap.size by omega) (.int .i64 ((an : Int) + 1)))
  replace HE := Lib.hid (HE.out.far (p := ⟨w.heap.size, 0, none⟩) (show w.heap.size + 1 ≠ w.heap.size by omega) (.int .i64 ((an : Int) + 1)))
  replace HB := Lib.hid (HB.out.setCell (p := ⟨w.heap.size, 0, none⟩) (Nat.le_refl _) (.int .i64 ((an : Int) + 1)))
  have hgz := (((HG.out.put 1 (.int .i64 0)).put 2 (.int .i64 0)).put 4 (.int .u64 0)).put 0 (.int .i64 ((an : Int) + 1))
  rw [show ((an : Int) + 1) = y.at_ + 1 by rw [HAN.out]] at hgz H4 HB HE ⊢
  replace HG := Lib.hid (show Lies ((((wr1.setCell ⟨w.heap.size, 1, none⟩ (.int .i64 0)).setCell ⟨w.heap.size, 2, none⟩ (.int .i64 0)).setCell ⟨w.heap.size, 4, none⟩ (.int .u64 0)).setCell ⟨w.heap.size, 0, none⟩ (.int .i64 (y.at_ + 1))) (w.heap.size) 27 (thC (endT (setR y ibn 0)) v0) from hgz)
  clear hgz
  generalize (((wr1.setCell ⟨w.heap.size, 1, none⟩ (.int .i64 0)).setCell ⟨w.heap.size, 2, none⟩ (.int .i64 0)).setCell ⟨w.heap.size, 4, none⟩ (.int .u64 0)).setCell ⟨w.heap.size, 0, none⟩ (.int .i64 (y.at_ + 1)) = w9 at *
  have HBE : Hid (behT (atT l y) y e v = (endT (setR y ibn 0))) := by
    show _ = _
    rw [HGT.out]
    unfold behT regT
    rw [HKD.out, HIA.out, HIB.out]
    simp
  clear HE HI
  have c0 := (HG.out.cell 0).trans (show _ = some (Value.int .i64 (endT (setR y ibn 0)).at_) from rfl)
  have c1 := (HG.out.cell 1).trans (show _ = some (Value.int .i64 (endT (setR y ibn 0)).ph) from rfl)
  have c2 := (HG.out.cell 2).trans (show _ = some (Value.int .i64 (endT (setR y ibn 0)).rg) from rfl)
  have c3 := (HG.out.cell 3).trans (show _ = some (Value.int .i64 (endT (setR y ibn 0)).st) from rfl)
  have c4 := (HG.out.cell 4).trans (show _ = some (Value.int .u64 ((endT (setR y ibn 0)).tk : Int)) from rfl)
  have c5 := (HG.out.cell 5).trans (show _ = some (Value.int .u64 ((endT (setR y ibn 0)).r 0 : Int)) from rfl)
  have c6 := (HG.out.cell 6).trans (show _ = some (Value.int .u64 ((endT (setR y ibn 0)).r 1 : Int)) from rfl)
  have c7 := (HG.out.cell 7).trans (show _ = some (Value.int .u64 ((endT (setR y ibn 0)).r 2 : Int)) from rfl)
  have c8 := (HG.out.cell 8).trans (show _ = some (Value.int .u64 ((endT (setR y ibn 0)).r 3 : Int)) from rfl)
  have c9 := (HG.out.cell 9).trans (show _ = some (Value.int .u64 ((endT (setR y ibn 0)).r 4 : Int)) from rfl)
  have c10 := (HG.out.cell 10).trans (show _ = some (Value.int .u64 ((endT (setR y ibn 0)).r 5 : Int)) from rfl)
  have c11 := (HG.out.cell 11).trans (show _ = some (Value.int .u64 ((endT (setR y ibn 0)).r 6 : Int)) from rfl)
  have c12 := (HG.out.cell 12).trans (show _ = some (Value.int .u64 ((endT (setR y ibn 0)).r 7 : Int)) from rfl)
  have c13 := (HG.out.cell 13).trans (show _ = some (v0) from rfl)
  have cl := HG.out.lt
  go_wp2_with (
    refine wpList_store_row rfl 27 _ _ rfl (w.heap.size + 1 + 1) (thC (endT (setR y ibn 0)) v0) rfl rfl 27 thZ H4.out infoTh rfl (HONE.out _) ?_
    clear c0 c1 c2 c3 c4 c5 c6 c7 c8 c9 c10 c11 c12 c13 cl
    have hk9 := kept_rowT (w := w9) (g := w.heap.size + 1 + 1) (thC (endT (setR y ibn 0)) v0)
    have HBZ := Lib.hid (HB.out.trans (hk9.below HB.out.size (fun k hk (e : k = w.heap.size + 1 + 1) => by omega)))
    have Q4 := Lib.hid (lies_row H4.out (thC (endT (setR y ibn 0)) v0))
    clear hk9
    generalize w9.setRow (w.heap.size + 1 + 1) (thC (endT (setR y ibn 0)) v0) = wF at *
    clear HB H4 HG
    generalize hz9 : (endT (setR y ibn 0)) = Z9 at *
    have z0 := (Q4.out.cell 0).trans (show _ = some (Value.int .i64 Z9.at_) from rfl)
    have z1 := (Q4.out.cell 1).trans (show _ = some (Value.int .i64 Z9.ph) from rfl)
    have z2 := (Q4.out.cell 2).trans (show _ = some (Value.int .i64 Z9.rg) from rfl)
    have z3 := (Q4.out.cell 3).trans (show _ = some (Value.int .i64 Z9.st) from rfl)
    have z4 := (Q4.out.cell 4).trans (show _ = some (Value.int .u64 (Z9.tk : Int)) from rfl)
    have z5 := (Q4.out.cell 5).trans (show _ = some (Value.int .u64 (Z9.r 0 : Int)) from rfl)
    have z6 := (Q4.out.cell 6).trans (show _ = some (Value.int .u64 (Z9.r 1 : Int)) from rfl)
    have z7 := (Q4.out.cell 7).trans (show _ = some (Value.int .u64 (Z9.r 2 : Int)) from rfl)
    have z8 := (Q4.out.cell 8).trans (show _ = some (Value.int .u64 (Z9.r 3 : Int)) from rfl)
    have z9 := (Q4.out.cell 9).trans (show _ = some (Value.int .u64 (Z9.r 4 : Int)) from rfl)
    have z10 := (Q4.out.cell 10).trans (show _ = some (Value.int .u64 (Z9.r 5 : Int)) from rfl)
    have z11 := (Q4.out.cell 11).trans (show _ = some (Value.int .u64 (Z9.r 6 : Int)) from rfl)
    have z12 := (Q4.out.cell 12).trans (show _ = some (Value.int .u64 (Z9.r 7 : Int)) from rfl)
    have z13 := (Q4.out.cell 13).trans (show _ = some (v0) from rfl)
    have zl := Q4.out.lt
    go_wp2
    exact bodyPost_ret (v := .agg (thC Z9 v0)) (by simp [results, Try.results36, go_sem, z0, z1, z2, z3, z4, z5, z6, z7, z8, z9, z10, z11, z12, z13]) rfl ⟨by rw [HBE.out], HBZ.out⟩)
set_option maxHeartbeats 8000000 in
set_option maxRecDepth 100000 in
theorem rfBeh5 (l : List In) (A : Option Addr) (c : Nat) (y : Th) (v0 : Value) (e : Ev) (v : Nat) (w : World) (h : InsAt w A c l) (hv : v0.oneCell' = true) (hcd : codeB l = true) (hat0 : 0 ≤ y.at_) (hat1 : y.at_ < (l.length : Int)) (hk : e.kd = 5) :
    Calls Try.prog 36 #[.slice A l.length c, .agg (thC y v0), .agg (evC e), .int .u64 (v : Int)] w fun q w' => q = .returned (.agg (thC (behT (atT l y) y e v) v0)) ∧ Below w.heap.size w w' := by
  obtain ⟨hc1, hc2⟩ := seq_form h
  have hb3 : Below w.heap.size w (((w.alloc (.cells (thC y v0) 27)).alloc (.cells (evC e) 42)).alloc (.cells thZ 27)) := (((Below.refl _ _).alloc (Nat.le_refl _) _).alloc (by simp) _).alloc (by simp; omega) _
  have l1 := ((Lies.made w 27 (thC y v0)).alloc (.cells (evC e) 42)).alloc (.cells thZ 27)
  have l2 := (Lies.made (w.alloc (.cells (thC y v0) 27)) 42 (evC e)).alloc (.cells thZ 27)
  have l3 := Lies.made ((w.alloc (.cells (thC y v0) 27)).alloc (.cells (evC e) 42)) 27 thZ
  rw [show (w.alloc (.cells (thC y v0) 27)).heap.size = w.heap.size + 1 by simp] at l2
  rw [show ((w.alloc (.cells (thC y v0) 27)).alloc (.cells (evC e) 42)).heap.size = w.heap.size + 1 + 1 by simp] at l3
  have HB := Lib.hid hb3
  have HG := Lib.hid l1
  have HE := Lib.hid l2
  have H4 := Lib.hid l3
  have HONE := Lib.hid (fun z => thC_one z hv)
  have HKD := Lib.hid hk
  have HH := Lib.hid (fun (q : World) (hq : Below w.heap.size w q) => h.later hq)
  clear hb3 l1 l2 l3 hk
  clear hv
  obtain ⟨an, han⟩ : ∃ n : Nat, y.at_ = n := ⟨y.at_.toNat, by omega⟩
  obtain ⟨i, hi⟩ : ∃ i, l[an]? = some i := ⟨_, List.getElem?_eq_getElem (by omega)⟩
  have hgt := atT_get han hi
  have hab := right_ab ((codeB_parts hcd).2 i (List.mem_of_getElem? hi)).1
  have hlen := (codeB_parts hcd).1
  obtain ⟨b, off, rfl, hbl, hg⟩ := InsAt.at_ h hi
  have HGI := Lib.hid (fun (q : World) (hq : Below w.heap.size w q) (j : Nat) (u : Value) (hj : j < 6) (hu : (inF i)[j]? = some u) => cell_later (hg j u hj hu) hq)
  have hal : (an : Int) < (l.length : Int) := by omega
  have hw1a : IntKind.i64.wrap ((an : Int) + 1) = (an : Int) + 1 := IntWalk.i64_in _ (by omega)
  have HAN := Lib.hid han
  obtain ⟨ian, hian⟩ : ∃ n : Nat, i.a = n := ⟨i.a.toNat, by omega⟩
  obtain ⟨ibn, hibn⟩ : ∃ n : Nat, i.b = n := ⟨i.b.toNat, by omega⟩
  have ha8 : ian < 8 := by omega
  have hb8 : ibn < 8 := by omega
  have HIA := Lib.hid hian
  have HIB := Lib.hid hibn
  have HGT := Lib.hid hgt
  clear hgt hab hi hg hbl hian hibn han h hcd hat0 hat1
  go_enter Try.func36, Try.ntmps36
  go_upto_region 1 with (fail)
  generalize hw1 : (((w.alloc (.cells (thC y v0) 27)).alloc (.cells (evC e) 42)).alloc (.cells thZ 27)) = w1 at *
  clear hw1
  have q0 := (HE.out.cell 0).trans (show _ = some (Value.int .i64 e.th) from rfl)
  have q1 := (HE.out.cell 1).trans (show _ = some (Value.int .i64 e.kd) from rfl)
  have q2 := (HE.out.cell 2).trans (show _ = some (Value.int .i64 e.rg) from rfl)
  have q3 := (HE.out.cell 3).trans (show _ = some (Value.int .u64 (e.tk : Int)) from rfl)
  have q4 := (HE.out.cell 4).trans (show _ = some (Value.int .u64 (e.vl : Int)) from rfl)
  have ql := HE.out.lt
  rw [HKD.out] at q1
  have g0 := HGI.out _ HB.out 0 _ (by decide) rfl
  have g1 := HGI.out _ HB.out 1 _ (by decide) rfl
  have g2 := HGI.out _ HB.out 2 _ (by decide) rfl
  have g3 := HGI.out _ HB.out 3 _ (by decide) rfl
  have g4 := HGI.out _ HB.out 4 _ (by decide) rfl
  have g5 := HGI.out _ HB.out 5 _ (by decide) rfl
  rw [Nat.add_zero] at g0
  have c0 := (HG.out.cell 0).trans (show _ = some (Value.int .i64 y.at_) from rfl)
  rw [HAN.out] at c0
  have cl := HG.out.lt
  go_upto_region 14 with (fail)
  clear q0 q1 q2 q3 q4 ql
  clear g0 g1 g2 g3 g4 g5 c0 cl
  have hb3s : w.heap.size + 1 + 1 < w1.heap.size := H4.out.lt
  have hba := (Below.refl w1.heap.size w1).alloc (Nat.le_refl _) (.cells (inC i) 50)
  have HI := Lib.hid (Lies.made w1 50 (inC i))
  replace HG := Lib.hid (HG.out.below hba HG.out.lt)
  replace HE := Lib.hid (HE.out.below hba HE.out.lt)
  replace H4 := Lib.hid (H4.out.below hba H4.out.lt)
  replace HB := Lib.hid (HB.out.trans (hba.mono HB.out.size))
  clear hba
  generalize hw2 : w1.alloc (.cells (inC i) 50) = wr0 at *
  generalize hb3e : w1.heap.size = b3 at *
  clear hw2 hb3e
  have q0 := (HE.out.cell 0).trans (show _ = some (Value.int .i64 e.th) from rfl)
  have q1 := (HE.out.cell 1).trans (show _ = some (Value.int .i64 e.kd) from rfl)
  have q2 := (HE.out.cell 2).trans (show _ = some (Value.int .i64 e.rg) from rfl)
  have q3 := (HE.out.cell 3).trans (show _ = some (Value.int .u64 (e.tk : Int)) from rfl)
  have q4 := (HE.out.cell 4).trans (show _ = some (Value.int .u64 (e.vl : Int)) from rfl)
  have ql := HE.out.lt
  rw [HKD.out] at q1
  have d1 := (HI.out.cell 1).trans (show _ = some (Value.int .i64 i.a) from rfl)
  have d2 := (HI.out.cell 2).trans (show _ = some (Value.int .i64 i.b) from rfl)
  have dl := HI.out.lt
  rw [HIA.out] at d1
  rw [HIB.out] at d2
  have ra := (HG.out.cell (5 + ibn)).trans (thC_reg y v0 hb8)
  have rl := HG.out.lt
  have rf := HG.out.free (5 + ibn)
  go_upto_region 33 with (fail)
  clear q0 q1 q2 q3 q4 ql
  clear d1 d2 dl ra rl rf
  replace H4 := Lib.hid (H4.out.far (p := ⟨w.heap.size, 5 + ibn, none⟩) (show w.heap.size + 1 + 1 ≠ w.heap.size by omega) (.int .u64 1))
  replace HE := Lib.hid (HE.out.far (p := ⟨w.heap.size, 5 + ibn, none⟩) (show w.heap.size + 1 ≠ w.heap.size by omega) (.int .u64 1))
  replace HB := Lib.hid (HB.out.setCell (p := ⟨w.heap.size, 5 + ibn, none⟩) (Nat.le_refl _) (.int .u64 1))
  replace HI := Lib.hid (HI.out.far (p := ⟨w.heap.size, 5 + ibn, none⟩) (show b3 ≠ w.heap.size by omega) (.int .u64 1))
  replace HG := Lib.hid (show Lies (wr0.setCell ⟨w.heap.size, 5 + ibn, none⟩ (.int .u64 1)) (w.heap.size) 27 (thC (setR y ibn 1) v0) from by have := HG.out.put (5 + ibn) (.int .u64 ((1 : Nat) : Int)); rwa [thC_set y v0 hb8] at this)
  generalize wr0.setCell ⟨w.heap.size, 5 + ibn, none⟩ (.int .u64 1) = wr1 at *
  have c0 := (HG.out.cell 0).trans (show _ = some (.int .i64 y.at_) from rfl)
  rw [HAN.out] at c0
  have c1 := (HG.out.cell 1).trans (show _ = some (.int .i64 y.ph) from rfl)
  have c2 := (HG.out.cell 2).trans (show _ = some (.int .i64 y.rg) from rfl)
  have c4 := (HG.out.cell 4).trans (show _ = some (.int .u64 (y.tk : Int)) from rfl)
  have cl := HG.out.lt
  have f0 := HG.out.free 0
  have f1 := HG.out.free 1
  have f2 := HG.out.free 2
  have f4 := HG.out.free 4
  go_upto_region 37 with (fail)
  clear c0 c1 c2 c4 cl f0 f1 f2 f4
  replace H4 := Lib.hid (H4.out.far (p := ⟨w.heap.size, 1, none⟩) (show w.heap.size + 1 + 1 ≠ w.heap.size by omega) (.int .i64 0))
  replace HE := Lib.hid (HE.out.far (p := ⟨w.heap.size, 1, none⟩) (show w.heap.size + 1 ≠ w.heap.size by omega) (.int .i64 0))
  replace HB := Lib.hid (HB.out.setCell (p := ⟨w.heap.size, 1, none⟩) (Nat.le_refl _) (.int .i64 0))
  replace H4 := Lib.hid (H4.out.far (p := ⟨w.heap.size, 2, none⟩) (show w.heap.size + 1 + 1 ≠ w.heap.size by omega) (.int .i64 0))
  replace HE := Lib.hid (HE.out.far (p := ⟨w.heap.size, 2, none⟩) (show w.heap.size + 1 ≠ w.heap.size by omega) (.int .i64 0))
  replace HB := Lib.hid (HB.out.setCell (p := ⟨w.heap.size, 2, none⟩) (Nat.le_refl _) (.int .i64 0))
  replace H4 := Lib.hid (H4.out.far (p := ⟨w.heap.size, 4, none⟩) (show w.heap.size + 1 + 1 ≠ w.heap.size by omega) (.int .u64 0))
  replace HE := Lib.hid (HE.out.far (p := ⟨w.heap.size, 4, none⟩) (show w.heap.size + 1 ≠ w.heap.size by omega) (.int .u64 0))
  replace HB := Lib.hid (HB.out.setCell (p := ⟨w.heap.size, 4, none⟩) (Nat.le_refl _) (.int .u64 0))
  replace H4 := Lib.hid (H4.out.far (p := ⟨w.heap.size, 0, none⟩) (show w.heap.size + 1 + 1 ≠ w.heap.size by omega) (.int .i64 ((an : Int) + 1)))
  replace HE := Lib.hid (HE.out.far (p := ⟨w.heap.size, 0, none⟩) (show w.heap.size + 1 ≠ w.heap.size by omega) (.int .i64 ((an : Int) + 1)))
  replace HB := Lib.hid (HB.out.setCell (p := ⟨w.heap.size, 0, none⟩) (Nat.le_refl _) (.int .i64 ((an : Int) + 1)))
  have hgz := (((HG.out.put 1 (.int .i64 0)).put 2 (.int .i64 0)).put 4 (.int .u64 0)).put 0 (.int .i64 ((an : Int) + 1))
  rw [show ((an : Int) + 1) = y.at_ + 1 by rw [HAN.out]] at hgz H4 HB HE ⊢
  replace HG := Lib.hid (show Lies ((((wr1.setCell ⟨w.heap.size, 1, none⟩ (.int .i64 0)).setCell ⟨w.heap.size, 2, none⟩ (.int .i64 0)).setCell ⟨w.heap.size, 4, none⟩ (.int .u64 0)).setCell ⟨w.heap.size, 0, none⟩ (.int .i64 (y.at_ + 1))) (w.heap.size) 27 (thC (endT (setR y ibn 1)) v0) from hgz)
  clear hgz
  generalize (((wr1.setCell ⟨w.heap.size, 1, none⟩ (.int .i64 0)).setCell ⟨w.heap.size, 2, none⟩ (.int .i64 0)).setCell ⟨w.heap.size, 4, none⟩ (.int .u64 0)).setCell ⟨w.heap.size, 0, none⟩ (.int .i64 (y.at_ + 1)) = w9 at *
  have HBE : Hid (behT (atT l y) y e v = (endT (setR y ibn 1))) := by
    show _ = _
    rw [HGT.out]
    unfold behT regT
    rw [HKD.out, HIA.out, HIB.out]
    simp
  clear HE HI
  have c0 := (HG.out.cell 0).trans (show _ = some (Value.int .i64 (endT (setR y ibn 1)).at_) from rfl)
  have c1 := (HG.out.cell 1).trans (show _ = some (Value.int .i64 (endT (setR y ibn 1)).ph) from rfl)
  have c2 := (HG.out.cell 2).trans (show _ = some (Value.int .i64 (endT (setR y ibn 1)).rg) from rfl)
  have c3 := (HG.out.cell 3).trans (show _ = some (Value.int .i64 (endT (setR y ibn 1)).st) from rfl)
  have c4 := (HG.out.cell 4).trans (show _ = some (Value.int .u64 ((endT (setR y ibn 1)).tk : Int)) from rfl)
  have c5 := (HG.out.cell 5).trans (show _ = some (Value.int .u64 ((endT (setR y ibn 1)).r 0 : Int)) from rfl)
  have c6 := (HG.out.cell 6).trans (show _ = some (Value.int .u64 ((endT (setR y ibn 1)).r 1 : Int)) from rfl)
  have c7 := (HG.out.cell 7).trans (show _ = some (Value.int .u64 ((endT (setR y ibn 1)).r 2 : Int)) from rfl)
  have c8 := (HG.out.cell 8).trans (show _ = some (Value.int .u64 ((endT (setR y ibn 1)).r 3 : Int)) from rfl)
  have c9 := (HG.out.cell 9).trans (show _ = some (Value.int .u64 ((endT (setR y ibn 1)).r 4 : Int)) from rfl)
  have c10 := (HG.out.cell 10).trans (show _ = some (Value.int .u64 ((endT (setR y ibn 1)).r 5 : Int)) from rfl)
  have c11 := (HG.out.cell 11).trans (show _ = some (Value.int .u64 ((endT (setR y ibn 1)).r 6 : Int)) from rfl)
  have c12 := (HG.out.cell 12).trans (show _ = some (Value.int .u64 ((endT (setR y ibn 1)).r 7 : Int)) from rfl)
  have c13 := (HG.out.cell 13).trans (show _ = some (v0) from rfl)
  have cl := HG.out.lt
  go_wp2_with (
    refine wpList_store_row rfl 27 _ _ rfl (w.heap.size + 1 + 1) (thC (endT (setR y ibn 1)) v0) rfl rfl 27 thZ H4.out infoTh rfl (HONE.out _) ?_
    clear c0 c1 c2 c3 c4 c5 c6 c7 c8 c9 c10 c11 c12 c13 cl
    have hk9 := kept_rowT (w := w9) (g := w.heap.size + 1 + 1) (thC (endT (setR y ibn 1)) v0)
    have HBZ := Lib.hid (HB.out.trans (hk9.below HB.out.size (fun k hk (e : k = w.heap.size + 1 + 1) => by omega)))
    have Q4 := Lib.hid (lies_row H4.out (thC (endT (setR y ibn 1)) v0))
    clear hk9
    generalize w9.setRow (w.heap.size + 1 + 1) (thC (endT (setR y ibn 1)) v0) = wF at *
    clear HB H4 HG
    generalize hz9 : (endT (setR y ibn 1)) = Z9 at *
    have z0 := (Q4.out.cell 0).trans (show _ = some (Value.int .i64 Z9.at_) from rfl)
    have z1 := (Q4.out.cell 1).trans (show _ = some (Value.int .i64 Z9.ph) from rfl)
    have z2 := (Q4.out.cell 2).trans (show _ = some (Value.int .i64 Z9.rg) from rfl)
    have z3 := (Q4.out.cell 3).trans (show _ = some (Value.int .i64 Z9.st) from rfl)
    have z4 := (Q4.out.cell 4).trans (show _ = some (Value.int .u64 (Z9.tk : Int)) from rfl)
    have z5 := (Q4.out.cell 5).trans (show _ = some (Value.int .u64 (Z9.r 0 : Int)) from rfl)
    have z6 := (Q4.out.cell 6).trans (show _ = some (Value.int .u64 (Z9.r 1 : Int)) from rfl)
    have z7 := (Q4.out.cell 7).trans (show _ = some (Value.int .u64 (Z9.r 2 : Int)) from rfl)
    have z8 := (Q4.out.cell 8).trans (show _ = some (Value.int .u64 (Z9.r 3 : Int)) from rfl)
    have z9 := (Q4.out.cell 9).trans (show _ = some (Value.int .u64 (Z9.r 4 : Int)) from rfl)
    have z10 := (Q4.out.cell 10).trans (show _ = some (Value.int .u64 (Z9.r 5 : Int)) from rfl)
    have z11 := (Q4.out.cell 11).trans (show _ = some (Value.int .u64 (Z9.r 6 : Int)) from rfl)
    have z12 := (Q4.out.cell 12).trans (show _ = some (Value.int .u64 (Z9.r 7 : Int)) from rfl)
    have z13 := (Q4.out.cell 13).trans (show _ = some (v0) from rfl)
    have zl := Q4.out.lt
    go_wp2
    exact bodyPost_ret (v := .agg (thC Z9 v0)) (by simp [results, Try.results36, go_sem, z0, z1, z2, z3, z4, z5, z6, z7, z8, z9, z10, z11, z12, z13]) rfl ⟨by rw [HBE.out], HBZ.out⟩)
set_option maxHeartbeats 8000000 in
set_option maxRecDepth 100000 in
theorem rfBeh6 (l : List In) (A : Option Addr) (c : Nat) (y : Th) (v0 : Value) (e : Ev) (v : Nat) (w : World) (h : InsAt w A c l) (hv : v0.oneCell' = true) (hcd : codeB l = true) (hat0 : 0 ≤ y.at_) (hat1 : y.at_ < (l.length : Int)) (hk : e.kd = 6) :
    Calls Try.prog 36 #[.slice A l.length c, .agg (thC y v0), .agg (evC e), .int .u64 (v : Int)] w fun q w' => q = .returned (.agg (thC (behT (atT l y) y e v) v0)) ∧ Below w.heap.size w w' := by
  obtain ⟨hc1, hc2⟩ := seq_form h
  have hb3 : Below w.heap.size w (((w.alloc (.cells (thC y v0) 27)).alloc (.cells (evC e) 42)).alloc (.cells thZ 27)) := (((Below.refl _ _).alloc (Nat.le_refl _) _).alloc (by simp) _).alloc (by simp; omega) _
  have l1 := ((Lies.made w 27 (thC y v0)).alloc (.cells (evC e) 42)).alloc (.cells thZ 27)
  have l2 := (Lies.made (w.alloc (.cells (thC y v0) 27)) 42 (evC e)).alloc (.cells thZ 27)
  have l3 := Lies.made ((w.alloc (.cells (thC y v0) 27)).alloc (.cells (evC e) 42)) 27 thZ
  rw [show (w.alloc (.cells (thC y v0) 27)).heap.size = w.heap.size + 1 by simp] at l2
  rw [show ((w.alloc (.cells (thC y v0) 27)).alloc (.cells (evC e) 42)).heap.size = w.heap.size + 1 + 1 by simp] at l3
  have HB := Lib.hid hb3
  have HG := Lib.hid l1
  have HE := Lib.hid l2
  have H4 := Lib.hid l3
  have HONE := Lib.hid (fun z => thC_one z hv)
  have HKD := Lib.hid hk
  have HH := Lib.hid (fun (q : World) (hq : Below w.heap.size w q) => h.later hq)
  clear hb3 l1 l2 l3 hk
  clear hv
  obtain ⟨an, han⟩ : ∃ n : Nat, y.at_ = n := ⟨y.at_.toNat, by omega⟩
  obtain ⟨i, hi⟩ : ∃ i, l[an]? = some i := ⟨_, List.getElem?_eq_getElem (by omega)⟩
  have hgt := atT_get han hi
  have hab := right_ab ((codeB_parts hcd).2 i (List.mem_of_getElem? hi)).1
  have hlen := (codeB_parts hcd).1
  obtain ⟨b, off, rfl, hbl, hg⟩ := InsAt.at_ h hi
  have HGI := Lib.hid (fun (q : World) (hq : Below w.heap.size w q) (j : Nat) (u : Value) (hj : j < 6) (hu : (inF i)[j]? = some u) => cell_later (hg j u hj hu) hq)
  have hal : (an : Int) < (l.length : Int) := by omega
  have hw1a : IntKind.i64.wrap ((an : Int) + 1) = (an : Int) + 1 := IntWalk.i64_in _ (by omega)
  have HAN := Lib.hid han
  obtain ⟨ian, hian⟩ : ∃ n : Nat, i.a = n := ⟨i.a.toNat, by omega⟩
  obtain ⟨ibn, hibn⟩ : ∃ n : Nat, i.b = n := ⟨i.b.toNat, by omega⟩
  have ha8 : ian < 8 := by omega
  have hb8 : ibn < 8 := by omega
  have HIA := Lib.hid hian
  have HIB := Lib.hid hibn
  have HGT := Lib.hid hgt
  clear hgt hab hi hg hbl hian hibn han h hcd hat0 hat1
  go_enter Try.func36, Try.ntmps36
  go_upto_region 1 with (fail)
  generalize hw1 : (((w.alloc (.cells (thC y v0) 27)).alloc (.cells (evC e) 42)).alloc (.cells thZ 27)) = w1 at *
  clear hw1
  have q0 := (HE.out.cell 0).trans (show _ = some (Value.int .i64 e.th) from rfl)
  have q1 := (HE.out.cell 1).trans (show _ = some (Value.int .i64 e.kd) from rfl)
  have q2 := (HE.out.cell 2).trans (show _ = some (Value.int .i64 e.rg) from rfl)
  have q3 := (HE.out.cell 3).trans (show _ = some (Value.int .u64 (e.tk : Int)) from rfl)
  have q4 := (HE.out.cell 4).trans (show _ = some (Value.int .u64 (e.vl : Int)) from rfl)
  have ql := HE.out.lt
  rw [HKD.out] at q1
  have g0 := HGI.out _ HB.out 0 _ (by decide) rfl
  have g1 := HGI.out _ HB.out 1 _ (by decide) rfl
  have g2 := HGI.out _ HB.out 2 _ (by decide) rfl
  have g3 := HGI.out _ HB.out 3 _ (by decide) rfl
  have g4 := HGI.out _ HB.out 4 _ (by decide) rfl
  have g5 := HGI.out _ HB.out 5 _ (by decide) rfl
  rw [Nat.add_zero] at g0
  have c0 := (HG.out.cell 0).trans (show _ = some (Value.int .i64 y.at_) from rfl)
  rw [HAN.out] at c0
  have cl := HG.out.lt
  go_upto_region 14 with (fail)
  clear q0 q1 q2 q3 q4 ql
  clear g0 g1 g2 g3 g4 g5 c0 cl
  have hb3s : w.heap.size + 1 + 1 < w1.heap.size := H4.out.lt
  have hba := (Below.refl w1.heap.size w1).alloc (Nat.le_refl _) (.cells (inC i) 50)
  have HI := Lib.hid (Lies.made w1 50 (inC i))
  replace HG := Lib.hid (HG.out.below hba HG.out.lt)
  replace HE := Lib.hid (HE.out.below hba HE.out.lt)
  replace H4 := Lib.hid (H4.out.below hba H4.out.lt)
  replace HB := Lib.hid (HB.out.trans (hba.mono HB.out.size))
  clear hba
  generalize hw2 : w1.alloc (.cells (inC i) 50) = wr0 at *
  generalize hb3e : w1.heap.size = b3 at *
  clear hw2 hb3e
  have q0 := (HE.out.cell 0).trans (show _ = some (Value.int .i64 e.th) from rfl)
  have q1 := (HE.out.cell 1).trans (show _ = some (Value.int .i64 e.kd) from rfl)
  have q2 := (HE.out.cell 2).trans (show _ = some (Value.int .i64 e.rg) from rfl)
  have q3 := (HE.out.cell 3).trans (show _ = some (Value.int .u64 (e.tk : Int)) from rfl)
  have q4 := (HE.out.cell 4).trans (show _ = some (Value.int .u64 (e.vl : Int)) from rfl)
  have ql := HE.out.lt
  rw [HKD.out] at q1
  have d1 := (HI.out.cell 1).trans (show _ = some (Value.int .i64 i.a) from rfl)
  have d2 := (HI.out.cell 2).trans (show _ = some (Value.int .i64 i.b) from rfl)
  have dl := HI.out.lt
  rw [HIA.out] at d1
  rw [HIB.out] at d2
  have ra := (HG.out.cell (5 + ibn)).trans (thC_reg y v0 hb8)
  have rl := HG.out.lt
  have rf := HG.out.free (5 + ibn)
  go_upto_region 33 with (fail)
  clear q0 q1 q2 q3 q4 ql
  clear d1 d2 dl ra rl rf
  replace H4 := Lib.hid (H4.out.far (p := ⟨w.heap.size, 5 + ibn, none⟩) (show w.heap.size + 1 + 1 ≠ w.heap.size by omega) (.int .u64 2))
  replace HE := Lib.hid (HE.out.far (p := ⟨w.heap.size, 5 + ibn, none⟩) (show w.heap.size + 1 ≠ w.heap.size by omega) (.int .u64 2))
  replace HB := Lib.hid (HB.out.setCell (p := ⟨w.heap.size, 5 + ibn, none⟩) (Nat.le_refl _) (.int .u64 2))
  replace HI := Lib.hid (HI.out.far (p := ⟨w.heap.size, 5 + ibn, none⟩) (show b3 ≠ w.heap.size by omega) (.int .u64 2))
  replace HG := Lib.hid (show Lies (wr0.setCell ⟨w.heap.size, 5 + ibn, none⟩ (.int .u64 2)) (w.heap.size) 27 (thC (setR y ibn 2) v0) from by have := HG.out.put (5 + ibn) (.int .u64 ((2 : Nat) : Int)); rwa [thC_set y v0 hb8] at this)
  generalize wr0.setCell ⟨w.heap.size, 5 + ibn, none⟩ (.int .u64 2) = wr1 at *
  have c0 := (HG.out.cell 0).trans (show _ = some (.int .i64 y.at_) from rfl)
  rw [HAN.out] at c0
  have c1 := (HG.out.cell 1).trans (show _ = some (.int .i64 y.ph) from rfl)
  have c2 := (HG.out.cell 2).trans (show _ = some (.int .i64 y.rg) from rfl)
  have c4 := (HG.out.cell 4).trans (show _ = some (.int .u64 (y.tk : Int)) from rfl)
  have cl := HG.out.lt
  have f0 := HG.out.free 0
  have f1 := HG.out.free 1
  have f2 := HG.out.free 2
  have f4 := HG.out.free 4
  go_upto_region 37 with (fail)
  clear c0 c1 c2 c4 cl f0 f1 f2 f4
  replace H4 := Lib.hid (H4.out.far (p := ⟨w.heap.size, 1, none⟩) (show w.heap.size + 1 + 1 ≠ w.heap.size by omega) (.int .i64 0))
  replace HE := Lib.hid (HE.out.far (p := ⟨w.heap.size, 1, none⟩) (show w.heap.size + 1 ≠ w.heap.size by omega) (.int .i64 0))
  replace HB := Lib.hid (HB.out.setCell (p := ⟨w.heap.size, 1, none⟩) (Nat.le_refl _) (.int .i64 0))
  replace H4 := Lib.hid (H4.out.far (p := ⟨w.heap.size, 2, none⟩) (show w.heap.size + 1 + 1 ≠ w.heap.size by omega) (.int .i64 0))
  replace HE := Lib.hid (HE.out.far (p := ⟨w.heap.size, 2, none⟩) (show w.heap.size + 1 ≠ w.heap.size by omega) (.int .i64 0))
  replace HB := Lib.hid (HB.out.setCell (p := ⟨w.heap.size, 2, none⟩) (Nat.le_refl _) (.int .i64 0))
  replace H4 := Lib.hid (H4.out.far (p := ⟨w.heap.size, 4, none⟩) (show w.heap.size + 1 + 1 ≠ w.heap.size by omega) (.int .u64 0))
  replace HE := Lib.hid (HE.out.far (p := ⟨w.heap.size, 4, none⟩) (show w.heap.size + 1 ≠ w.heap.size by omega) (.int .u64 0))
  replace HB := Lib.hid (HB.out.setCell (p := ⟨w.heap.size, 4, none⟩) (Nat.le_refl _) (.int .u64 0))
  replace H4 := Lib.hid (H4.out.far (p := ⟨w.heap.size, 0, none⟩) (show w.heap.size + 1 + 1 ≠ w.heap.size by omega) (.int .i64 ((an : Int) + 1)))
  replace HE := Lib.hid (HE.out.far (p := ⟨w.heap.size, 0, none⟩) (show w.heap.size + 1 ≠ w.heap.size by omega) (.int .i64 ((an : Int) + 1)))
  replace HB := Lib.hid (HB.out.setCell (p := ⟨w.heap.size, 0, none⟩) (Nat.le_refl _) (.int .i64 ((an : Int) + 1)))
  have hgz := (((HG.out.put 1 (.int .i64 0)).put 2 (.int .i64 0)).put 4 (.int .u64 0)).put 0 (.int .i64 ((an : Int) + 1))
  rw [show ((an : Int) + 1) = y.at_ + 1 by rw [HAN.out]] at hgz H4 HB HE ⊢
  replace HG := Lib.hid (show Lies ((((wr1.setCell ⟨w.heap.size, 1, none⟩ (.int .i64 0)).setCell ⟨w.heap.size, 2, none⟩ (.int .i64 0)).setCell ⟨w.heap.size, 4, none⟩ (.int .u64 0)).setCell ⟨w.heap.size, 0, none⟩ (.int .i64 (y.at_ + 1))) (w.heap.size) 27 (thC (endT (setR y ibn 2)) v0) from hgz)
  clear hgz
  generalize (((wr1.setCell ⟨w.heap.size, 1, none⟩ (.int .i64 0)).setCell ⟨w.heap.size, 2, none⟩ (.int .i64 0)).setCell ⟨w.heap.size, 4, none⟩ (.int .u64 0)).setCell ⟨w.heap.size, 0, none⟩ (.int .i64 (y.at_ + 1)) = w9 at *
  have HBE : Hid (behT (atT l y) y e v = (endT (setR y ibn 2))) := by
    show _ = _
    rw [HGT.out]
    unfold behT regT
    rw [HKD.out, HIA.out, HIB.out]
    simp
  clear HE HI
  have c0 := (HG.out.cell 0).trans (show _ = some (Value.int .i64 (endT (setR y ibn 2)).at_) from rfl)
  have c1 := (HG.out.cell 1).trans (show _ = some (Value.int .i64 (endT (setR y ibn 2)).ph) from rfl)
  have c2 := (HG.out.cell 2).trans (show _ = some (Value.int .i64 (endT (setR y ibn 2)).rg) from rfl)
  have c3 := (HG.out.cell 3).trans (show _ = some (Value.int .i64 (endT (setR y ibn 2)).st) from rfl)
  have c4 := (HG.out.cell 4).trans (show _ = some (Value.int .u64 ((endT (setR y ibn 2)).tk : Int)) from rfl)
  have c5 := (HG.out.cell 5).trans (show _ = some (Value.int .u64 ((endT (setR y ibn 2)).r 0 : Int)) from rfl)
  have c6 := (HG.out.cell 6).trans (show _ = some (Value.int .u64 ((endT (setR y ibn 2)).r 1 : Int)) from rfl)
  have c7 := (HG.out.cell 7).trans (show _ = some (Value.int .u64 ((endT (setR y ibn 2)).r 2 : Int)) from rfl)
  have c8 := (HG.out.cell 8).trans (show _ = some (Value.int .u64 ((endT (setR y ibn 2)).r 3 : Int)) from rfl)
  have c9 := (HG.out.cell 9).trans (show _ = some (Value.int .u64 ((endT (setR y ibn 2)).r 4 : Int)) from rfl)
  have c10 := (HG.out.cell 10).trans (show _ = some (Value.int .u64 ((endT (setR y ibn 2)).r 5 : Int)) from rfl)
  have c11 := (HG.out.cell 11).trans (show _ = some (Value.int .u64 ((endT (setR y ibn 2)).r 6 : Int)) from rfl)
  have c12 := (HG.out.cell 12).trans (show _ = some (Value.int .u64 ((endT (setR y ibn 2)).r 7 : Int)) from rfl)
  have c13 := (HG.out.cell 13).trans (show _ = some (v0) from rfl)
  have cl := HG.out.lt
  go_wp2_with (
    refine wpList_store_row rfl 27 _ _ rfl (w.heap.size + 1 + 1) (thC (endT (setR y ibn 2)) v0) rfl rfl 27 thZ H4.out infoTh rfl (HONE.out _) ?_
    clear c0 c1 c2 c3 c4 c5 c6 c7 c8 c9 c10 c11 c12 c13 cl
    have hk9 := kept_rowT (w := w9) (g := w.heap.size + 1 + 1) (thC (endT (setR y ibn 2)) v0)
    have HBZ := Lib.hid (HB.out.trans (hk9.below HB.out.size (fun k hk (e : k = w.heap.size + 1 + 1) => by omega)))
    have Q4 := Lib.hid (lies_row H4.out (thC (endT (setR y ibn 2)) v0))
    clear hk9
    generalize w9.setRow (w.heap.size + 1 + 1) (thC (endT (setR y ibn 2)) v0) = wF at *
    clear HB H4 HG
    generalize hz9 : (endT (setR y ibn 2)) = Z9 at *
    have z0 := (Q4.out.cell 0).trans (show _ = some (Value.int .i64 Z9.at_) from rfl)
    have z1 := (Q4.out.cell 1).trans (show _ = some (Value.int .i64 Z9.ph) from rfl)
    have z2 := (Q4.out.cell 2).trans (show _ = some (Value.int .i64 Z9.rg) from rfl)
    have z3 := (Q4.out.cell 3).trans (show _ = some (Value.int .i64 Z9.st) from rfl)
    have z4 := (Q4.out.cell 4).trans (show _ = some (Value.int .u64 (Z9.tk : Int)) from rfl)
    have z5 := (Q4.out.cell 5).trans (show _ = some (Value.int .u64 (Z9.r 0 : Int)) from rfl)
    have z6 := (Q4.out.cell 6).trans (show _ = some (Value.int .u64 (Z9.r 1 : Int)) from rfl)
    have z7 := (Q4.out.cell 7).trans (show _ = some (Value.int .u64 (Z9.r 2 : Int)) from rfl)
    have z8 := (Q4.out.cell 8).trans (show _ = some (Value.int .u64 (Z9.r 3 : Int)) from rfl)
    have z9 := (Q4.out.cell 9).trans (show _ = some (Value.int .u64 (Z9.r 4 : Int)) from rfl)
    have z10 := (Q4.out.cell 10).trans (show _ = some (Value.int .u64 (Z9.r 5 : Int)) from rfl)
    have z11 := (Q4.out.cell 11).trans (show _ = some (Value.int .u64 (Z9.r 6 : Int)) from rfl)
    have z12 := (Q4.out.cell 12).trans (show _ = some (Value.int .u64 (Z9.r 7 : Int)) from rfl)
    have z13 := (Q4.out.cell 13).trans (show _ = some (v0) from rfl)
    have zl := Q4.out.lt
    go_wp2
    exact bodyPost_ret (v := .agg (thC Z9 v0)) (by simp [results, Try.results36, go_sem, z0, z1, z2, z3, z4, z5, z6, z7, z8, z9, z10, z11, z12, z13]) rfl ⟨by rw [HBE.out], HBZ.out⟩)
set_option maxHeartbeats 8000000 in
set_option maxRecDepth 100000 in
theorem rfBeh7 (l : List In) (A : Option Addr) (c : Nat) (y : Th) (v0 : Value) (e : Ev) (v : Nat) (w : World) (h : InsAt w A c l) (hv : v0.oneCell' = true) (hcd : codeB l = true) (hat0 : 0 ≤ y.at_) (hat1 : y.at_ < (l.length : Int)) (hk : e.kd = 7) :
    Calls Try.prog 36 #[.slice A l.length c, .agg (thC y v0), .agg (evC e), .int .u64 (v : Int)] w fun q w' => q = .returned (.agg (thC (behT (atT l y) y e v) v0)) ∧ Below w.heap.size w w' := by
  obtain ⟨hc1, hc2⟩ := seq_form h
  have hb3 : Below w.heap.size w (((w.alloc (.cells (thC y v0) 27)).alloc (.cells (evC e) 42)).alloc (.cells thZ 27)) := (((Below.refl _ _).alloc (Nat.le_refl _) _).alloc (by simp) _).alloc (by simp; omega) _
  have l1 := ((Lies.made w 27 (thC y v0)).alloc (.cells (evC e) 42)).alloc (.cells thZ 27)
  have l2 := (Lies.made (w.alloc (.cells (thC y v0) 27)) 42 (evC e)).alloc (.cells thZ 27)
  have l3 := Lies.made ((w.alloc (.cells (thC y v0) 27)).alloc (.cells (evC e) 42)) 27 thZ
  rw [show (w.alloc (.cells (thC y v0) 27)).heap.size = w.heap.size + 1 by simp] at l2
  rw [show ((w.alloc (.cells (thC y v0) 27)).alloc (.cells (evC e) 42)).heap.size = w.heap.size + 1 + 1 by simp] at l3
  have HB := Lib.hid hb3
  have HG := Lib.hid l1
  have HE := Lib.hid l2
  have H4 := Lib.hid l3
  have HONE := Lib.hid (fun z => thC_one z hv)
  have HKD := Lib.hid hk
  have HH := Lib.hid (fun (q : World) (hq : Below w.heap.size w q) => h.later hq)
  clear hb3 l1 l2 l3 hk
  clear hv
  obtain ⟨an, han⟩ : ∃ n : Nat, y.at_ = n := ⟨y.at_.toNat, by omega⟩
  obtain ⟨i, hi⟩ : ∃ i, l[an]? = some i := ⟨_, List.getElem?_eq_getElem (by omega)⟩
  have hgt := atT_get han hi
  have hab := right_ab ((codeB_parts hcd).2 i (List.mem_of_getElem? hi)).1
  have hlen := (codeB_parts hcd).1
  obtain ⟨b, off, rfl, hbl, hg⟩ := InsAt.at_ h hi
  have HGI := Lib.hid (fun (q : World) (hq : Below w.heap.size w q) (j : Nat) (u : Value) (hj : j < 6) (hu : (inF i)[j]? = some u) => cell_later (hg j u hj hu) hq)
  have hal : (an : Int) < (l.length : Int) := by omega
  have hw1a : IntKind.i64.wrap ((an : Int) + 1) = (an : Int) + 1 := IntWalk.i64_in _ (by omega)
  have HAN := Lib.hid han
  obtain ⟨ian, hian⟩ : ∃ n : Nat, i.a = n := ⟨i.a.toNat, by omega⟩
  obtain ⟨ibn, hibn⟩ : ∃ n : Nat, i.b = n := ⟨i.b.toNat, by omega⟩
  have ha8 : ian < 8 := by omega
  have hb8 : ibn < 8 := by omega
  have HIA := Lib.hid hian
  have HIB := Lib.hid hibn
  have HGT := Lib.hid hgt
  clear hgt hab hi hg hbl hian hibn han h hcd hat0 hat1
  go_enter Try.func36, Try.ntmps36
  go_upto_region 1 with (fail)
  generalize hw1 : (((w.alloc (.cells (thC y v0) 27)).alloc (.cells (evC e) 42)).alloc (.cells thZ 27)) = w1 at *
  clear hw1
  have q0 := (HE.out.cell 0).trans (show _ = some (Value.int .i64 e.th) from rfl)
  have q1 := (HE.out.cell 1).trans (show _ = some (Value.int .i64 e.kd) from rfl)
  have q2 := (HE.out.cell 2).trans (show _ = some (Value.int .i64 e.rg) from rfl)
  have q3 := (HE.out.cell 3).trans (show _ = some (Value.int .u64 (e.tk : Int)) from rfl)
  have q4 := (HE.out.cell 4).trans (show _ = some (Value.int .u64 (e.vl : Int)) from rfl)
  have ql := HE.out.lt
  rw [HKD.out] at q1
  have g0 := HGI.out _ HB.out 0 _ (by decide) rfl
  have g1 := HGI.out _ HB.out 1 _ (by decide) rfl
  have g2 := HGI.out _ HB.out 2 _ (by decide) rfl
  have g3 := HGI.out _ HB.out 3 _ (by decide) rfl
  have g4 := HGI.out _ HB.out 4 _ (by decide) rfl
  have g5 := HGI.out _ HB.out 5 _ (by decide) rfl
  rw [Nat.add_zero] at g0
  have c0 := (HG.out.cell 0).trans (show _ = some (Value.int .i64 y.at_) from rfl)
  rw [HAN.out] at c0
  have cl := HG.out.lt
  go_upto_region 14 with (fail)
  clear q0 q1 q2 q3 q4 ql
  clear g0 g1 g2 g3 g4 g5 c0 cl
  have hb3s : w.heap.size + 1 + 1 < w1.heap.size := H4.out.lt
  have hba := (Below.refl w1.heap.size w1).alloc (Nat.le_refl _) (.cells (inC i) 50)
  have HI := Lib.hid (Lies.made w1 50 (inC i))
  replace HG := Lib.hid (HG.out.below hba HG.out.lt)
  replace HE := Lib.hid (HE.out.below hba HE.out.lt)
  replace H4 := Lib.hid (H4.out.below hba H4.out.lt)
  replace HB := Lib.hid (HB.out.trans (hba.mono HB.out.size))
  clear hba
  generalize hw2 : w1.alloc (.cells (inC i) 50) = wr0 at *
  generalize hb3e : w1.heap.size = b3 at *
  clear hw2 hb3e
  have q0 := (HE.out.cell 0).trans (show _ = some (Value.int .i64 e.th) from rfl)
  have q1 := (HE.out.cell 1).trans (show _ = some (Value.int .i64 e.kd) from rfl)
  have q2 := (HE.out.cell 2).trans (show _ = some (Value.int .i64 e.rg) from rfl)
  have q3 := (HE.out.cell 3).trans (show _ = some (Value.int .u64 (e.tk : Int)) from rfl)
  have q4 := (HE.out.cell 4).trans (show _ = some (Value.int .u64 (e.vl : Int)) from rfl)
  have ql := HE.out.lt
  rw [HKD.out] at q1
  have d1 := (HI.out.cell 1).trans (show _ = some (Value.int .i64 i.a) from rfl)
  have d2 := (HI.out.cell 2).trans (show _ = some (Value.int .i64 i.b) from rfl)
  have dl := HI.out.lt
  rw [HIA.out] at d1
  rw [HIB.out] at d2
  have ra := (HG.out.cell (5 + ibn)).trans (thC_reg y v0 hb8)
  have rl := HG.out.lt
  have rf := HG.out.free (5 + ibn)
  go_upto_region 33 with (fail)
  clear q0 q1 q2 q3 q4 ql
  clear d1 d2 dl ra rl rf
  replace H4 := Lib.hid (H4.out.far (p := ⟨w.heap.size, 5 + ibn, none⟩) (show w.heap.size + 1 + 1 ≠ w.heap.size by omega) (.int .u64 3))
  replace HE := Lib.hid (HE.out.far (p := ⟨w.heap.size, 5 + ibn, none⟩) (show w.heap.size + 1 ≠ w.heap.size by omega) (.int .u64 3))
  replace HB := Lib.hid (HB.out.setCell (p := ⟨w.heap.size, 5 + ibn, none⟩) (Nat.le_refl _) (.int .u64 3))
  replace HI := Lib.hid (HI.out.far (p := ⟨w.heap.size, 5 + ibn, none⟩) (show b3 ≠ w.heap.size by omega) (.int .u64 3))
  replace HG := Lib.hid (show Lies (wr0.setCell ⟨w.heap.size, 5 + ibn, none⟩ (.int .u64 3)) (w.heap.size) 27 (thC (setR y ibn 3) v0) from by have := HG.out.put (5 + ibn) (.int .u64 ((3 : Nat) : Int)); rwa [thC_set y v0 hb8] at this)
  generalize wr0.setCell ⟨w.heap.size, 5 + ibn, none⟩ (.int .u64 3) = wr1 at *
  have c0 := (HG.out.cell 0).trans (show _ = some (.int .i64 y.at_) from rfl)
  rw [HAN.out] at c0
  have c1 := (HG.out.cell 1).trans (show _ = some (.int .i64 y.ph) from rfl)
  have c2 := (HG.out.cell 2).trans (show _ = some (.int .i64 y.rg) from rfl)
  have c4 := (HG.out.cell 4).trans (show _ = some (.int .u64 (y.tk : Int)) from rfl)
  have cl := HG.out.lt
  have f0 := HG.out.free 0
  have f1 := HG.out.free 1
  have f2 := HG.out.free 2
  have f4 := HG.out.free 4
  go_upto_region 37 with (fail)
  clear c0 c1 c2 c4 cl f0 f1 f2 f4
  replace H4 := Lib.hid (H4.out.far (p := ⟨w.heap.size, 1, none⟩) (show w.heap.size + 1 + 1 ≠ w.heap.size by omega) (.int .i64 0))
  replace HE := Lib.hid (HE.out.far (p := ⟨w.heap.size, 1, none⟩) (show w.heap.size + 1 ≠ w.heap.size by omega) (.int .i64 0))
  replace HB := Lib.hid (HB.out.setCell (p := ⟨w.heap.size, 1, none⟩) (Nat.le_refl _) (.int .i64 0))
  replace H4 := Lib.hid (H4.out.far (p := ⟨w.heap.size, 2, none⟩) (show w.heap.size + 1 + 1 ≠ w.heap.size by omega) (.int .i64 0))
  replace HE := Lib.hid (HE.out.far (p := ⟨w.heap.size, 2, none⟩) (show w.heap.size + 1 ≠ w.heap.size by omega) (.int .i64 0))
  replace HB := Lib.hid (HB.out.setCell (p := ⟨w.heap.size, 2, none⟩) (Nat.le_refl _) (.int .i64 0))
  replace H4 := Lib.hid (H4.out.far (p := ⟨w.heap.size, 4, none⟩) (show w.heap.size + 1 + 1 ≠ w.heap.size by omega) (.int .u64 0))
  replace HE := Lib.hid (HE.out.far (p := ⟨w.heap.size, 4, none⟩) (show w.heap.size + 1 ≠ w.heap.size by omega) (.int .u64 0))
  replace HB := Lib.hid (HB.out.setCell (p := ⟨w.heap.size, 4, none⟩) (Nat.le_refl _) (.int .u64 0))
  replace H4 := Lib.hid (H4.out.far (p := ⟨w.heap.size, 0, none⟩) (show w.heap.size + 1 + 1 ≠ w.heap.size by omega) (.int .i64 ((an : Int) + 1)))
  replace HE := Lib.hid (HE.out.far (p := ⟨w.heap.size, 0, none⟩) (show w.heap.size + 1 ≠ w.heap.size by omega) (.int .i64 ((an : Int) + 1)))
  replace HB := Lib.hid (HB.out.setCell (p := ⟨w.heap.size, 0, none⟩) (Nat.le_refl _) (.int .i64 ((an : Int) + 1)))
  have hgz := (((HG.out.put 1 (.int .i64 0)).put 2 (.int .i64 0)).put 4 (.int .u64 0)).put 0 (.int .i64 ((an : Int) + 1))
  rw [show ((an : Int) + 1) = y.at_ + 1 by rw [HAN.out]] at hgz H4 HB HE ⊢
  replace HG := Lib.hid (show Lies ((((wr1.setCell ⟨w.heap.size, 1, none⟩ (.int .i64 0)).setCell ⟨w.heap.size, 2, none⟩ (.int .i64 0)).setCell ⟨w.heap.size, 4, none⟩ (.int .u64 0)).setCell ⟨w.heap.size, 0, none⟩ (.int .i64 (y.at_ + 1))) (w.heap.size) 27 (thC (endT (setR y ibn 3)) v0) from hgz)
  clear hgz
  generalize (((wr1.setCell ⟨w.heap.size, 1, none⟩ (.int .i64 0)).setCell ⟨w.heap.size, 2, none⟩ (.int .i64 0)).setCell ⟨w.heap.size, 4, none⟩ (.int .u64 0)).setCell ⟨w.heap.size, 0, none⟩ (.int .i64 (y.at_ + 1)) = w9 at *
  have HBE : Hid (behT (atT l y) y e v = (endT (setR y ibn 3))) := by
    show _ = _
    rw [HGT.out]
    unfold behT regT
    rw [HKD.out, HIA.out, HIB.out]
    simp
  clear HE HI
  have c0 := (HG.out.cell 0).trans (show _ = some (Value.int .i64 (endT (setR y ibn 3)).at_) from rfl)
  have c1 := (HG.out.cell 1).trans (show _ = some (Value.int .i64 (endT (setR y ibn 3)).ph) from rfl)
  have c2 := (HG.out.cell 2).trans (show _ = some (Value.int .i64 (endT (setR y ibn 3)).rg) from rfl)
  have c3 := (HG.out.cell 3).trans (show _ = some (Value.int .i64 (endT (setR y ibn 3)).st) from rfl)
  have c4 := (HG.out.cell 4).trans (show _ = some (Value.int .u64 ((endT (setR y ibn 3)).tk : Int)) from rfl)
  have c5 := (HG.out.cell 5).trans (show _ = some (Value.int .u64 ((endT (setR y ibn 3)).r 0 : Int)) from rfl)
  have c6 := (HG.out.cell 6).trans (show _ = some (Value.int .u64 ((endT (setR y ibn 3)).r 1 : Int)) from rfl)
  have c7 := (HG.out.cell 7).trans (show _ = some (Value.int .u64 ((endT (setR y ibn 3)).r 2 : Int)) from rfl)
  have c8 := (HG.out.cell 8).trans (show _ = some (Value.int .u64 ((endT (setR y ibn 3)).r 3 : Int)) from rfl)
  have c9 := (HG.out.cell 9).trans (show _ = some (Value.int .u64 ((endT (setR y ibn 3)).r 4 : Int)) from rfl)
  have c10 := (HG.out.cell 10).trans (show _ = some (Value.int .u64 ((endT (setR y ibn 3)).r 5 : Int)) from rfl)
  have c11 := (HG.out.cell 11).trans (show _ = some (Value.int .u64 ((endT (setR y ibn 3)).r 6 : Int)) from rfl)
  have c12 := (HG.out.cell 12).trans (show _ = some (Value.int .u64 ((endT (setR y ibn 3)).r 7 : Int)) from rfl)
  have c13 := (HG.out.cell 13).trans (show _ = some (v0) from rfl)
  have cl := HG.out.lt
  go_wp2_with (
    refine wpList_store_row rfl 27 _ _ rfl (w.heap.size + 1 + 1) (thC (endT (setR y ibn 3)) v0) rfl rfl 27 thZ H4.out infoTh rfl (HONE.out _) ?_
    clear c0 c1 c2 c3 c4 c5 c6 c7 c8 c9 c10 c11 c12 c13 cl
    have hk9 := kept_rowT (w := w9) (g := w.heap.size + 1 + 1) (thC (endT (setR y ibn 3)) v0)
    have HBZ := Lib.hid (HB.out.trans (hk9.below HB.out.size (fun k hk (e : k = w.heap.size + 1 + 1) => by omega)))
    have Q4 := Lib.hid (lies_row H4.out (thC (endT (setR y ibn 3)) v0))
    clear hk9
    generalize w9.setRow (w.heap.size + 1 + 1) (thC (endT (setR y ibn 3)) v0) = wF at *
    clear HB H4 HG
    generalize hz9 : (endT (setR y ibn 3)) = Z9 at *
    have z0 := (Q4.out.cell 0).trans (show _ = some (Value.int .i64 Z9.at_) from rfl)
    have z1 := (Q4.out.cell 1).trans (show _ = some (Value.int .i64 Z9.ph) from rfl)
    have z2 := (Q4.out.cell 2).trans (show _ = some (Value.int .i64 Z9.rg) from rfl)
    have z3 := (Q4.out.cell 3).trans (show _ = some (Value.int .i64 Z9.st) from rfl)
    have z4 := (Q4.out.cell 4).trans (show _ = some (Value.int .u64 (Z9.tk : Int)) from rfl)
    have z5 := (Q4.out.cell 5).trans (show _ = some (Value.int .u64 (Z9.r 0 : Int)) from rfl)
    have z6 := (Q4.out.cell 6).trans (show _ = some (Value.int .u64 (Z9.r 1 : Int)) from rfl)
    have z7 := (Q4.out.cell 7).trans (show _ = some (Value.int .u64 (Z9.r 2 : Int)) from rfl)
    have z8 := (Q4.out.cell 8).trans (show _ = some (Value.int .u64 (Z9.r 3 : Int)) from rfl)
    have z9 := (Q4.out.cell 9).trans (show _ = some (Value.int .u64 (Z9.r 4 : Int)) from rfl)
    have z10 := (Q4.out.cell 10).trans (show _ = some (Value.int .u64 (Z9.r 5 : Int)) from rfl)
    have z11 := (Q4.out.cell 11).trans (show _ = some (Value.int .u64 (Z9.r 6 : Int)) from rfl)
    have z12 := (Q4.out.cell 12).trans (show _ = some (Value.int .u64 (Z9.r 7 : Int)) from rfl)
    have z13 := (Q4.out.cell 13).trans (show _ = some (v0) from rfl)
    have zl := Q4.out.lt
    go_wp2
    exact bodyPost_ret (v := .agg (thC Z9 v0)) (by simp [results, Try.results36, go_sem, z0, z1, z2, z3, z4, z5, z6, z7, z8, z9, z10, z11, z12, z13]) rfl ⟨by rw [HBE.out], HBZ.out⟩)
set_option maxHeartbeats 8000000 in
set_option maxRecDepth 100000 in
theorem rfBeh11 (l : List In) (A : Option Addr) (c : Nat) (y : Th) (v0 : Value) (e : Ev) (v : Nat) (w : World) (h : InsAt w A c l) (hv : v0.oneCell' = true) (hcd : codeB l = true) (hat0 : 0 ≤ y.at_) (hat1 : y.at_ < (l.length : Int)) (hk : e.kd = 11) :
    Calls Try.prog 36 #[.slice A l.length c, .agg (thC y v0), .agg (evC e), .int .u64 (v : Int)] w fun q w' => q = .returned (.agg (thC (behT (atT l y) y e v) v0)) ∧ Below w.heap.size w w' := by
  obtain ⟨hc1, hc2⟩ := seq_form h
  have hb3 : Below w.heap.size w (((w.alloc (.cells (thC y v0) 27)).alloc (.cells (evC e) 42)).alloc (.cells thZ 27)) := (((Below.refl _ _).alloc (Nat.le_refl _) _).alloc (by simp) _).alloc (by simp; omega) _
  have l1 := ((Lies.made w 27 (thC y v0)).alloc (.cells (evC e) 42)).alloc (.cells thZ 27)
  have l2 := (Lies.made (w.alloc (.cells (thC y v0) 27)) 42 (evC e)).alloc (.cells thZ 27)
  have l3 := Lies.made ((w.alloc (.cells (thC y v0) 27)).alloc (.cells (evC e) 42)) 27 thZ
  rw [show (w.alloc (.cells (thC y v0) 27)).heap.size = w.heap.size + 1 by simp] at l2
  rw [show ((w.alloc (.cells (thC y v0) 27)).alloc (.cells (evC e) 42)).heap.size = w.heap.size + 1 + 1 by simp] at l3
  have HB := Lib.hid hb3
  have HG := Lib.hid l1
  have HE := Lib.hid l2
  have H4 := Lib.hid l3
  have HONE := Lib.hid (fun z => thC_one z hv)
  have HKD := Lib.hid hk
  have HH := Lib.hid (fun (q : World) (hq : Below w.heap.size w q) => h.later hq)
  clear hb3 l1 l2 l3 hk
  clear hv
  obtain ⟨an, han⟩ : ∃ n : Nat, y.at_ = n := ⟨y.at_.toNat, by omega⟩
  obtain ⟨i, hi⟩ : ∃ i, l[an]? = some i := ⟨_, List.getElem?_eq_getElem (by omega)⟩
  have hgt := atT_get han hi
  have hab := right_ab ((codeB_parts hcd).2 i (List.mem_of_getElem? hi)).1
  have hlen := (codeB_parts hcd).1
  obtain ⟨b, off, rfl, hbl, hg⟩ := InsAt.at_ h hi
  have HGI := Lib.hid (fun (q : World) (hq : Below w.heap.size w q) (j : Nat) (u : Value) (hj : j < 6) (hu : (inF i)[j]? = some u) => cell_later (hg j u hj hu) hq)
  have hal : (an : Int) < (l.length : Int) := by omega
  have hw1a : IntKind.i64.wrap ((an : Int) + 1) = (an : Int) + 1 := IntWalk.i64_in _ (by omega)
  have HAN := Lib.hid han
  obtain ⟨ian, hian⟩ : ∃ n : Nat, i.a = n := ⟨i.a.toNat, by omega⟩
  obtain ⟨ibn, hibn⟩ : ∃ n : Nat, i.b = n := ⟨i.b.toNat, by omega⟩
  have ha8 : ian < 8 := by omega
  have hb8 : ibn < 8 := by omega
  have HIA := Lib.hid hian
  have HIB := Lib.hid hibn
  have HGT := Lib.hid hgt
  clear hgt hab hi hg hbl hian hibn han h hcd hat0 hat1
  go_enter Try.func36, Try.ntmps36
  go_upto_region 1 with (fail)
  generalize hw1 : (((w.alloc (.cells (thC y v0) 27)).alloc (.cells (evC e) 42)).alloc (.cells thZ 27)) = w1 at *
  clear hw1
  have q0 := (HE.out.cell 0).trans (show _ = some (Value.int .i64 e.th) from rfl)
  have q1 := (HE.out.cell 1).trans (show _ = some (Value.int .i64 e.kd) from rfl)
  have q2 := (HE.out.cell 2).trans (show _ = some (Value.int .i64 e.rg) from rfl)
  have q3 := (HE.out.cell 3).trans (show _ = some (Value.int .u64 (e.tk : Int)) from rfl)
  have q4 := (HE.out.cell 4).trans (show _ = some (Value.int .u64 (e.vl : Int)) from rfl)
  have ql := HE.out.lt
  rw [HKD.out] at q1
  have g0 := HGI.out _ HB.out 0 _ (by decide) rfl
  have g1 := HGI.out _ HB.out 1 _ (by decide) rfl
  have g2 := HGI.out _ HB.out 2 _ (by decide) rfl
  have g3 := HGI.out _ HB.out 3 _ (by decide) rfl
  have g4 := HGI.out _ HB.out 4 _ (by decide) rfl
  have g5 := HGI.out _ HB.out 5 _ (by decide) rfl
  rw [Nat.add_zero] at g0
  have c0 := (HG.out.cell 0).trans (show _ = some (Value.int .i64 y.at_) from rfl)
  rw [HAN.out] at c0
  have cl := HG.out.lt
  go_upto_region 14 with (fail)
  clear q0 q1 q2 q3 q4 ql
  clear g0 g1 g2 g3 g4 g5 c0 cl
  have hb3s : w.heap.size + 1 + 1 < w1.heap.size := H4.out.lt
  have hba := (Below.refl w1.heap.size w1).alloc (Nat.le_refl _) (.cells (inC i) 50)
  have HI := Lib.hid (Lies.made w1 50 (inC i))
  replace HG := Lib.hid (HG.out.below hba HG.out.lt)
  replace HE := Lib.hid (HE.out.below hba HE.out.lt)
  replace H4 := Lib.hid (H4.out.below hba H4.out.lt)
  replace HB := Lib.hid (HB.out.trans (hba.mono HB.out.size))
  clear hba
  generalize hw2 : w1.alloc (.cells (inC i) 50) = wr0 at *
  generalize hb3e : w1.heap.size = b3 at *
  clear hw2 hb3e
  have q0 := (HE.out.cell 0).trans (show _ = some (Value.int .i64 e.th) from rfl)
  have q1 := (HE.out.cell 1).trans (show _ = some (Value.int .i64 e.kd) from rfl)
  have q2 := (HE.out.cell 2).trans (show _ = some (Value.int .i64 e.rg) from rfl)
  have q3 := (HE.out.cell 3).trans (show _ = some (Value.int .u64 (e.tk : Int)) from rfl)
  have q4 := (HE.out.cell 4).trans (show _ = some (Value.int .u64 (e.vl : Int)) from rfl)
  have ql := HE.out.lt
  rw [HKD.out] at q1
  have d1 := (HI.out.cell 1).trans (show _ = some (Value.int .i64 i.a) from rfl)
  have d2 := (HI.out.cell 2).trans (show _ = some (Value.int .i64 i.b) from rfl)
  have dl := HI.out.lt
  rw [HIA.out] at d1
  rw [HIB.out] at d2
  have ra := (HG.out.cell (5 + ibn)).trans (thC_reg y v0 hb8)
  have rl := HG.out.lt
  have rf := HG.out.free (5 + ibn)
  go_upto_region 33 with (fail)
  clear q0 q1 q2 q3 q4 ql
  clear d1 d2 dl ra rl rf
  replace H4 := Lib.hid (H4.out.far (p := ⟨w.heap.size, 5 + ibn, none⟩) (show w.heap.size + 1 + 1 ≠ w.heap.size by omega) (.int .u64 1))
  replace HE := Lib.hid (HE.out.far (p := ⟨w.heap.size, 5 + ibn, none⟩) (show w.heap.size + 1 ≠ w.heap.size by omega) (.int .u64 1))
  replace HB := Lib.hid (HB.out.setCell (p := ⟨w.heap.size, 5 + ibn, none⟩) (Nat.le_refl _) (.int .u64 1))
  replace HI := Lib.hid (HI.out.far (p := ⟨w.heap.size, 5 + ibn, none⟩) (show b3 ≠ w.heap.size by omega) (.int .u64 1))
  replace HG := Lib.hid (show Lies (wr0.setCell ⟨w.heap.size, 5 + ibn, none⟩ (.int .u64 1)) (w.heap.size) 27 (thC (setR y ibn 1) v0) from by have := HG.out.put (5 + ibn) (.int .u64 ((1 : Nat) : Int)); rwa [thC_set y v0 hb8] at this)
  generalize wr0.setCell ⟨w.heap.size, 5 + ibn, none⟩ (.int .u64 1) = wr1 at *
  have c0 := (HG.out.cell 0).trans (show _ = some (.int .i64 y.at_) from rfl)
  rw [HAN.out] at c0
  have c1 := (HG.out.cell 1).trans (show _ = some (.int .i64 y.ph) from rfl)
  have c2 := (HG.out.cell 2).trans (show _ = some (.int .i64 y.rg) from rfl)
  have c4 := (HG.out.cell 4).trans (show _ = some (.int .u64 (y.tk : Int)) from rfl)
  have cl := HG.out.lt
  have f0 := HG.out.free 0
  have f1 := HG.out.free 1
  have f2 := HG.out.free 2
  have f4 := HG.out.free 4
  go_upto_region 37 with (fail)
  clear c0 c1 c2 c4 cl f0 f1 f2 f4
  replace H4 := Lib.hid (H4.out.far (p := ⟨w.heap.size, 1, none⟩) (show w.heap.size + 1 + 1 ≠ w.heap.size by omega) (.int .i64 0))
  replace HE := Lib.hid (HE.out.far (p := ⟨w.heap.size, 1, none⟩) (show w.heap.size + 1 ≠ w.heap.size by omega) (.int .i64 0))
  replace HB := Lib.hid (HB.out.setCell (p := ⟨w.heap.size, 1, none⟩) (Nat.le_refl _) (.int .i64 0))
  replace H4 := Lib.hid (H4.out.far (p := ⟨w.heap.size, 2, none⟩) (show w.heap.size + 1 + 1 ≠ w.heap.size by omega) (.int .i64 0))
  replace HE := Lib.hid (HE.out.far (p := ⟨w.heap.size, 2, none⟩) (show w.heap.size + 1 ≠ w.heap.size by omega) (.int .i64 0))
  replace HB := Lib.hid (HB.out.setCell (p := ⟨w.heap.size, 2, none⟩) (Nat.le_refl _) (.int .i64 0))
  replace H4 := Lib.hid (H4.out.far (p := ⟨w.heap.size, 4, none⟩) (show w.heap.size + 1 + 1 ≠ w.heap.size by omega) (.int .u64 0))
  replace HE := Lib.hid (HE.out.far (p := ⟨w.heap.size, 4, none⟩) (show w.heap.size + 1 ≠ w.heap.size by omega) (.int .u64 0))
  replace HB := Lib.hid (HB.out.setCell (p := ⟨w.heap.size, 4, none⟩) (Nat.le_refl _) (.int .u64 0))
  replace H4 := Lib.hid (H4.out.far (p := ⟨w.heap.size, 0, none⟩) (show w.heap.size + 1 + 1 ≠ w.heap.size by omega) (.int .i64 ((an : Int) + 1)))
  replace HE := Lib.hid (HE.out.far (p := ⟨w.heap.size, 0, none⟩) (show w.heap.size + 1 ≠ w.heap.size by omega) (.int .i64 ((an : Int) + 1)))
  replace HB := Lib.hid (HB.out.setCell (p := ⟨w.heap.size, 0, none⟩) (Nat.le_refl _) (.int .i64 ((an : Int) + 1)))
  have hgz := (((HG.out.put 1 (.int .i64 0)).put 2 (.int .i64 0)).put 4 (.int .u64 0)).put 0 (.int .i64 ((an : Int) + 1))
  rw [show ((an : Int) + 1) = y.at_ + 1 by rw [HAN.out]] at hgz H4 HB HE ⊢
  replace HG := Lib.hid (show Lies ((((wr1.setCell ⟨w.heap.size, 1, none⟩ (.int .i64 0)).setCell ⟨w.heap.size, 2, none⟩ (.int .i64 0)).setCell ⟨w.heap.size, 4, none⟩ (.int .u64 0)).setCell ⟨w.heap.size, 0, none⟩ (.int .i64 (y.at_ + 1))) (w.heap.size) 27 (thC (endT (setR y ibn 1)) v0) from hgz)
  clear hgz
  generalize (((wr1.setCell ⟨w.heap.size, 1, none⟩ (.int .i64 0)).setCell ⟨w.heap.size, 2, none⟩ (.int .i64 0)).setCell ⟨w.heap.size, 4, none⟩ (.int .u64 0)).setCell ⟨w.heap.size, 0, none⟩ (.int .i64 (y.at_ + 1)) = w9 at *
  have HBE : Hid (behT (atT l y) y e v = (endT (setR y ibn 1))) := by
    show _ = _
    rw [HGT.out]
    unfold behT regT
    rw [HKD.out, HIA.out, HIB.out]
    simp
  clear HE HI
  have c0 := (HG.out.cell 0).trans (show _ = some (Value.int .i64 (endT (setR y ibn 1)).at_) from rfl)
  have c1 := (HG.out.cell 1).trans (show _ = some (Value.int .i64 (endT (setR y ibn 1)).ph) from rfl)
  have c2 := (HG.out.cell 2).trans (show _ = some (Value.int .i64 (endT (setR y ibn 1)).rg) from rfl)
  have c3 := (HG.out.cell 3).trans (show _ = some (Value.int .i64 (endT (setR y ibn 1)).st) from rfl)
  have c4 := (HG.out.cell 4).trans (show _ = some (Value.int .u64 ((endT (setR y ibn 1)).tk : Int)) from rfl)
  have c5 := (HG.out.cell 5).trans (show _ = some (Value.int .u64 ((endT (setR y ibn 1)).r 0 : Int)) from rfl)
  have c6 := (HG.out.cell 6).trans (show _ = some (Value.int .u64 ((endT (setR y ibn 1)).r 1 : Int)) from rfl)
  have c7 := (HG.out.cell 7).trans (show _ = some (Value.int .u64 ((endT (setR y ibn 1)).r 2 : Int)) from rfl)
  have c8 := (HG.out.cell 8).trans (show _ = some (Value.int .u64 ((endT (setR y ibn 1)).r 3 : Int)) from rfl)
  have c9 := (HG.out.cell 9).trans (show _ = some (Value.int .u64 ((endT (setR y ibn 1)).r 4 : Int)) from rfl)
  have c10 := (HG.out.cell 10).trans (show _ = some (Value.int .u64 ((endT (setR y ibn 1)).r 5 : Int)) from rfl)
  have c11 := (HG.out.cell 11).trans (show _ = some (Value.int .u64 ((endT (setR y ibn 1)).r 6 : Int)) from rfl)
  have c12 := (HG.out.cell 12).trans (show _ = some (Value.int .u64 ((endT (setR y ibn 1)).r 7 : Int)) from rfl)
  have c13 := (HG.out.cell 13).trans (show _ = some (v0) from rfl)
  have cl := HG.out.lt
  go_wp2_with (
    refine wpList_store_row rfl 27 _ _ rfl (w.heap.size + 1 + 1) (thC (endT (setR y ibn 1)) v0) rfl rfl 27 thZ H4.out infoTh rfl (HONE.out _) ?_
    clear c0 c1 c2 c3 c4 c5 c6 c7 c8 c9 c10 c11 c12 c13 cl
    have hk9 := kept_rowT (w := w9) (g := w.heap.size + 1 + 1) (thC (endT (setR y ibn 1)) v0)
    have HBZ := Lib.hid (HB.out.trans (hk9.below HB.out.size (fun k hk (e : k = w.heap.size + 1 + 1) => by omega)))
    have Q4 := Lib.hid (lies_row H4.out (thC (endT (setR y ibn 1)) v0))
    clear hk9
    generalize w9.setRow (w.heap.size + 1 + 1) (thC (endT (setR y ibn 1)) v0) = wF at *
    clear HB H4 HG
    generalize hz9 : (endT (setR y ibn 1)) = Z9 at *
    have z0 := (Q4.out.cell 0).trans (show _ = some (Value.int .i64 Z9.at_) from rfl)
    have z1 := (Q4.out.cell 1).trans (show _ = some (Value.int .i64 Z9.ph) from rfl)
    have z2 := (Q4.out.cell 2).trans (show _ = some (Value.int .i64 Z9.rg) from rfl)
    have z3 := (Q4.out.cell 3).trans (show _ = some (Value.int .i64 Z9.st) from rfl)
    have z4 := (Q4.out.cell 4).trans (show _ = some (Value.int .u64 (Z9.tk : Int)) from rfl)
    have z5 := (Q4.out.cell 5).trans (show _ = some (Value.int .u64 (Z9.r 0 : Int)) from rfl)
    have z6 := (Q4.out.cell 6).trans (show _ = some (Value.int .u64 (Z9.r 1 : Int)) from rfl)
    have z7 := (Q4.out.cell 7).trans (show _ = some (Value.int .u64 (Z9.r 2 : Int)) from rfl)
    have z8 := (Q4.out.cell 8).trans (show _ = some (Value.int .u64 (Z9.r 3 : Int)) from rfl)
    have z9 := (Q4.out.cell 9).trans (show _ = some (Value.int .u64 (Z9.r 4 : Int)) from rfl)
    have z10 := (Q4.out.cell 10).trans (show _ = some (Value.int .u64 (Z9.r 5 : Int)) from rfl)
    have z11 := (Q4.out.cell 11).trans (show _ = some (Value.int .u64 (Z9.r 6 : Int)) from rfl)
    have z12 := (Q4.out.cell 12).trans (show _ = some (Value.int .u64 (Z9.r 7 : Int)) from rfl)
    have z13 := (Q4.out.cell 13).trans (show _ = some (v0) from rfl)
    have zl := Q4.out.lt
    go_wp2
    exact bodyPost_ret (v := .agg (thC Z9 v0)) (by simp [results, Try.results36, go_sem, z0, z1, z2, z3, z4, z5, z6, z7, z8, z9, z10, z11, z12, z13]) rfl ⟨by rw [HBE.out], HBZ.out⟩)
set_option maxHeartbeats 8000000 in
set_option maxRecDepth 100000 in
theorem rfBeh8 (l : List In) (A : Option Addr) (c : Nat) (y : Th) (v0 : Value) (e : Ev) (v : Nat) (w : World) (h : InsAt w A c l) (hv : v0.oneCell' = true) (hcd : codeB l = true) (hat0 : 0 ≤ y.at_) (hat1 : y.at_ < (l.length : Int)) (hk : e.kd = 8) :
    Calls Try.prog 36 #[.slice A l.length c, .agg (thC y v0), .agg (evC e), .int .u64 (v : Int)] w fun q w' => q = .returned (.agg (thC (behT (atT l y) y e v) v0)) ∧ Below w.heap.size w w' := by
  obtain ⟨hc1, hc2⟩ := seq_form h
  have hb3 : Below w.heap.size w (((w.alloc (.cells (thC y v0) 27)).alloc (.cells (evC e) 42)).alloc (.cells thZ 27)) := (((Below.refl _ _).alloc (Nat.le_refl _) _).alloc (by simp) _).alloc (by simp; omega) _
  have l1 := ((Lies.made w 27 (thC y v0)).alloc (.cells (evC e) 42)).alloc (.cells thZ 27)
  have l2 := (Lies.made (w.alloc (.cells (thC y v0) 27)) 42 (evC e)).alloc (.cells thZ 27)
  have l3 := Lies.made ((w.alloc (.cells (thC y v0) 27)).alloc (.cells (evC e) 42)) 27 thZ
  rw [show (w.alloc (.cells (thC y v0) 27)).heap.size = w.heap.size + 1 by simp] at l2
  rw [show ((w.alloc (.cells (thC y v0) 27)).alloc (.cells (evC e) 42)).heap.size = w.heap.size + 1 + 1 by simp] at l3
  have HB := Lib.hid hb3
  have HG := Lib.hid l1
  have HE := Lib.hid l2
  have H4 := Lib.hid l3
  have HONE := Lib.hid (fun z => thC_one z hv)
  have HKD := Lib.hid hk
  have HH := Lib.hid (fun (q : World) (hq : Below w.heap.size w q) => h.later hq)
  clear hb3 l1 l2 l3 hk
  clear hv
  obtain ⟨an, han⟩ : ∃ n : Nat, y.at_ = n := ⟨y.at_.toNat, by omega⟩
  obtain ⟨i, hi⟩ : ∃ i, l[an]? = some i := ⟨_, List.getElem?_eq_getElem (by omega)⟩
  have hgt := atT_get han hi
  have hab := right_ab ((codeB_parts hcd).2 i (List.mem_of_getElem? hi)).1
  have hlen := (codeB_parts hcd).1
  obtain ⟨b, off, rfl, hbl, hg⟩ := InsAt.at_ h hi
  have HGI := Lib.hid (fun (q : World) (hq : Below w.heap.size w q) (j : Nat) (u : Value) (hj : j < 6) (hu : (inF i)[j]? = some u) => cell_later (hg j u hj hu) hq)
  have hal : (an : Int) < (l.length : Int) := by omega
  have hw1a : IntKind.i64.wrap ((an : Int) + 1) = (an : Int) + 1 := IntWalk.i64_in _ (by omega)
  have HAN := Lib.hid han
  obtain ⟨ian, hian⟩ : ∃ n : Nat, i.a = n := ⟨i.a.toNat, by omega⟩
  obtain ⟨ibn, hibn⟩ : ∃ n : Nat, i.b = n := ⟨i.b.toNat, by omega⟩
  have ha8 : ian < 8 := by omega
  have hb8 : ibn < 8 := by omega
  have HIA := Lib.hid hian
  have HIB := Lib.hid hibn
  have HGT := Lib.hid hgt
  clear hgt hab hi hg hbl hian hibn han h hcd hat0 hat1
  go_enter Try.func36, Try.ntmps36
  go_upto_region 1 with (fail)
  generalize hw1 : (((w.alloc (.cells (thC y v0) 27)).alloc (.cells (evC e) 42)).alloc (.cells thZ 27)) = w1 at *
  clear hw1
  have q0 := (HE.out.cell 0).trans (show _ = some (Value.int .i64 e.th) from rfl)
  have q1 := (HE.out.cell 1).trans (show _ = some (Value.int .i64 e.kd) from rfl)
  have q2 := (HE.out.cell 2).trans (show _ = some (Value.int .i64 e.rg) from rfl)
  have q3 := (HE.out.cell 3).trans (show _ = some (Value.int .u64 (e.tk : Int)) from rfl)
  have q4 := (HE.out.cell 4).trans (show _ = some (Value.int .u64 (e.vl : Int)) from rfl)
  have ql := HE.out.lt
  rw [HKD.out] at q1
  have g0 := HGI.out _ HB.out 0 _ (by decide) rfl
  have g1 := HGI.out _ HB.out 1 _ (by decide) rfl
  have g2 := HGI.out _ HB.out 2 _ (by decide) rfl
  have g3 := HGI.out _ HB.out 3 _ (by decide) rfl
  have g4 := HGI.out _ HB.out 4 _ (by decide) rfl
  have g5 := HGI.out _ HB.out 5 _ (by decide) rfl
  rw [Nat.add_zero] at g0
  have c0 := (HG.out.cell 0).trans (show _ = some (Value.int .i64 y.at_) from rfl)
  rw [HAN.out] at c0
  have cl := HG.out.lt
  go_upto_region 14 with (fail)
  clear q0 q1 q2 q3 q4 ql
  clear g0 g1 g2 g3 g4 g5 c0 cl
  have hb3s : w.heap.size + 1 + 1 < w1.heap.size := H4.out.lt
  have hba := (Below.refl w1.heap.size w1).alloc (Nat.le_refl _) (.cells (inC i) 50)
  have HI := Lib.hid (Lies.made w1 50 (inC i))
  replace HG := Lib.hid (HG.out.below hba HG.out.lt)
  replace HE := Lib.hid (HE.out.below hba HE.out.lt)
  replace H4 := Lib.hid (H4.out.below hba H4.out.lt)
  replace HB := Lib.hid (HB.out.trans (hba.mono HB.out.size))
  clear hba
  generalize hw2 : w1.alloc (.cells (inC i) 50) = wr0 at *
  generalize hb3e : w1.heap.size = b3 at *
  clear hw2 hb3e
  have q0 := (HE.out.cell 0).trans (show _ = some (Value.int .i64 e.th) from rfl)
  have q1 := (HE.out.cell 1).trans (show _ = some (Value.int .i64 e.kd) from rfl)
  have q2 := (HE.out.cell 2).trans (show _ = some (Value.int .i64 e.rg) from rfl)
  have q3 := (HE.out.cell 3).trans (show _ = some (Value.int .u64 (e.tk : Int)) from rfl)
  have q4 := (HE.out.cell 4).trans (show _ = some (Value.int .u64 (e.vl : Int)) from rfl)
  have ql := HE.out.lt
  rw [HKD.out] at q1
  have d1 := (HI.out.cell 1).trans (show _ = some (Value.int .i64 i.a) from rfl)
  have d2 := (HI.out.cell 2).trans (show _ = some (Value.int .i64 i.b) from rfl)
  have dl := HI.out.lt
  rw [HIA.out] at d1
  rw [HIB.out] at d2
  have ra := (HG.out.cell (5 + ian)).trans (thC_reg y v0 ha8)
  have rl := HG.out.lt
  have rf := HG.out.free (5 + ian)
  go_upto_region 33 with (fail)
  clear q0 q1 q2 q3 q4 ql
  clear d1 d2 dl ra rl rf
  replace H4 := Lib.hid (H4.out.far (p := ⟨w.heap.size, 5 + ian, none⟩) (show w.heap.size + 1 + 1 ≠ w.heap.size by omega) (.int .u64 (e.vl : Int)))
  replace HE := Lib.hid (HE.out.far (p := ⟨w.heap.size, 5 + ian, none⟩) (show w.heap.size + 1 ≠ w.heap.size by omega) (.int .u64 (e.vl : Int)))
  replace HB := Lib.hid (HB.out.setCell (p := ⟨w.heap.size, 5 + ian, none⟩) (Nat.le_refl _) (.int .u64 (e.vl : Int)))
  replace HI := Lib.hid (HI.out.far (p := ⟨w.heap.size, 5 + ian, none⟩) (show b3 ≠ w.heap.size by omega) (.int .u64 (e.vl : Int)))
  replace HG := Lib.hid (show Lies (wr0.setCell ⟨w.heap.size, 5 + ian, none⟩ (.int .u64 (e.vl : Int))) (w.heap.size) 27 (thC (setR y ian e.vl) v0) from by have := HG.out.put (5 + ian) (.int .u64 ((e.vl : Nat) : Int)); rwa [thC_set y v0 ha8] at this)
  generalize wr0.setCell ⟨w.heap.size, 5 + ian, none⟩ (.int .u64 (e.vl : Int)) = wr1 at *
  have c0 := (HG.out.cell 0).trans (show _ = some (.int .i64 y.at_) from rfl)
  rw [HAN.out] at c0
  have c1 := (HG.out.cell 1).trans (show _ = some (.int .i64 y.ph) from rfl)
  have c2 := (HG.out.cell 2).trans (show _ = some (.int .i64 y.rg) from rfl)
  have c4 := (HG.out.cell 4).trans (show _ = some (.int .u64 (y.tk : Int)) from rfl)
  have cl := HG.out.lt
  have f0 := HG.out.free 0
  have f1 := HG.out.free 1
  have f2 := HG.out.free 2
  have f4 := HG.out.free 4
  go_upto_region 37 with (fail)
  clear c0 c1 c2 c4 cl f0 f1 f2 f4
  replace H4 := Lib.hid (H4.out.far (p := ⟨w.heap.size, 1, none⟩) (show w.heap.size + 1 + 1 ≠ w.heap.size by omega) (.int .i64 0))
  replace HE := Lib.hid (HE.out.far (p := ⟨w.heap.size, 1, none⟩) (show w.heap.size + 1 ≠ w.heap.size by omega) (.int .i64 0))
  replace HB := Lib.hid (HB.out.setCell (p := ⟨w.heap.size, 1, none⟩) (Nat.le_refl _) (.int .i64 0))
  replace H4 := Lib.hid (H4.out.far (p := ⟨w.heap.size, 2, none⟩) (show w.heap.size + 1 + 1 ≠ w.heap.size by omega) (.int .i64 0))
  replace HE := Lib.hid (HE.out.far (p := ⟨w.heap.size, 2, none⟩) (show w.heap.size + 1 ≠ w.heap.size by omega) (.int .i64 0))
  replace HB := Lib.hid (HB.out.setCell (p := ⟨w.heap.size, 2, none⟩) (Nat.le_refl _) (.int .i64 0))
  replace H4 := Lib.hid (H4.out.far (p := ⟨w.heap.size, 4, none⟩) (show w.heap.size + 1 + 1 ≠ w.heap.size by omega) (.int .u64 0))
  replace HE := Lib.hid (HE.out.far (p := ⟨w.heap.size, 4, none⟩) (show w.heap.size + 1 ≠ w.heap.size by omega) (.int .u64 0))
  replace HB := Lib.hid (HB.out.setCell (p := ⟨w.heap.size, 4, none⟩) (Nat.le_refl _) (.int .u64 0))
  replace H4 := Lib.hid (H4.out.far (p := ⟨w.heap.size, 0, none⟩) (show w.heap.size + 1 + 1 ≠ w.heap.size by omega) (.int .i64 ((an : Int) + 1)))
  replace HE := Lib.hid (HE.out.far (p := ⟨w.heap.size, 0, none⟩) (show w.heap.size + 1 ≠ w.heap.size by omega) (.int .i64 ((an : Int) + 1)))
  replace HB := Lib.hid (HB.out.setCell (p := ⟨w.heap.size, 0, none⟩) (Nat.le_refl _) (.int .i64 ((an : Int) + 1)))
  have hgz := (((HG.out.put 1 (.int .i64 0)).put 2 (.int .i64 0)).put 4 (.int .u64 0)).put 0 (.int .i64 ((an : Int) + 1))
  rw [show ((an : Int) + 1) = y.at_ + 1 by rw [HAN.out]] at hgz H4 HB HE ⊢
  replace HG := Lib.hid (show Lies ((((wr1.setCell ⟨w.heap.size, 1, none⟩ (.int .i64 0)).setCell ⟨w.heap.size, 2, none⟩ (.int .i64 0)).setCell ⟨w.heap.size, 4, none⟩ (.int .u64 0)).setCell ⟨w.heap.size, 0, none⟩ (.int .i64 (y.at_ + 1))) (w.heap.size) 27 (thC (endT (setR y ian e.vl)) v0) from hgz)
  clear hgz
  generalize (((wr1.setCell ⟨w.heap.size, 1, none⟩ (.int .i64 0)).setCell ⟨w.heap.size, 2, none⟩ (.int .i64 0)).setCell ⟨w.heap.size, 4, none⟩ (.int .u64 0)).setCell ⟨w.heap.size, 0, none⟩ (.int .i64 (y.at_ + 1)) = w9 at *
  have HBE : Hid (behT (atT l y) y e v = (endT (setR y ian e.vl))) := by
    show _ = _
    rw [HGT.out]
    unfold behT regT
    rw [HKD.out, HIA.out, HIB.out]
    simp
  clear HE HI
  have c0 := (HG.out.cell 0).trans (show _ = some (Value.int .i64 (endT (setR y ian e.vl)).at_) from rfl)
  have c1 := (HG.out.cell 1).trans (show _ = some (Value.int .i64 (endT (setR y ian e.vl)).ph) from rfl)
  have c2 := (HG.out.cell 2).trans (show _ = some (Value.int .i64 (endT (setR y ian e.vl)).rg) from rfl)
  have c3 := (HG.out.cell 3).trans (show _ = some (Value.int .i64 (endT (setR y ian e.vl)).st) from rfl)
  have c4 := (HG.out.cell 4).trans (show _ = some (Value.int .u64 ((endT (setR y ian e.vl)).tk : Int)) from rfl)
  have c5 := (HG.out.cell 5).trans (show _ = some (Value.int .u64 ((endT (setR y ian e.vl)).r 0 : Int)) from rfl)
  have c6 := (HG.out.cell 6).trans (show _ = some (Value.int .u64 ((endT (setR y ian e.vl)).r 1 : Int)) from rfl)
  have c7 := (HG.out.cell 7).trans (show _ = some (Value.int .u64 ((endT (setR y ian e.vl)).r 2 : Int)) from rfl)
  have c8 := (HG.out.cell 8).trans (show _ = some (Value.int .u64 ((endT (setR y ian e.vl)).r 3 : Int)) from rfl)
  have c9 := (HG.out.cell 9).trans (show _ = some (Value.int .u64 ((endT (setR y ian e.vl)).r 4 : Int)) from rfl)
  have c10 := (HG.out.cell 10).trans (show _ = some (Value.int .u64 ((endT (setR y ian e.vl)).r 5 : Int)) from rfl)
  have c11 := (HG.out.cell 11).trans (show _ = some (Value.int .u64 ((endT (setR y ian e.vl)).r 6 : Int)) from rfl)
  have c12 := (HG.out.cell 12).trans (show _ = some (Value.int .u64 ((endT (setR y ian e.vl)).r 7 : Int)) from rfl)
  have c13 := (HG.out.cell 13).trans (show _ = some (v0) from rfl)
  have cl := HG.out.lt
  go_wp2_with (
    refine wpList_store_row rfl 27 _ _ rfl (w.heap.size + 1 + 1) (thC (endT (setR y ian e.vl)) v0) rfl rfl 27 thZ H4.out infoTh rfl (HONE.out _) ?_
    clear c0 c1 c2 c3 c4 c5 c6 c7 c8 c9 c10 c11 c12 c13 cl
    have hk9 := kept_rowT (w := w9) (g := w.heap.size + 1 + 1) (thC (endT (setR y ian e.vl)) v0)
    have HBZ := Lib.hid (HB.out.trans (hk9.below HB.out.size (fun k hk (e : k = w.heap.size + 1 + 1) => by omega)))
    have Q4 := Lib.hid (lies_row H4.out (thC (endT (setR y ian e.vl)) v0))
    clear hk9
    generalize w9.setRow (w.heap.size + 1 + 1) (thC (endT (setR y ian e.vl)) v0) = wF at *
    clear HB H4 HG
    generalize hz9 : (endT (setR y ian e.vl)) = Z9 at *
    have z0 := (Q4.out.cell 0).trans (show _ = some (Value.int .i64 Z9.at_) from rfl)
    have z1 := (Q4.out.cell 1).trans (show _ = some (Value.int .i64 Z9.ph) from rfl)
    have z2 := (Q4.out.cell 2).trans (show _ = some (Value.int .i64 Z9.rg) from rfl)
    have z3 := (Q4.out.cell 3).trans (show _ = some (Value.int .i64 Z9.st) from rfl)
    have z4 := (Q4.out.cell 4).trans (show _ = some (Value.int .u64 (Z9.tk : Int)) from rfl)
    have z5 := (Q4.out.cell 5).trans (show _ = some (Value.int .u64 (Z9.r 0 : Int)) from rfl)
    have z6 := (Q4.out.cell 6).trans (show _ = some (Value.int .u64 (Z9.r 1 : Int)) from rfl)
    have z7 := (Q4.out.cell 7).trans (show _ = some (Value.int .u64 (Z9.r 2 : Int)) from rfl)
    have z8 := (Q4.out.cell 8).trans (show _ = some (Value.int .u64 (Z9.r 3 : Int)) from rfl)
    have z9 := (Q4.out.cell 9).trans (show _ = some (Value.int .u64 (Z9.r 4 : Int)) from rfl)
    have z10 := (Q4.out.cell 10).trans (show _ = some (Value.int .u64 (Z9.r 5 : Int)) from rfl)
    have z11 := (Q4.out.cell 11).trans (show _ = some (Value.int .u64 (Z9.r 6 : Int)) from rfl)
    have z12 := (Q4.out.cell 12).trans (show _ = some (Value.int .u64 (Z9.r 7 : Int)) from rfl)
    have z13 := (Q4.out.cell 13).trans (show _ = some (v0) from rfl)
    have zl := Q4.out.lt
    go_wp2
    exact bodyPost_ret (v := .agg (thC Z9 v0)) (by simp [results, Try.results36, go_sem, z0, z1, z2, z3, z4, z5, z6, z7, z8, z9, z10, z11, z12, z13]) rfl ⟨by rw [HBE.out], HBZ.out⟩)
set_option maxHeartbeats 8000000 in
set_option maxRecDepth 100000 in
theorem rfBeh9 (l : List In) (A : Option Addr) (c : Nat) (y : Th) (v0 : Value) (e : Ev) (v : Nat) (w : World) (h : InsAt w A c l) (hv : v0.oneCell' = true) (hcd : codeB l = true) (hat0 : 0 ≤ y.at_) (hat1 : y.at_ < (l.length : Int)) (hk : e.kd = 9) :
    Calls Try.prog 36 #[.slice A l.length c, .agg (thC y v0), .agg (evC e), .int .u64 (v : Int)] w fun q w' => q = .returned (.agg (thC (behT (atT l y) y e v) v0)) ∧ Below w.heap.size w w' := by
  obtain ⟨hc1, hc2⟩ := seq_form h
  have hb3 : Below w.heap.size w (((w.alloc (.cells (thC y v0) 27)).alloc (.cells (evC e) 42)).alloc (.cells thZ 27)) := (((Below.refl _ _).alloc (Nat.le_refl _) _).alloc (by simp) _).alloc (by simp; omega) _
  have l1 := ((Lies.made w 27 (thC y v0)).alloc (.cells (evC e) 42)).alloc (.cells thZ 27)
  have l2 := (Lies.made (w.alloc (.cells (thC y v0) 27)) 42 (evC e)).alloc (.cells thZ 27)
  have l3 := Lies.made ((w.alloc (.cells (thC y v0) 27)).alloc (.cells (evC e) 42)) 27 thZ
  rw [show (w.alloc (.cells (thC y v0) 27)).heap.size = w.heap.size + 1 by simp] at l2
  rw [show ((w.alloc (.cells (thC y v0) 27)).alloc (.cells (evC e) 42)).heap.size = w.heap.size + 1 + 1 by simp] at l3
  have HB := Lib.hid hb3
  have HG := Lib.hid l1
  have HE := Lib.hid l2
  have H4 := Lib.hid l3
  have HONE := Lib.hid (fun z => thC_one z hv)
  have HKD := Lib.hid hk
  have HH := Lib.hid (fun (q : World) (hq : Below w.heap.size w q) => h.later hq)
  clear hb3 l1 l2 l3 hk
  clear hv
  obtain ⟨an, han⟩ : ∃ n : Nat, y.at_ = n := ⟨y.at_.toNat, by omega⟩
  obtain ⟨i, hi⟩ : ∃ i, l[an]? = some i := ⟨_, List.getElem?_eq_getElem (by omega)⟩
  have hgt := atT_get han hi
  have hab := right_ab ((codeB_parts hcd).2 i (List.mem_of_getElem? hi)).1
  have hlen := (codeB_parts hcd).1
  obtain ⟨b, off, rfl, hbl, hg⟩ := InsAt.at_ h hi
  have HGI := Lib.hid (fun (q : World) (hq : Below w.heap.size w q) (j : Nat) (u : Value) (hj : j < 6) (hu : (inF i)[j]? = some u) => cell_later (hg j u hj hu) hq)
  have hal : (an : Int) < (l.length : Int) := by omega
  have hw1a : IntKind.i64.wrap ((an : Int) + 1) = (an : Int) + 1 := IntWalk.i64_in _ (by omega)
  have HAN := Lib.hid han
  obtain ⟨ian, hian⟩ : ∃ n : Nat, i.a = n := ⟨i.a.toNat, by omega⟩
  obtain ⟨ibn, hibn⟩ : ∃ n : Nat, i.b = n := ⟨i.b.toNat, by omega⟩
  have ha8 : ian < 8 := by omega
  have hb8 : ibn < 8 := by omega
  have HIA := Lib.hid hian
  have HIB := Lib.hid hibn
  have HGT := Lib.hid hgt
  clear hgt hab hi hg hbl hian hibn han h hcd hat0 hat1
  go_enter Try.func36, Try.ntmps36
  go_upto_region 1 with (fail)
  generalize hw1 : (((w.alloc (.cells (thC y v0) 27)).alloc (.cells (evC e) 42)).alloc (.cells thZ 27)) = w1 at *
  clear hw1
  have q0 := (HE.out.cell 0).trans (show _ = some (Value.int .i64 e.th) from rfl)
  have q1 := (HE.out.cell 1).trans (show _ = some (Value.int .i64 e.kd) from rfl)
  have q2 := (HE.out.cell 2).trans (show _ = some (Value.int .i64 e.rg) from rfl)
  have q3 := (HE.out.cell 3).trans (show _ = some (Value.int .u64 (e.tk : Int)) from rfl)
  have q4 := (HE.out.cell 4).trans (show _ = some (Value.int .u64 (e.vl : Int)) from rfl)
  have ql := HE.out.lt
  rw [HKD.out] at q1
  have g0 := HGI.out _ HB.out 0 _ (by decide) rfl
  have g1 := HGI.out _ HB.out 1 _ (by decide) rfl
  have g2 := HGI.out _ HB.out 2 _ (by decide) rfl
  have g3 := HGI.out _ HB.out 3 _ (by decide) rfl
  have g4 := HGI.out _ HB.out 4 _ (by decide) rfl
  have g5 := HGI.out _ HB.out 5 _ (by decide) rfl
  rw [Nat.add_zero] at g0
  have c0 := (HG.out.cell 0).trans (show _ = some (Value.int .i64 y.at_) from rfl)
  rw [HAN.out] at c0
  have cl := HG.out.lt
  go_upto_region 14 with (fail)
  clear q0 q1 q2 q3 q4 ql
  clear g0 g1 g2 g3 g4 g5 c0 cl
  have hb3s : w.heap.size + 1 + 1 < w1.heap.size := H4.out.lt
  have hba := (Below.refl w1.heap.size w1).alloc (Nat.le_refl _) (.cells (inC i) 50)
  have HI := Lib.hid (Lies.made w1 50 (inC i))
  replace HG := Lib.hid (HG.out.below hba HG.out.lt)
  replace HE := Lib.hid (HE.out.below hba HE.out.lt)
  replace H4 := Lib.hid (H4.out.below hba H4.out.lt)
  replace HB := Lib.hid (HB.out.trans (hba.mono HB.out.size))
  clear hba
  generalize hw2 : w1.alloc (.cells (inC i) 50) = wr0 at *
  generalize hb3e : w1.heap.size = b3 at *
  clear hw2 hb3e
  have q0 := (HE.out.cell 0).trans (show _ = some (Value.int .i64 e.th) from rfl)
  have q1 := (HE.out.cell 1).trans (show _ = some (Value.int .i64 e.kd) from rfl)
  have q2 := (HE.out.cell 2).trans (show _ = some (Value.int .i64 e.rg) from rfl)
  have q3 := (HE.out.cell 3).trans (show _ = some (Value.int .u64 (e.tk : Int)) from rfl)
  have q4 := (HE.out.cell 4).trans (show _ = some (Value.int .u64 (e.vl : Int)) from rfl)
  have ql := HE.out.lt
  rw [HKD.out] at q1
  have d1 := (HI.out.cell 1).trans (show _ = some (Value.int .i64 i.a) from rfl)
  have d2 := (HI.out.cell 2).trans (show _ = some (Value.int .i64 i.b) from rfl)
  have dl := HI.out.lt
  rw [HIA.out] at d1
  rw [HIB.out] at d2
  have ra := (HG.out.cell (5 + ian)).trans (thC_reg y v0 ha8)
  have rl := HG.out.lt
  have rf := HG.out.free (5 + ian)
  go_upto_region 33 with (fail)
  clear q0 q1 q2 q3 q4 ql
  clear d1 d2 dl ra rl rf
  replace H4 := Lib.hid (H4.out.far (p := ⟨w.heap.size, 5 + ian, none⟩) (show w.heap.size + 1 + 1 ≠ w.heap.size by omega) (.int .u64 (e.vl : Int)))
  replace HE := Lib.hid (HE.out.far (p := ⟨w.heap.size, 5 + ian, none⟩) (show w.heap.size + 1 ≠ w.heap.size by omega) (.int .u64 (e.vl : Int)))
  replace HB := Lib.hid (HB.out.setCell (p := ⟨w.heap.size, 5 + ian, none⟩) (Nat.le_refl _) (.int .u64 (e.vl : Int)))
  replace HI := Lib.hid (HI.out.far (p := ⟨w.heap.size, 5 + ian, none⟩) (show b3 ≠ w.heap.size by omega) (.int .u64 (e.vl : Int)))
  replace HG := Lib.hid (show Lies (wr0.setCell ⟨w.heap.size, 5 + ian, none⟩ (.int .u64 (e.vl : Int))) (w.heap.size) 27 (thC (setR y ian e.vl) v0) from by have := HG.out.put (5 + ian) (.int .u64 ((e.vl : Nat) : Int)); rwa [thC_set y v0 ha8] at this)
  generalize wr0.setCell ⟨w.heap.size, 5 + ian, none⟩ (.int .u64 (e.vl : Int)) = wr1 at *
  have c0 := (HG.out.cell 0).trans (show _ = some (.int .i64 y.at_) from rfl)
  rw [HAN.out] at c0
  have c1 := (HG.out.cell 1).trans (show _ = some (.int .i64 y.ph) from rfl)
  have c2 := (HG.out.cell 2).trans (show _ = some (.int .i64 y.rg) from rfl)
  have c4 := (HG.out.cell 4).trans (show _ = some (.int .u64 (y.tk : Int)) from rfl)
  have cl := HG.out.lt
  have f0 := HG.out.free 0
  have f1 := HG.out.free 1
  have f2 := HG.out.free 2
  have f4 := HG.out.free 4
  go_upto_region 37 with (fail)
  clear c0 c1 c2 c4 cl f0 f1 f2 f4
  replace H4 := Lib.hid (H4.out.far (p := ⟨w.heap.size, 1, none⟩) (show w.heap.size + 1 + 1 ≠ w.heap.size by omega) (.int .i64 0))
  replace HE := Lib.hid (HE.out.far (p := ⟨w.heap.size, 1, none⟩) (show w.heap.size + 1 ≠ w.heap.size by omega) (.int .i64 0))
  replace HB := Lib.hid (HB.out.setCell (p := ⟨w.heap.size, 1, none⟩) (Nat.le_refl _) (.int .i64 0))
  replace H4 := Lib.hid (H4.out.far (p := ⟨w.heap.size, 2, none⟩) (show w.heap.size + 1 + 1 ≠ w.heap.size by omega) (.int .i64 0))
  replace HE := Lib.hid (HE.out.far (p := ⟨w.heap.size, 2, none⟩) (show w.heap.size + 1 ≠ w.heap.size by omega) (.int .i64 0))
  replace HB := Lib.hid (HB.out.setCell (p := ⟨w.heap.size, 2, none⟩) (Nat.le_refl _) (.int .i64 0))
  replace H4 := Lib.hid (H4.out.far (p := ⟨w.heap.size, 4, none⟩) (show w.heap.size + 1 + 1 ≠ w.heap.size by omega) (.int .u64 0))
  replace HE := Lib.hid (HE.out.far (p := ⟨w.heap.size, 4, none⟩) (show w.heap.size + 1 ≠ w.heap.size by omega) (.int .u64 0))
  replace HB := Lib.hid (HB.out.setCell (p := ⟨w.heap.size, 4, none⟩) (Nat.le_refl _) (.int .u64 0))
  replace H4 := Lib.hid (H4.out.far (p := ⟨w.heap.size, 0, none⟩) (show w.heap.size + 1 + 1 ≠ w.heap.size by omega) (.int .i64 ((an : Int) + 1)))
  replace HE := Lib.hid (HE.out.far (p := ⟨w.heap.size, 0, none⟩) (show w.heap.size + 1 ≠ w.heap.size by omega) (.int .i64 ((an : Int) + 1)))
  replace HB := Lib.hid (HB.out.setCell (p := ⟨w.heap.size, 0, none⟩) (Nat.le_refl _) (.int .i64 ((an : Int) + 1)))
  have hgz := (((HG.out.put 1 (.int .i64 0)).put 2 (.int .i64 0)).put 4 (.int .u64 0)).put 0 (.int .i64 ((an : Int) + 1))
  rw [show ((an : Int) + 1) = y.at_ + 1 by rw [HAN.out]] at hgz H4 HB HE ⊢
  replace HG := Lib.hid (show Lies ((((wr1.setCell ⟨w.heap.size, 1, none⟩ (.int .i64 0)).setCell ⟨w.heap.size, 2, none⟩ (.int .i64 0)).setCell ⟨w.heap.size, 4, none⟩ (.int .u64 0)).setCell ⟨w.heap.size, 0, none⟩ (.int .i64 (y.at_ + 1))) (w.heap.size) 27 (thC (endT (setR y ian e.vl)) v0) from hgz)
  clear hgz
  generalize (((wr1.setCell ⟨w.heap.size, 1, none⟩ (.int .i64 0)).setCell ⟨w.heap.size, 2, none⟩ (.int .i64 0)).setCell ⟨w.heap.size, 4, none⟩ (.int .u64 0)).setCell ⟨w.heap.size, 0, none⟩ (.int .i64 (y.at_ + 1)) = w9 at *
  have HBE : Hid (behT (atT l y) y e v = (endT (setR y ian e.vl))) := by
    show _ = _
    rw [HGT.out]
    unfold behT regT
    rw [HKD.out, HIA.out, HIB.out]
    simp
  clear HE HI
  have c0 := (HG.out.cell 0).trans (show _ = some (Value.int .i64 (endT (setR y ian e.vl)).at_) from rfl)
  have c1 := (HG.out.cell 1).trans (show _ = some (Value.int .i64 (endT (setR y ian e.vl)).ph) from rfl)
  have c2 := (HG.out.cell 2).trans (show _ = some (Value.int .i64 (endT (setR y ian e.vl)).rg) from rfl)
  have c3 := (HG.out.cell 3).trans (show _ = some (Value.int .i64 (endT (setR y ian e.vl)).st) from rfl)
  have c4 := (HG.out.cell 4).trans (show _ = some (Value.int .u64 ((endT (setR y ian e.vl)).tk : Int)) from rfl)
  have c5 := (HG.out.cell 5).trans (show _ = some (Value.int .u64 ((endT (setR y ian e.vl)).r 0 : Int)) from rfl)
  have c6 := (HG.out.cell 6).trans (show _ = some (Value.int .u64 ((endT (setR y ian e.vl)).r 1 : Int)) from rfl)
  have c7 := (HG.out.cell 7).trans (show _ = some (Value.int .u64 ((endT (setR y ian e.vl)).r 2 : Int)) from rfl)
  have c8 := (HG.out.cell 8).trans (show _ = some (Value.int .u64 ((endT (setR y ian e.vl)).r 3 : Int)) from rfl)
  have c9 := (HG.out.cell 9).trans (show _ = some (Value.int .u64 ((endT (setR y ian e.vl)).r 4 : Int)) from rfl)
  have c10 := (HG.out.cell 10).trans (show _ = some (Value.int .u64 ((endT (setR y ian e.vl)).r 5 : Int)) from rfl)
  have c11 := (HG.out.cell 11).trans (show _ = some (Value.int .u64 ((endT (setR y ian e.vl)).r 6 : Int)) from rfl)
  have c12 := (HG.out.cell 12).trans (show _ = some (Value.int .u64 ((endT (setR y ian e.vl)).r 7 : Int)) from rfl)
  have c13 := (HG.out.cell 13).trans (show _ = some (v0) from rfl)
  have cl := HG.out.lt
  go_wp2_with (
    refine wpList_store_row rfl 27 _ _ rfl (w.heap.size + 1 + 1) (thC (endT (setR y ian e.vl)) v0) rfl rfl 27 thZ H4.out infoTh rfl (HONE.out _) ?_
    clear c0 c1 c2 c3 c4 c5 c6 c7 c8 c9 c10 c11 c12 c13 cl
    have hk9 := kept_rowT (w := w9) (g := w.heap.size + 1 + 1) (thC (endT (setR y ian e.vl)) v0)
    have HBZ := Lib.hid (HB.out.trans (hk9.below HB.out.size (fun k hk (e : k = w.heap.size + 1 + 1) => by omega)))
    have Q4 := Lib.hid (lies_row H4.out (thC (endT (setR y ian e.vl)) v0))
    clear hk9
    generalize w9.setRow (w.heap.size + 1 + 1) (thC (endT (setR y ian e.vl)) v0) = wF at *
    clear HB H4 HG
    generalize hz9 : (endT (setR y ian e.vl)) = Z9 at *
    have z0 := (Q4.out.cell 0).trans (show _ = some (Value.int .i64 Z9.at_) from rfl)
    have z1 := (Q4.out.cell 1).trans (show _ = some (Value.int .i64 Z9.ph) from rfl)
    have z2 := (Q4.out.cell 2).trans (show _ = some (Value.int .i64 Z9.rg) from rfl)
    have z3 := (Q4.out.cell 3).trans (show _ = some (Value.int .i64 Z9.st) from rfl)
    have z4 := (Q4.out.cell 4).trans (show _ = some (Value.int .u64 (Z9.tk : Int)) from rfl)
    have z5 := (Q4.out.cell 5).trans (show _ = some (Value.int .u64 (Z9.r 0 : Int)) from rfl)
    have z6 := (Q4.out.cell 6).trans (show _ = some (Value.int .u64 (Z9.r 1 : Int)) from rfl)
    have z7 := (Q4.out.cell 7).trans (show _ = some (Value.int .u64 (Z9.r 2 : Int)) from rfl)
    have z8 := (Q4.out.cell 8).trans (show _ = some (Value.int .u64 (Z9.r 3 : Int)) from rfl)
    have z9 := (Q4.out.cell 9).trans (show _ = some (Value.int .u64 (Z9.r 4 : Int)) from rfl)
    have z10 := (Q4.out.cell 10).trans (show _ = some (Value.int .u64 (Z9.r 5 : Int)) from rfl)
    have z11 := (Q4.out.cell 11).trans (show _ = some (Value.int .u64 (Z9.r 6 : Int)) from rfl)
    have z12 := (Q4.out.cell 12).trans (show _ = some (Value.int .u64 (Z9.r 7 : Int)) from rfl)
    have z13 := (Q4.out.cell 13).trans (show _ = some (v0) from rfl)
    have zl := Q4.out.lt
    go_wp2
    exact bodyPost_ret (v := .agg (thC Z9 v0)) (by simp [results, Try.results36, go_sem, z0, z1, z2, z3, z4, z5, z6, z7, z8, z9, z10, z11, z12, z13]) rfl ⟨by rw [HBE.out], HBZ.out⟩)
end Go.Proofs.Ytiegmpjoiekekaa
