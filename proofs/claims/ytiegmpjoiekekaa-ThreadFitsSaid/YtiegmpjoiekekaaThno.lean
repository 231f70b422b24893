/-
  Up to what is seen (layer 16): thread.Next, of a thread that may not stand so; what an event makes of a thread.
-/
import Derived.Test.YtiegmpjoiekekaaThn
import Derived.Test.YtiegmpjoiekekaaThe4
import Derived.Test.YtiegmpjoiekekaaThm2
import Derived.Test.YtiegmpjoiekekaaEvr
namespace Go.Proofs.Ytiegmpjoiekekaa
open Go.RowKit
set_option linter.unusedVariables false
set_option linter.unusedSimpArgs false
theorem thZ_one : thZ.all (·.oneCell') = true := thC_one ⟨0, 0, 0, 0, 0, fun _ => 0, []⟩ (v := .slice none 0 0) rfl
theorem akZ_one : akZ.all (·.oneCell') = true := akC_one (noneA 0)
set_option maxHeartbeats 8000000 in
set_option maxRecDepth 100000 in
theorem next16no (l : List In) (A : Option Addr) (c : Nat) (x : Th) (v : Value) (w : World) (h : InsAt w A c l) (hr : thB l x = false) :
    Calls Try.prog 10 #[.slice A l.length c, .agg (thC x v)] w fun e w' => e = .returned (.tuple #[.agg thZ, .agg akZ, .int .i64 1]) ∧ Below w.heap.size w w' := by
  obtain ⟨hc1, hc2⟩ := seq_form h
  have hb3 : Below w.heap.size w (((w.alloc (.cells (thC x v) 27)).alloc (.cells thZ 27)).alloc (.cells akZ 31)) := (((Below.refl _ _).alloc (Nat.le_refl _) _).alloc (by simp) _).alloc (by simp; omega) _
  have l1 := ((Lies.made w 27 (thC x v)).alloc (.cells thZ 27)).alloc (.cells akZ 31)
  have l2 := (Lies.made (w.alloc (.cells (thC x v) 27)) 27 thZ).alloc (.cells akZ 31)
  have l3 := Lies.made ((w.alloc (.cells (thC x v) 27)).alloc (.cells thZ 27)) 31 akZ
  rw [show (w.alloc (.cells (thC x v) 27)).heap.size = w.heap.size + 1 by simp] at l2
  rw [show ((w.alloc (.cells (thC x v) 27)).alloc (.cells thZ 27)).heap.size = w.heap.size + 1 + 1 by simp] at l3
  have HB := Lib.hid hb3
  have HG := Lib.hid l1
  have H4 := Lib.hid l2
  have H5 := Lib.hid l3
  have HH := Lib.hid (fun (q : World) (hq : Below w.heap.size w q) => h.later hq)
  have HRT := Lib.hid (fun q hq => thRight l A c x v q hq)
  rw [hr] at HRT
  clear hb3 l1 l2 l3 h hr
  go_enter Try.func10, Try.ntmps10
  go_upto_region 1 with (fail)
  generalize (((w.alloc (.cells (thC x v) 27)).alloc (.cells thZ 27)).alloc (.cells akZ 31)) = w1 at *
  have c0 := (HG.out.cell 0).trans (show _ = some (Value.int .i64 x.at_) from rfl)
  have c1 := (HG.out.cell 1).trans (show _ = some (Value.int .i64 x.ph) from rfl)
  have c2 := (HG.out.cell 2).trans (show _ = some (Value.int .i64 x.rg) from rfl)
  have c3 := (HG.out.cell 3).trans (show _ = some (Value.int .i64 x.st) from rfl)
  have c4 := (HG.out.cell 4).trans (show _ = some (Value.int .u64 (x.tk : Int)) from rfl)
  have c5 := (HG.out.cell 5).trans (show _ = some (Value.int .u64 (x.r 0 : Int)) from rfl)
  have c6 := (HG.out.cell 6).trans (show _ = some (Value.int .u64 (x.r 1 : Int)) from rfl)
  have c7 := (HG.out.cell 7).trans (show _ = some (Value.int .u64 (x.r 2 : Int)) from rfl)
  have c8 := (HG.out.cell 8).trans (show _ = some (Value.int .u64 (x.r 3 : Int)) from rfl)
  have c9 := (HG.out.cell 9).trans (show _ = some (Value.int .u64 (x.r 4 : Int)) from rfl)
  have c10 := (HG.out.cell 10).trans (show _ = some (Value.int .u64 (x.r 5 : Int)) from rfl)
  have c11 := (HG.out.cell 11).trans (show _ = some (Value.int .u64 (x.r 6 : Int)) from rfl)
  have c12 := (HG.out.cell 12).trans (show _ = some (Value.int .u64 (x.r 7 : Int)) from rfl)
  have c13 := (HG.out.cell 13).trans (show _ = some (v) from rfl)
  have cl := HG.out.lt
  go_wp2_with fail
  refine (HRT.out _ (HH.out _ HB.out)).mono ?_
  rintro e w2 ⟨rfl, hbm⟩
  replace H4 := Lib.hid (H4.out.below hbm H4.out.lt)
  replace H5 := Lib.hid (H5.out.below hbm H5.out.lt)
  replace HB := Lib.hid (HB.out.trans (hbm.mono HB.out.size))
  clear c0 c1 c2 c3 c4 c5 c6 c7 c8 c9 c10 c11 c12 c13 cl
  clear hbm HRT HG
  go_wp2_with (
    refine wpList_store_row rfl 27 _ _ rfl (w.heap.size + 1) thZ rfl rfl 27 thZ H4.out infoTh rfl thZ_one ?_
    have hk4 := kept_rowT (w := w2) (g := w.heap.size + 1) thZ
    have HB2 := Lib.hid (HB.out.trans (hk4.below HB.out.size (fun k hk (e : k = w.heap.size + 1) => by omega)))
    have Q4A := Lib.hid (lies_row H4.out thZ)
    have H5A := Lib.hid (H5.out.kept hk4 (fun (e : w.heap.size + 1 + 1 = w.heap.size + 1) => by omega))
    clear hk4
    generalize w2.setRow (w.heap.size + 1) thZ = wD at *
    go_wp2_with (
      refine wpList_store_row rfl 31 _ _ rfl (w.heap.size + 1 + 1) akZ rfl rfl 31 akZ H5A.out infoAk rfl akZ_one ?_
      have hk5 := kept_rowT (w := wD) (g := w.heap.size + 1 + 1) akZ
      have HBZ := Lib.hid (HB2.out.trans (hk5.below HB2.out.size (fun k hk (e : k = w.heap.size + 1 + 1) => by omega)))
      have Q5 := Lib.hid (lies_row H5A.out akZ)
      have Q4 := Lib.hid (Q4A.out.kept hk5 (fun (e : w.heap.size + 1 = w.heap.size + 1 + 1) => by omega))
      clear hk5
      generalize wD.setRow (w.heap.size + 1 + 1) akZ = wE at *
      clear HB2 Q4A H5A H4 H5 HB
      have z0 := (Q4.out.cell 0).trans (show _ = some (.int .i64 0) from rfl)
      have z1 := (Q4.out.cell 1).trans (show _ = some (.int .i64 0) from rfl)
      have z2 := (Q4.out.cell 2).trans (show _ = some (.int .i64 0) from rfl)
      have z3 := (Q4.out.cell 3).trans (show _ = some (.int .i64 0) from rfl)
      have z4 := (Q4.out.cell 4).trans (show _ = some (.int .u64 0) from rfl)
      have z5 := (Q4.out.cell 5).trans (show _ = some (.int .u64 0) from rfl)
      have z6 := (Q4.out.cell 6).trans (show _ = some (.int .u64 0) from rfl)
      have z7 := (Q4.out.cell 7).trans (show _ = some (.int .u64 0) from rfl)
      have z8 := (Q4.out.cell 8).trans (show _ = some (.int .u64 0) from rfl)
      have z9 := (Q4.out.cell 9).trans (show _ = some (.int .u64 0) from rfl)
      have z10 := (Q4.out.cell 10).trans (show _ = some (.int .u64 0) from rfl)
      have z11 := (Q4.out.cell 11).trans (show _ = some (.int .u64 0) from rfl)
      have z12 := (Q4.out.cell 12).trans (show _ = some (.int .u64 0) from rfl)
      have z13 := (Q4.out.cell 13).trans (show _ = some (.slice none 0 0) from rfl)
      have k0 := (Q5.out.cell 0).trans (show _ = some (.int .i64 0) from rfl)
      have k1 := (Q5.out.cell 1).trans (show _ = some (.int .i64 0) from rfl)
      have k2 := (Q5.out.cell 2).trans (show _ = some (.int .i64 0) from rfl)
      have k3 := (Q5.out.cell 3).trans (show _ = some (.int .i64 0) from rfl)
      have k4 := (Q5.out.cell 4).trans (show _ = some (.int .u64 0) from rfl)
      have k5 := (Q5.out.cell 5).trans (show _ = some (.int .u64 0) from rfl)
      go_wp2
      exact bodyPost_ret (v := .tuple #[.agg thZ, .agg akZ, .int .i64 1]) (by simp [results, Try.results10, go_sem, z0, z1, z2, z3, z4, z5, z6, z7, z8, z9, z10, z11, z12, z13, k0, k1, k2, k3, k4, k5]) rfl ⟨rfl, HBZ.out⟩))
end Go.Proofs.Ytiegmpjoiekekaa
