/-
  Up to what is seen (layer 16): the document's Next.
-/
import Derived.Test.YtiegmpjoiekekaaThn
namespace Go.Proofs.Ytiegmpjoiekekaa
open Go.RowKit
set_option linter.unusedVariables false
set_option linter.unusedSimpArgs false
theorem infoAk2 : (Try.prog.info? 37).map (·.size) = some 6 := by kernel_rfl
theorem ak_far {W : World} {g g' : Nat} {T : TypeId} {cs : Array Value} (h : Lies W g' T cs) (hne : g' ≠ g) (y : Ak) :
    Lies ((((((W.setCell ⟨g, 0, none⟩ (.int .i64 y.kd)).setCell ⟨g, 1, none⟩ (.int .i64 y.rg)).setCell ⟨g, 2, none⟩ (.int .i64 y.md)).setCell ⟨g, 3, none⟩ (.int .i64 y.rd)).setCell ⟨g, 4, none⟩ (.int .u64 (y.tk : Int))).setCell ⟨g, 5, none⟩ (.int .u64 (y.vl : Int))) g' T cs :=
  (((((h.far (p := ⟨g, 0, none⟩) hne _).far (p := ⟨g, 1, none⟩) hne _).far (p := ⟨g, 2, none⟩) hne _).far (p := ⟨g, 3, none⟩) hne _).far (p := ⟨g, 4, none⟩) hne _).far (p := ⟨g, 5, none⟩) hne _
theorem right_op1 {i : In} (h : rightB i = true) : 1 ≤ i.op ∧ i.op ≤ 25 := by
  unfold rightB at h
  simp only [Bool.and_eq_true] at h
  have h0 := of_decide_eq_true h.1
  omega
set_option maxHeartbeats 8000000 in
set_option maxRecDepth 100000 in
theorem rfNextA (l : List In) (A : Option Addr) (c : Nat) (x : Th) (v : Value) (w : World) (h : InsAt w A c l) (hok : ∀ i ∈ l, inOk i) (hx : thOk x) (hv : v.oneCell' = true) (hr : thB l x = true) (hs : x.st ≠ 0) :
    Calls Try.prog 15 #[.slice A l.length c, .agg (thC x v)] w fun e w' => e = .returned (.tuple #[.agg (thC (nxT l x) v), .agg (akC (reqA l (nxT l x)))]) ∧ Below w.heap.size w w' := by
  obtain ⟨hc1, hc2⟩ := seq_form h
  have hb3 : Below w.heap.size w (((w.alloc (.cells (thC x v) 27)).alloc (.cells thZ 27)).alloc (.cells akZ 37)) := (((Below.refl _ _).alloc (Nat.le_refl _) _).alloc (by simp) _).alloc (by simp; omega) _
  have l1 := ((Lies.made w 27 (thC x v)).alloc (.cells thZ 27)).alloc (.cells akZ 37)
  have l2 := (Lies.made (w.alloc (.cells (thC x v) 27)) 27 thZ).alloc (.cells akZ 37)
  have l3 := Lies.made ((w.alloc (.cells (thC x v) 27)).alloc (.cells thZ 27)) 37 akZ
  rw [show (w.alloc (.cells (thC x v) 27)).heap.size = w.heap.size + 1 by simp] at l2
  rw [show ((w.alloc (.cells (thC x v) 27)).alloc (.cells thZ 27)).heap.size = w.heap.size + 1 + 1 by simp] at l3
  have HB := Lib.hid hb3
  have HG := Lib.hid l1
  have H4 := Lib.hid l2
  have H5 := Lib.hid l3
  have HONE := Lib.hid (fun z => thC_one z hv)
  obtain ⟨hc, hin, hp⟩ := thB_parts hr
  clear hb3 l1 l2 l3
  have e0 : (x.st != 0) = true := by rw [bne_iff_ne]; exact hs
  have HYE := Lib.hid (nxT_not (l := l) (x := x) (fun q => hs q.1))
  have HRE := Lib.hid (reqA_st (l := l) hs)
  clear hs hr hc hin hp h hok hx hv
  go_enter Try.func15, Try.ntmps15
  go_upto_region 1 with (fail)
  generalize (((w.alloc (.cells (thC x v) 27)).alloc (.cells thZ 27)).alloc (.cells akZ 37)) = w1 at *
  have c0 := (HG.out.cell 0).trans (show _ = some (Value.int .i64 x.at_) from rfl)
  have c1 := (HG.out.cell 1).trans (show _ = some (Value.int .i64 x.ph) from rfl)
  have c2 := (HG.out.cell 2).trans (show _ = some (Value.int .i64 x.rg) from rfl)
  have c3 := (HG.out.cell 3).trans (show _ = some (Value.int .i64 x.st) from rfl)
  have c4 := (HG.out.cell 4).trans (show _ = some (Value.int .u64 (x.tk : Int)) from rfl)
  have c5 := (HG.out.cell 5).trans (show _ = some (Value.int .u64 (x.r 0 : Int)) from rfl)
  have c6 := (HG.out.cell 6).trans (show _ = some (Value.int .u64 (x.r 1 : Int)) from rfl)
  have c7 := (HG.out.cell 7).trans (show _ = some (Value.int .u64 (x.r 2 : Int)) from rfl)
  have c8 := (HG.out.cell 8).trans (show _ = some (Value.int .u64 (x.r 3 : Int)) from rfl)
  have c9 := (HG.out.cell 9).trans (show _ = some (Value.int .u64 (x.r 4 : Int)) from rfl)
  have c10 := (HG.out.cell 10).trans (show _ = some (Value.int .u64 (x.r 5 : Int)) from rfl)
  have c11 := (HG.out.cell 11).trans (show _ = some (Value.int .u64 (x.r 6 : Int)) from rfl)
  have c12 := (HG.out.cell 12).trans (show _ = some (Value.int .u64 (x.r 7 : Int)) from rfl)
  have c13 := (HG.out.cell 13).trans (show _ = some (v) from rfl)
  have cl := HG.out.lt
  go_wp2_with (
    refine wpList_store_row rfl 27 _ _ rfl (w.heap.size + 1) (thC x v) rfl rfl 27 thZ H4.out infoTh rfl (HONE.out x) ?_
    clear c0 c1 c2 c3 c4 c5 c6 c7 c8 c9 c10 c11 c12 c13 cl
    have HB2 := Lib.hid (HB.out.trans ((kept_rowT (w := w1) (g := w.heap.size + 1) (thC x v)).below HB.out.size (fun k hk (e : k = w.heap.size + 1) => by omega)))
    have Q4A := Lib.hid (lies_row H4.out (thC x v))
    have H5A := Lib.hid (H5.out.kept (kept_rowT (w := w1) (g := w.heap.size + 1) (thC x v)) (fun (e : w.heap.size + 1 + 1 = w.heap.size + 1) => by omega))
    generalize w1.setRow (w.heap.size + 1) (thC x v) = wD at *
    go_wp2_with (
      refine wpList_store_row rfl 37 _ _ rfl (w.heap.size + 1 + 1) (akC (noneA 0)) rfl rfl 37 akZ H5A.out infoAk2 rfl (akC_one _) ?_
      have HBZ := Lib.hid (HB2.out.trans ((kept_rowT (w := wD) (g := w.heap.size + 1 + 1) (akC (noneA 0))).below HB2.out.size (fun k hk (e : k = w.heap.size + 1 + 1) => by omega)))
      have Q5 := Lib.hid (lies_row H5A.out (akC (noneA 0)))
      have Q4 := Lib.hid (Q4A.out.kept (kept_rowT (w := wD) (g := w.heap.size + 1 + 1) (akC (noneA 0))) (fun (e : w.heap.size + 1 = w.heap.size + 1 + 1) => by omega))
      generalize wD.setRow (w.heap.size + 1 + 1) (akC (noneA 0)) = wE at *
      clear HB2 Q4A H5A
      replace Q5 : Hid (Lies wE (w.heap.size + 1 + 1) 37 (akC (reqA l x))) := by show Lies _ _ _ _; rw [HRE.out]; exact Q5.out
      clear HRE H4 H5 HG HB HONE
      generalize hzz : reqA l x = z at *
      have HZE := Lib.hid hzz
      clear hzz
      have z0 := (Q4.out.cell 0).trans (show _ = some (Value.int .i64 x.at_) from rfl)
      have z1 := (Q4.out.cell 1).trans (show _ = some (Value.int .i64 x.ph) from rfl)
      have z2 := (Q4.out.cell 2).trans (show _ = some (Value.int .i64 x.rg) from rfl)
      have z3 := (Q4.out.cell 3).trans (show _ = some (Value.int .i64 x.st) from rfl)
      have z4 := (Q4.out.cell 4).trans (show _ = some (Value.int .u64 (x.tk : Int)) from rfl)
      have z5 := (Q4.out.cell 5).trans (show _ = some (Value.int .u64 (x.r 0 : Int)) from rfl)
      have z6 := (Q4.out.cell 6).trans (show _ = some (Value.int .u64 (x.r 1 : Int)) from rfl)
      have z7 := (Q4.out.cell 7).trans (show _ = some (Value.int .u64 (x.r 2 : Int)) from rfl)
      have z8 := (Q4.out.cell 8).trans (show _ = some (Value.int .u64 (x.r 3 : Int)) from rfl)
      have z9 := (Q4.out.cell 9).trans (show _ = some (Value.int .u64 (x.r 4 : Int)) from rfl)
      have z10 := (Q4.out.cell 10).trans (show _ = some (Value.int .u64 (x.r 5 : Int)) from rfl)
      have z11 := (Q4.out.cell 11).trans (show _ = some (Value.int .u64 (x.r 6 : Int)) from rfl)
      have z12 := (Q4.out.cell 12).trans (show _ = some (Value.int .u64 (x.r 7 : Int)) from rfl)
      have z13 := (Q4.out.cell 13).trans (show _ = some (v) from rfl)
      have zl := Q4.out.lt
      have k0 := (Q5.out.cell 0).trans (show _ = some (.int .i64 z.kd) from rfl)
      have k1 := (Q5.out.cell 1).trans (show _ = some (.int .i64 z.rg) from rfl)
      have k2 := (Q5.out.cell 2).trans (show _ = some (.int .i64 z.md) from rfl)
      have k3 := (Q5.out.cell 3).trans (show _ = some (.int .i64 z.rd) from rfl)
      have k4 := (Q5.out.cell 4).trans (show _ = some (.int .u64 (z.tk : Int)) from rfl)
      have k5 := (Q5.out.cell 5).trans (show _ = some (.int .u64 (z.vl : Int)) from rfl)
      go_wp2
      exact bodyPost_ret (v := .tuple #[.agg (thC x v), .agg (akC z)]) (by simp [results, Try.results15, go_sem, z0, z1, z2, z3, z4, z5, z6, z7, z8, z9, z10, z11, z12, z13, k0, k1, k2, k3, k4, k5]) rfl ⟨by rw [HYE.out, HZE.out], HBZ.out⟩))
set_option maxHeartbeats 8000000 in
set_option maxRecDepth 100000 in
theorem rfNextB (l : List In) (A : Option Addr) (c : Nat) (x : Th) (v : Value) (w : World) (h : InsAt w A c l) (hok : ∀ i ∈ l, inOk i) (hx : thOk x) (hv : v.oneCell' = true) (hr : thB l x = true) (h1 : x.ph = 1) :
    Calls Try.prog 15 #[.slice A l.length c, .agg (thC x v)] w fun e w' => e = .returned (.tuple #[.agg (thC (nxT l x) v), .agg (akC (reqA l (nxT l x)))]) ∧ Below w.heap.size w w' := by
  obtain ⟨hc1, hc2⟩ := seq_form h
  have hb3 : Below w.heap.size w (((w.alloc (.cells (thC x v) 27)).alloc (.cells thZ 27)).alloc (.cells akZ 37)) := (((Below.refl _ _).alloc (Nat.le_refl _) _).alloc (by simp) _).alloc (by simp; omega) _
  have l1 := ((Lies.made w 27 (thC x v)).alloc (.cells thZ 27)).alloc (.cells akZ 37)
  have l2 := (Lies.made (w.alloc (.cells (thC x v) 27)) 27 thZ).alloc (.cells akZ 37)
  have l3 := Lies.made ((w.alloc (.cells (thC x v) 27)).alloc (.cells thZ 27)) 37 akZ
  rw [show (w.alloc (.cells (thC x v) 27)).heap.size = w.heap.size + 1 by simp] at l2
  rw [show ((w.alloc (.cells (thC x v) 27)).alloc (.cells thZ 27)).heap.size = w.heap.size + 1 + 1 by simp] at l3
  have HB := Lib.hid hb3
  have HG := Lib.hid l1
  have H4 := Lib.hid l2
  have H5 := Lib.hid l3
  have HONE := Lib.hid (fun z => thC_one z hv)
  obtain ⟨hc, hin, hp⟩ := thB_parts hr
  clear hb3 l1 l2 l3
  obtain ⟨hst, hlt, hop, _, _⟩ := hdB_parts (phB_1 hp h1)
  obtain ⟨an, han⟩ : ∃ n : Nat, x.at_ = n := ⟨x.at_.toNat, by omega⟩
  obtain ⟨i, hi⟩ : ∃ i, l[an]? = some i := ⟨_, List.getElem?_eq_getElem (by omega)⟩
  have hgt := atT_get han hi
  have HM := List.mem_of_getElem? hi
  have HR := ((codeB_parts hc).2 i HM).1
  obtain ⟨b, off, rfl, hbl, hg⟩ := InsAt.at_ h hi
  have HGI := Lib.hid (fun (q : World) (hq : Below w.heap.size w q) (j : Nat) (u : Value) (hj : j < 6) (hu : (inF i)[j]? = some u) => cell_later (hg j u hj hu) hq)
  have hal : (an : Int) < (l.length : Int) := by omega
  have hat : x.at_ ≠ (l.length : Int) := by omega
  have HAN := Lib.hid han
  have hreg := vis_reg HR (.inl (by rw [← hgt]; exact hop))
  obtain ⟨ian, hian⟩ : ∃ n : Nat, i.a = n := ⟨i.a.toNat, by omega⟩
  have ha8 : ian < 8 := by omega
  have e0 : (x.st != 0) = false := by rw [bne_eq_false_iff_eq]; exact hst
  have e1 : (x.ph == 1) = true := by rw [beq_iff_eq]; exact h1
  have HYE := Lib.hid (nxT_not (l := l) (x := x) (fun q => by omega))
  have hre := reqA_in hst hat hgt
  rw [if_pos h1, hian, Int.toNat_natCast] at hre
  have HRE := Lib.hid hre
  clear hre hst hlt hop hreg hgt hi HM HR hg hbl hat han h1 hr hc hin hp h hok hx hv
  obtain ⟨iop, ia, ib, ic, id, ik⟩ := i
  have hian : ia = ian := hian
  subst hian
  go_enter Try.func15, Try.ntmps15
  go_upto_region 1 with (fail)
  generalize (((w.alloc (.cells (thC x v) 27)).alloc (.cells thZ 27)).alloc (.cells akZ 37)) = w1 at *
  have c0 := (HG.out.cell 0).trans (show _ = some (Value.int .i64 x.at_) from rfl)
  have c1 := (HG.out.cell 1).trans (show _ = some (Value.int .i64 x.ph) from rfl)
  have c2 := (HG.out.cell 2).trans (show _ = some (Value.int .i64 x.rg) from rfl)
  have c3 := (HG.out.cell 3).trans (show _ = some (Value.int .i64 x.st) from rfl)
  have c4 := (HG.out.cell 4).trans (show _ = some (Value.int .u64 (x.tk : Int)) from rfl)
  have c5 := (HG.out.cell 5).trans (show _ = some (Value.int .u64 (x.r 0 : Int)) from rfl)
  have c6 := (HG.out.cell 6).trans (show _ = some (Value.int .u64 (x.r 1 : Int)) from rfl)
  have c7 := (HG.out.cell 7).trans (show _ = some (Value.int .u64 (x.r 2 : Int)) from rfl)
  have c8 := (HG.out.cell 8).trans (show _ = some (Value.int .u64 (x.r 3 : Int)) from rfl)
  have c9 := (HG.out.cell 9).trans (show _ = some (Value.int .u64 (x.r 4 : Int)) from rfl)
  have c10 := (HG.out.cell 10).trans (show _ = some (Value.int .u64 (x.r 5 : Int)) from rfl)
  have c11 := (HG.out.cell 11).trans (show _ = some (Value.int .u64 (x.r 6 : Int)) from rfl)
  have c12 := (HG.out.cell 12).trans (show _ = some (Value.int .u64 (x.r 7 : Int)) from rfl)
  have c13 := (HG.out.cell 13).trans (show _ = some (v) from rfl)
  have cl := HG.out.lt
  go_wp2_with fail
  generalize hw9 : w1 = w9 at *
  clear hw9
  clear c0 c1 c2 c3 c4 c5 c6 c7 c8 c9 c10 c11 c12 c13 cl
  have HSN := Lib.hid (fun (q : World) (hq : Kept (twoRows (w.heap.size + 1) (w.heap.size + 1 + 1)) w9 q) => HG.out.kept hq (fun (e : w.heap.size = _ ∨ w.heap.size = _) => by omega))
  have HBL := Lib.hid (fun (q : World) (hq : Kept (twoRows (w.heap.size + 1) (w.heap.size + 1 + 1)) w9 q) => HB.out.trans (hq.below HB.out.size (fun k hk (e : k = _ ∨ k = _) => by omega)))
  refine wp_region_rely (fun q => Kept (twoRows (w.heap.size + 1) (w.heap.size + 1 + 1)) w9 q) (rgV [some (.agg (thC x v)), some (.pointer (some ⟨w.heap.size, 2, none⟩)), some (.int .i64 (x.rg)), some (.pointer (some ⟨w.heap.size, 4, none⟩)), some (.int .u64 (x.tk : Int)), some (.slice (some ⟨b, off, none⟩) l.length c), some (.pointer (some ⟨w.heap.size, 0, none⟩)), some (.int .i64 ((an : Int))), some (.pointer (some ⟨b, off + an * 6, none⟩)), some (.pointer (some ⟨b, off + an * 6 + 1, none⟩)), some (.int .i64 ((ian : Int))), some (.pointer (some ⟨w.heap.size, 5, none⟩)), some (.pointer (some ⟨w.heap.size, 5 + ian, none⟩)), some (.int .u64 (x.r ian : Int)), some (.agg (akC ⟨10, x.rg, 0, 0, x.tk, x.r ian⟩)), none, none, none, none] (twF 15 16 17 18 (w.heap.size + 1) (w.heap.size + 1 + 1) 27 37 (thC x v) (akC (⟨10, x.rg, 0, 0, x.tk, x.r ian⟩)) thZ akZ)) [some 16, some 17, some 18, some 19, some 20, some 21, some 22, some 23, some 24, some 25, some 26, some 27, some 28, some 29, some 30, none, none] [[], [], [1], [], [3], [], [], [6], [5, 7], [8], [9], [], [11, 10], [12], [2, 4, 13], [0, 17], [14, 18]] [[], [], [1], [], [3], [], [], [6], [5, 6, 7], [5, 7, 8], [8, 9], [], [9, 10, 11], [10, 11, 12], [1, 2, 3, 4, 12, 13], [0, 17], [0, 1, 2, 3, 4, 5, 6, 7, 8, 9, 10, 11, 12, 13, 14, 17, 18]] [[1, 2, 3, 4, 5, 6, 7, 8, 9, 10, 11, 12, 13, 14, 17, 18], [0, 3, 4, 5, 6, 7, 8, 9, 10, 11, 12, 13, 14, 15, 17, 18], [0, 3, 4, 5, 6, 7, 8, 9, 10, 11, 12, 13, 15, 17, 18], [0, 1, 2, 5, 6, 7, 8, 9, 10, 11, 12, 13, 14, 15, 17, 18], [0, 1, 2, 5, 6, 7, 8, 9, 10, 11, 12, 13, 15, 17, 18], [0, 1, 2, 3, 4, 6, 7, 9, 10, 11, 12, 13, 14, 15, 17, 18], [0, 1, 2, 3, 4, 5, 8, 9, 10, 11, 12, 13, 14, 15, 17, 18], [0, 1, 2, 3, 4, 5, 9, 10, 11, 12, 13, 14, 15, 17, 18], [0, 1, 2, 3, 4, 10, 11, 12, 13, 14, 15, 17, 18], [0, 1, 2, 3, 4, 11, 12, 13, 14, 15, 17, 18], [0, 1, 2, 3, 4, 6, 11, 13, 14, 15, 17, 18], [0, 1, 2, 3, 4, 5, 6, 7, 8, 9, 10, 13, 14, 15, 17, 18], [0, 1, 2, 3, 4, 5, 6, 7, 14, 15, 17, 18], [0, 1, 2, 3, 4, 5, 6, 7, 8, 15, 17, 18], [0, 5, 6, 7, 8, 9, 15, 17, 18], [1, 2, 3, 4, 5, 6, 7, 8, 9, 10, 11, 12, 13, 14, 18], [15]] [0, 1, 2, 3, 4, 5, 6, 7, 8, 9, 10, 11, 12, 13, 14, 15, 16] 19 (by kernel_rfl) (by kernel_rfl) (by kernel_rfl) (by kernel_rfl) ?rS ?rI ?rT ?rE
  case rS => exact Kept.drew _ _
  case rI =>
    intro j h1 h2
    have h1 : j < 19 := h1
    have h2 : 17 ≤ j := h2
    have hj : j = 17 ∨ j = 18 := by omega
    rcases hj with rfl | rfl
    · exact H4.out.drewN 1
    · exact H5.out.drewN 1
  case rT =>
    refine RelySteps.cons (RelyStep.mk [] [1, 2, 3, 4, 5, 6, 7, 8, 9, 10, 11, 12, 13, 14, 17, 18] rfl rfl rfl (fun xv wS hS hV bq hb K hK => ?_)) ?_
    · clear hV
      simp only [putsOf, List.foldl_cons, List.foldl_nil, List.getD_cons_zero, List.getD_cons_succ, List.getD_nil, cond_true, cond_false, Act.put, List.setIfInBounds_toArray, List.set_cons_zero, List.set_cons_succ] at hb
      subst hb
      rw [if_pos (by rfl)]
      (have HZ := Lib.hid (HSN.out _ hS); have c0 := (HZ.out.cell 0).trans (show _ = some (Value.int .i64 x.at_) from rfl); have c1 := (HZ.out.cell 1).trans (show _ = some (Value.int .i64 x.ph) from rfl); have c2 := (HZ.out.cell 2).trans (show _ = some (Value.int .i64 x.rg) from rfl); have c3 := (HZ.out.cell 3).trans (show _ = some (Value.int .i64 x.st) from rfl); have c4 := (HZ.out.cell 4).trans (show _ = some (Value.int .u64 (x.tk : Int)) from rfl); have c5 := (HZ.out.cell 5).trans (show _ = some (Value.int .u64 (x.r 0 : Int)) from rfl); have c6 := (HZ.out.cell 6).trans (show _ = some (Value.int .u64 (x.r 1 : Int)) from rfl); have c7 := (HZ.out.cell 7).trans (show _ = some (Value.int .u64 (x.r 2 : Int)) from rfl); have c8 := (HZ.out.cell 8).trans (show _ = some (Value.int .u64 (x.r 3 : Int)) from rfl); have c9 := (HZ.out.cell 9).trans (show _ = some (Value.int .u64 (x.r 4 : Int)) from rfl); have c10 := (HZ.out.cell 10).trans (show _ = some (Value.int .u64 (x.r 5 : Int)) from rfl); have c11 := (HZ.out.cell 11).trans (show _ = some (Value.int .u64 (x.r 6 : Int)) from rfl); have c12 := (HZ.out.cell 12).trans (show _ = some (Value.int .u64 (x.r 7 : Int)) from rfl); have c13 := (HZ.out.cell 13).trans (show _ = some (v) from rfl); have cl := HZ.out.lt)
      go_wp2_with fail
      exact hK.out _ _ ⟨_, rfl, hS, rfl, AllP.same _⟩
    refine RelySteps.cons (RelyStep.mk [] [0, 3, 4, 5, 6, 7, 8, 9, 10, 11, 12, 13, 14, 15, 17, 18] rfl rfl rfl (fun xv wS hS hV bq hb K hK => ?_)) ?_
    · clear hV
      simp only [putsOf, List.foldl_cons, List.foldl_nil, List.getD_cons_zero, List.getD_cons_succ, List.getD_nil, cond_true, cond_false, Act.put, List.setIfInBounds_toArray, List.set_cons_zero, List.set_cons_succ] at hb
      subst hb
      rw [if_pos (by rfl)]
      go_wp2_with fail
      exact hK.out _ _ ⟨_, rfl, hS, rfl, AllP.same _⟩
    refine RelySteps.cons (RelyStep.mk [1] [0, 3, 4, 5, 6, 7, 8, 9, 10, 11, 12, 13, 15, 17, 18] rfl rfl rfl (fun xv wS hS hV bq hb K hK => ?_)) ?_
    · obtain ⟨h1, _⟩ := hV
      have h1 : xv 1 = _ := h1
      simp only [putsOf, List.foldl_cons, List.foldl_nil, List.getD_cons_zero, List.getD_cons_succ, List.getD_nil, cond_true, cond_false, Act.put, List.setIfInBounds_toArray, List.set_cons_zero, List.set_cons_succ, h1] at hb
      clear h1
      subst hb
      rw [if_pos (by rfl)]
      (have HZ := Lib.hid (HSN.out _ hS); have c9 := (HZ.out.cell 2).trans (show _ = some _ from rfl); have c8 := HZ.out.lt)
      go_wp2_with fail
      exact hK.out _ _ ⟨_, rfl, hS, rfl, AllP.same _⟩
    refine RelySteps.cons (RelyStep.mk [] [0, 1, 2, 5, 6, 7, 8, 9, 10, 11, 12, 13, 14, 15, 17, 18] rfl rfl rfl (fun xv wS hS hV bq hb K hK => ?_)) ?_
    · clear hV
      simp only [putsOf, List.foldl_cons, List.foldl_nil, List.getD_cons_zero, List.getD_cons_succ, List.getD_nil, cond_true, cond_false, Act.put, List.setIfInBounds_toArray, List.set_cons_zero, List.set_cons_succ] at hb
      subst hb
      rw [if_pos (by rfl)]
      go_wp2_with fail
      exact hK.out _ _ ⟨_, rfl, hS, rfl, AllP.same _⟩
    refine RelySteps.cons (RelyStep.mk [3] [0, 1, 2, 5, 6, 7, 8, 9, 10, 11, 12, 13, 15, 17, 18] rfl rfl rfl (fun xv wS hS hV bq hb K hK => ?_)) ?_
    · obtain ⟨h3, _⟩ := hV
      have h3 : xv 3 = _ := h3
      simp only [putsOf, List.foldl_cons, List.foldl_nil, List.getD_cons_zero, List.getD_cons_succ, List.getD_nil, cond_true, cond_false, Act.put, List.setIfInBounds_toArray, List.set_cons_zero, List.set_cons_succ, h3] at hb
      clear h3
      subst hb
      rw [if_pos (by rfl)]
      (have HZ := Lib.hid (HSN.out _ hS); have c9 := (HZ.out.cell 4).trans (show _ = some _ from rfl); have c8 := HZ.out.lt)
      go_wp2_with fail
      exact hK.out _ _ ⟨_, rfl, hS, rfl, AllP.same _⟩
    refine RelySteps.cons (RelyStep.mk [] [0, 1, 2, 3, 4, 6, 7, 9, 10, 11, 12, 13, 14, 15, 17, 18] rfl rfl rfl (fun xv wS hS hV bq hb K hK => ?_)) ?_
    · clear hV
      simp only [putsOf, List.foldl_cons, List.foldl_nil, List.getD_cons_zero, List.getD_cons_succ, List.getD_nil, cond_true, cond_false, Act.put, List.setIfInBounds_toArray, List.set_cons_zero, List.set_cons_succ] at hb
      subst hb
      rw [if_pos (by rfl)]
      go_wp2_with fail
      exact hK.out _ _ ⟨_, rfl, hS, rfl, AllP.same _⟩
    refine RelySteps.cons (RelyStep.mk [] [0, 1, 2, 3, 4, 5, 8, 9, 10, 11, 12, 13, 14, 15, 17, 18] rfl rfl rfl (fun xv wS hS hV bq hb K hK => ?_)) ?_
    · clear hV
      simp only [putsOf, List.foldl_cons, List.foldl_nil, List.getD_cons_zero, List.getD_cons_succ, List.getD_nil, cond_true, cond_false, Act.put, List.setIfInBounds_toArray, List.set_cons_zero, List.set_cons_succ] at hb
      subst hb
      rw [if_pos (by rfl)]
      go_wp2_with fail
      exact hK.out _ _ ⟨_, rfl, hS, rfl, AllP.same _⟩
    refine RelySteps.cons (RelyStep.mk [6] [0, 1, 2, 3, 4, 5, 9, 10, 11, 12, 13, 14, 15, 17, 18] rfl rfl rfl (fun xv wS hS hV bq hb K hK => ?_)) ?_
    · obtain ⟨h6, _⟩ := hV
      have h6 : xv 6 = _ := h6
      simp only [putsOf, List.foldl_cons, List.foldl_nil, List.getD_cons_zero, List.getD_cons_succ, List.getD_nil, cond_true, cond_false, Act.put, List.setIfInBounds_toArray, List.set_cons_zero, List.set_cons_succ, h6] at hb
      clear h6
      subst hb
      rw [if_pos (by rfl)]
      (have HZ := Lib.hid (HSN.out _ hS); have c9 := (HZ.out.cell 0).trans (show _ = some _ from rfl); have c8 := HZ.out.lt; replace c9 : wS.cell? ⟨w.heap.size, 0, none⟩ = some (Value.int .i64 x.at_) := c9; rw [HAN.out] at c9)
      go_wp2_with fail
      exact hK.out _ _ ⟨_, rfl, hS, rfl, AllP.same _⟩
    refine RelySteps.cons (RelyStep.mk [5, 7] [0, 1, 2, 3, 4, 10, 11, 12, 13, 14, 15, 17, 18] rfl rfl rfl (fun xv wS hS hV bq hb K hK => ?_)) ?_
    · obtain ⟨h5, h7, _⟩ := hV
      have h5 : xv 5 = _ := h5
      have h7 : xv 7 = _ := h7
      simp only [putsOf, List.foldl_cons, List.foldl_nil, List.getD_cons_zero, List.getD_cons_succ, List.getD_nil, cond_true, cond_false, Act.put, List.setIfInBounds_toArray, List.set_cons_zero, List.set_cons_succ, h5, h7] at hb
      clear h5
      clear h7
      subst hb
      rw [if_pos (by rfl)]
      go_wp2_with fail
      exact hK.out _ _ ⟨_, rfl, hS, rfl, AllP.same _⟩
    refine RelySteps.cons (RelyStep.mk [8] [0, 1, 2, 3, 4, 11, 12, 13, 14, 15, 17, 18] rfl rfl rfl (fun xv wS hS hV bq hb K hK => ?_)) ?_
    · obtain ⟨h8, _⟩ := hV
      have h8 : xv 8 = _ := h8
      simp only [putsOf, List.foldl_cons, List.foldl_nil, List.getD_cons_zero, List.getD_cons_succ, List.getD_nil, cond_true, cond_false, Act.put, List.setIfInBounds_toArray, List.set_cons_zero, List.set_cons_succ, h8] at hb
      clear h8
      subst hb
      rw [if_pos (by rfl)]
      go_wp2_with fail
      exact hK.out _ _ ⟨_, rfl, hS, rfl, AllP.same _⟩
    refine RelySteps.cons (RelyStep.mk [9] [0, 1, 2, 3, 4, 6, 11, 13, 14, 15, 17, 18] rfl rfl rfl (fun xv wS hS hV bq hb K hK => ?_)) ?_
    · obtain ⟨h9, _⟩ := hV
      have h9 : xv 9 = _ := h9
      simp only [putsOf, List.foldl_cons, List.foldl_nil, List.getD_cons_zero, List.getD_cons_succ, List.getD_nil, cond_true, cond_false, Act.put, List.setIfInBounds_toArray, List.set_cons_zero, List.set_cons_succ, h9] at hb
      clear h9
      subst hb
      rw [if_pos (by rfl)]
      (have c9 := HGI.out _ (HBL.out _ hS) 1 _ (by decide) rfl)
      go_wp2_with fail
      exact hK.out _ _ ⟨_, rfl, hS, rfl, AllP.same _⟩
    refine RelySteps.cons (RelyStep.mk [] [0, 1, 2, 3, 4, 5, 6, 7, 8, 9, 10, 13, 14, 15, 17, 18] rfl rfl rfl (fun xv wS hS hV bq hb K hK => ?_)) ?_
    · clear hV
      simp only [putsOf, List.foldl_cons, List.foldl_nil, List.getD_cons_zero, List.getD_cons_succ, List.getD_nil, cond_true, cond_false, Act.put, List.setIfInBounds_toArray, List.set_cons_zero, List.set_cons_succ] at hb
      subst hb
      rw [if_pos (by rfl)]
      go_wp2_with fail
      exact hK.out _ _ ⟨_, rfl, hS, rfl, AllP.same _⟩
    refine RelySteps.cons (RelyStep.mk [11, 10] [0, 1, 2, 3, 4, 5, 6, 7, 14, 15, 17, 18] rfl rfl rfl (fun xv wS hS hV bq hb K hK => ?_)) ?_
    · obtain ⟨h11, h10, _⟩ := hV
      have h11 : xv 11 = _ := h11
      have h10 : xv 10 = _ := h10
      simp only [putsOf, List.foldl_cons, List.foldl_nil, List.getD_cons_zero, List.getD_cons_succ, List.getD_nil, cond_true, cond_false, Act.put, List.setIfInBounds_toArray, List.set_cons_zero, List.set_cons_succ, h11, h10] at hb
      clear h11
      clear h10
      subst hb
      rw [if_pos (by rfl)]
      go_wp2_with fail
      exact hK.out _ _ ⟨_, rfl, hS, rfl, AllP.same _⟩
    refine RelySteps.cons (RelyStep.mk [12] [0, 1, 2, 3, 4, 5, 6, 7, 8, 15, 17, 18] rfl rfl rfl (fun xv wS hS hV bq hb K hK => ?_)) ?_
    · obtain ⟨h12, _⟩ := hV
      have h12 : xv 12 = _ := h12
      simp only [putsOf, List.foldl_cons, List.foldl_nil, List.getD_cons_zero, List.getD_cons_succ, List.getD_nil, cond_true, cond_false, Act.put, List.setIfInBounds_toArray, List.set_cons_zero, List.set_cons_succ, h12] at hb
      clear h12
      subst hb
      rw [if_pos (by rfl)]
      (have HZ := Lib.hid (HSN.out _ hS); have c9 := (HZ.out.cell (5 + ian)).trans (thC_reg x v ha8); have c8 := HZ.out.lt)
      go_wp2_with fail
      exact hK.out _ _ ⟨_, rfl, hS, rfl, AllP.same _⟩
    refine RelySteps.cons (RelyStep.mk [2, 4, 13] [0, 5, 6, 7, 8, 9, 15, 17, 18] rfl rfl rfl (fun xv wS hS hV bq hb K hK => ?_)) ?_
    · obtain ⟨h2, h4, h13, _⟩ := hV
      have h2 : xv 2 = _ := h2
      have h4 : xv 4 = _ := h4
      have h13 : xv 13 = _ := h13
      simp only [putsOf, List.foldl_cons, List.foldl_nil, List.getD_cons_zero, List.getD_cons_succ, List.getD_nil, cond_true, cond_false, Act.put, List.setIfInBounds_toArray, List.set_cons_zero, List.set_cons_succ, h2, h4, h13] at hb
      clear h2
      clear h4
      clear h13
      subst hb
      rw [if_pos (by rfl)]
      go_wp2_with fail
      exact hK.out _ _ ⟨_, rfl, hS, rfl, AllP.same _⟩
    refine RelySteps.cons (RelyStep.mk [0, 17] [1, 2, 3, 4, 5, 6, 7, 8, 9, 10, 11, 12, 13, 14, 18] rfl rfl rfl (fun xv wS hS hV bq hb K hK => ?_)) ?_
    · obtain ⟨h0, h17, _⟩ := hV
      have h0 : xv 0 = _ := h0
      simp only [putsOf, List.foldl_cons, List.foldl_nil, List.getD_cons_zero, List.getD_cons_succ, List.getD_nil, cond_true, cond_false, Act.put, List.setIfInBounds_toArray, List.set_cons_zero, List.set_cons_succ, h0] at hb
      clear h0
      generalize xv 17 = y17 at *
      subst hb
      rw [if_pos (by rfl)]
      have q7 : Lies wS (w.heap.size + 1) 27 thZ := h17
      have hk9 := kept_rowT (w := wS) (g := w.heap.size + 1) (thC x v)
      refine wp_store_row _ _ _ rfl (w.heap.size + 1) (thC x v) rfl rfl 27 thZ q7 infoTh rfl (HONE.out x) ?_
      exact hK.out _ _ ⟨undef, rfl, hS.trans (hk9.mono (T := twoRows (w.heap.size + 1) (w.heap.size + 1 + 1)) (fun _ _ e => .inl e)) (fun _ _ e => e), lies_row q7 _, AllP.of _ (fun j hj u h => rgV_mono (twF_kept4 (all_in (fun j => j != 15 && j != 17) rfl hj) (fun (e : w.heap.size + 1 + 1 = w.heap.size + 1) => by omega) hk9) h)⟩
    refine RelySteps.cons (RelyStep.mk [14, 18] [15] rfl rfl rfl (fun xv wS hS hV bq hb K hK => ?_)) ?_
    · obtain ⟨h14, h18, _⟩ := hV
      have h14 : xv 14 = _ := h14
      simp only [putsOf, List.foldl_cons, List.foldl_nil, List.getD_cons_zero, List.getD_cons_succ, List.getD_nil, cond_true, cond_false, Act.put, List.setIfInBounds_toArray, List.set_cons_zero, List.set_cons_succ, h14] at hb
      clear h14
      generalize xv 18 = y18 at *
      subst hb
      rw [if_pos (by rfl)]
      have q8 : Lies wS (w.heap.size + 1 + 1) 37 akZ := h18
      have hk9 := kept_rowT (w := wS) (g := w.heap.size + 1 + 1) (akC (⟨10, x.rg, 0, 0, x.tk, x.r ian⟩))
      refine wp_store_row _ _ _ rfl (w.heap.size + 1 + 1) (akC (⟨10, x.rg, 0, 0, x.tk, x.r ian⟩)) rfl rfl 37 akZ q8 infoAk2 rfl (akC_one _) ?_
      exact hK.out _ _ ⟨undef, rfl, hS.trans (hk9.mono (T := twoRows (w.heap.size + 1) (w.heap.size + 1 + 1)) (fun _ _ e => .inr e)) (fun _ _ e => e), lies_row q8 _, AllP.of _ (fun j hj u h => rgV_mono (twF_kept5 (all_in (fun j => j != 16 && j != 18) rfl hj) (fun (e : w.heap.size + 1 = w.heap.size + 1 + 1) => by omega) hk9) h)⟩
    exact RelySteps.nil
  case rE =>
    intro xv wE hS hV
    have h15 := hV 15 (by decide) (by decide)
    have h16 := hV 16 (by decide) (by decide)
    clear hV
    simp only [putsOf, List.foldl_cons, List.foldl_nil, List.getD_cons_zero, List.getD_cons_succ, List.getD_nil, cond_true, cond_false, Act.put, List.setIfInBounds_toArray, List.set_cons_zero, List.set_cons_succ]
    generalize xv 0 = y0 at *
    generalize xv 1 = y1 at *
    generalize xv 2 = y2 at *
    generalize xv 3 = y3 at *
    generalize xv 4 = y4 at *
    generalize xv 5 = y5 at *
    generalize xv 6 = y6 at *
    generalize xv 7 = y7 at *
    generalize xv 8 = y8 at *
    generalize xv 9 = y9 at *
    generalize xv 10 = y10 at *
    generalize xv 11 = y11 at *
    generalize xv 12 = y12 at *
    generalize xv 13 = y13 at *
    generalize xv 14 = y14 at *
    generalize xv 15 = y15 at *
    generalize xv 16 = y16 at *
    have Q4 : Hid (Lies wE (w.heap.size + 1) 27 (thC x v)) := h15
    have Q5 : Hid (Lies wE (w.heap.size + 1 + 1) 37 (akC (⟨10, x.rg, 0, 0, x.tk, x.r ian⟩))) := h16
    have HBZ := Lib.hid (HBL.out _ hS)
    clear hS HSN HBL
    replace Q5 : Hid (Lies wE (w.heap.size + 1 + 1) 37 (akC (reqA l x))) := by show Lies _ _ _ _; rw [HRE.out]; exact Q5.out
    clear HRE H4 H5 HG HB HONE
    generalize hzz : reqA l x = z at *
    have HZE := Lib.hid hzz
    clear hzz
    have z0 := (Q4.out.cell 0).trans (show _ = some (Value.int .i64 x.at_) from rfl)
    have z1 := (Q4.out.cell 1).trans (show _ = some (Value.int .i64 x.ph) from rfl)
    have z2 := (Q4.out.cell 2).trans (show _ = some (Value.int .i64 x.rg) from rfl)
    have z3 := (Q4.out.cell 3).trans (show _ = some (Value.int .i64 x.st) from rfl)
    have z4 := (Q4.out.cell 4).trans (show _ = some (Value.int .u64 (x.tk : Int)) from rfl)
    have z5 := (Q4.out.cell 5).trans (show _ = some (Value.int .u64 (x.r 0 : Int)) from rfl)
    have z6 := (Q4.out.cell 6).trans (show _ = some (Value.int .u64 (x.r 1 : Int)) from rfl)
    have z7 := (Q4.out.cell 7).trans (show _ = some (Value.int .u64 (x.r 2 : Int)) from rfl)
    have z8 := (Q4.out.cell 8).trans (show _ = some (Value.int .u64 (x.r 3 : Int)) from rfl)
    have z9 := (Q4.out.cell 9).trans (show _ = some (Value.int .u64 (x.r 4 : Int)) from rfl)
    have z10 := (Q4.out.cell 10).trans (show _ = some (Value.int .u64 (x.r 5 : Int)) from rfl)
    have z11 := (Q4.out.cell 11).trans (show _ = some (Value.int .u64 (x.r 6 : Int)) from rfl)
    have z12 := (Q4.out.cell 12).trans (show _ = some (Value.int .u64 (x.r 7 : Int)) from rfl)
    have z13 := (Q4.out.cell 13).trans (show _ = some (v) from rfl)
    have zl := Q4.out.lt
    have k0 := (Q5.out.cell 0).trans (show _ = some (.int .i64 z.kd) from rfl)
    have k1 := (Q5.out.cell 1).trans (show _ = some (.int .i64 z.rg) from rfl)
    have k2 := (Q5.out.cell 2).trans (show _ = some (.int .i64 z.md) from rfl)
    have k3 := (Q5.out.cell 3).trans (show _ = some (.int .i64 z.rd) from rfl)
    have k4 := (Q5.out.cell 4).trans (show _ = some (.int .u64 (z.tk : Int)) from rfl)
    have k5 := (Q5.out.cell 5).trans (show _ = some (.int .u64 (z.vl : Int)) from rfl)
    go_wp2
    exact bodyPost_ret (v := .tuple #[.agg (thC x v), .agg (akC z)]) (by simp [results, Try.results15, go_sem, z0, z1, z2, z3, z4, z5, z6, z7, z8, z9, z10, z11, z12, z13, k0, k1, k2, k3, k4, k5]) rfl ⟨by rw [HYE.out, HZE.out], HBZ.out⟩
set_option maxHeartbeats 8000000 in
set_option maxRecDepth 100000 in
theorem rfNextC (l : List In) (A : Option Addr) (c : Nat) (x : Th) (v : Value) (w : World) (h : InsAt w A c l) (hok : ∀ i ∈ l, inOk i) (hx : thOk x) (hv : v.oneCell' = true) (hr : thB l x = true) (h1 : x.ph = 2) :
    Calls Try.prog 15 #[.slice A l.length c, .agg (thC x v)] w fun e w' => e = .returned (.tuple #[.agg (thC (nxT l x) v), .agg (akC (reqA l (nxT l x)))]) ∧ Below w.heap.size w w' := by
  obtain ⟨hc1, hc2⟩ := seq_form h
  have hb3 : Below w.heap.size w (((w.alloc (.cells (thC x v) 27)).alloc (.cells thZ 27)).alloc (.cells akZ 37)) := (((Below.refl _ _).alloc (Nat.le_refl _) _).alloc (by simp) _).alloc (by simp; omega) _
  have l1 := ((Lies.made w 27 (thC x v)).alloc (.cells thZ 27)).alloc (.cells akZ 37)
  have l2 := (Lies.made (w.alloc (.cells (thC x v) 27)) 27 thZ).alloc (.cells akZ 37)
  have l3 := Lies.made ((w.alloc (.cells (thC x v) 27)).alloc (.cells thZ 27)) 37 akZ
  rw [show (w.alloc (.cells (thC x v) 27)).heap.size = w.heap.size + 1 by simp] at l2
  rw [show ((w.alloc (.cells (thC x v) 27)).alloc (.cells thZ 27)).heap.size = w.heap.size + 1 + 1 by simp] at l3
  have HB := Lib.hid hb3
  have HG := Lib.hid l1
  have H4 := Lib.hid l2
  have H5 := Lib.hid l3
  have HONE := Lib.hid (fun z => thC_one z hv)
  obtain ⟨hc, hin, hp⟩ := thB_parts hr
  clear hb3 l1 l2 l3
  obtain ⟨hst, hlt, hop, _, _⟩ := hdB_parts (phB_2 hp h1)
  obtain ⟨an, han⟩ : ∃ n : Nat, x.at_ = n := ⟨x.at_.toNat, by omega⟩
  obtain ⟨i, hi⟩ : ∃ i, l[an]? = some i := ⟨_, List.getElem?_eq_getElem (by omega)⟩
  have hgt := atT_get han hi
  have HM := List.mem_of_getElem? hi
  have HR := ((codeB_parts hc).2 i HM).1
  obtain ⟨b, off, rfl, hbl, hg⟩ := InsAt.at_ h hi
  have HGI := Lib.hid (fun (q : World) (hq : Below w.heap.size w q) (j : Nat) (u : Value) (hj : j < 6) (hu : (inF i)[j]? = some u) => cell_later (hg j u hj hu) hq)
  have hal : (an : Int) < (l.length : Int) := by omega
  have hat : x.at_ ≠ (l.length : Int) := by omega
  have HAN := Lib.hid han
  have e0 : (x.st != 0) = false := by rw [bne_eq_false_iff_eq]; exact hst
  have e1 : (x.ph == 1) = false := by rw [beq_eq_false_iff_ne]; omega
  have e2 : (x.ph == 2) = true := by rw [beq_iff_eq]; exact h1
  have HYE := Lib.hid (nxT_not (l := l) (x := x) (fun q => by omega))
  have hre := reqA_in hst hat hgt
  rw [if_neg (by omega), if_pos h1] at hre
  have HRE := Lib.hid hre
  clear hre hst hlt hop hgt hi HM HR hg hbl hat han h1 hr hc hin hp h hok hx hv
  obtain ⟨iop, ia, ib, ic, id, ik⟩ := i
  go_enter Try.func15, Try.ntmps15
  go_upto_region 1 with (fail)
  generalize (((w.alloc (.cells (thC x v) 27)).alloc (.cells thZ 27)).alloc (.cells akZ 37)) = w1 at *
  have c0 := (HG.out.cell 0).trans (show _ = some (Value.int .i64 x.at_) from rfl)
  have c1 := (HG.out.cell 1).trans (show _ = some (Value.int .i64 x.ph) from rfl)
  have c2 := (HG.out.cell 2).trans (show _ = some (Value.int .i64 x.rg) from rfl)
  have c3 := (HG.out.cell 3).trans (show _ = some (Value.int .i64 x.st) from rfl)
  have c4 := (HG.out.cell 4).trans (show _ = some (Value.int .u64 (x.tk : Int)) from rfl)
  have c5 := (HG.out.cell 5).trans (show _ = some (Value.int .u64 (x.r 0 : Int)) from rfl)
  have c6 := (HG.out.cell 6).trans (show _ = some (Value.int .u64 (x.r 1 : Int)) from rfl)
  have c7 := (HG.out.cell 7).trans (show _ = some (Value.int .u64 (x.r 2 : Int)) from rfl)
  have c8 := (HG.out.cell 8).trans (show _ = some (Value.int .u64 (x.r 3 : Int)) from rfl)
  have c9 := (HG.out.cell 9).trans (show _ = some (Value.int .u64 (x.r 4 : Int)) from rfl)
  have c10 := (HG.out.cell 10).trans (show _ = some (Value.int .u64 (x.r 5 : Int)) from rfl)
  have c11 := (HG.out.cell 11).trans (show _ = some (Value.int .u64 (x.r 6 : Int)) from rfl)
  have c12 := (HG.out.cell 12).trans (show _ = some (Value.int .u64 (x.r 7 : Int)) from rfl)
  have c13 := (HG.out.cell 13).trans (show _ = some (v) from rfl)
  have cl := HG.out.lt
  go_wp2_with fail
  generalize hw9 : w1 = w9 at *
  clear hw9
  clear c0 c1 c2 c3 c4 c5 c6 c7 c8 c9 c10 c11 c12 c13 cl
  have HSN := Lib.hid (fun (q : World) (hq : Kept (twoRows (w.heap.size + 1) (w.heap.size + 1 + 1)) w9 q) => HG.out.kept hq (fun (e : w.heap.size = _ ∨ w.heap.size = _) => by omega))
  have HBL := Lib.hid (fun (q : World) (hq : Kept (twoRows (w.heap.size + 1) (w.heap.size + 1 + 1)) w9 q) => HB.out.trans (hq.below HB.out.size (fun k hk (e : k = _ ∨ k = _) => by omega)))
  refine wp_region_rely (fun q => Kept (twoRows (w.heap.size + 1) (w.heap.size + 1 + 1)) w9 q) (rgV [some (.agg (thC x v)), some (.pointer (some ⟨w.heap.size, 2, none⟩)), some (.int .i64 (x.rg)), some (.pointer (some ⟨w.heap.size, 4, none⟩)), some (.int .u64 (x.tk : Int)), some (.slice (some ⟨b, off, none⟩) l.length c), some (.pointer (some ⟨w.heap.size, 0, none⟩)), some (.int .i64 ((an : Int))), some (.pointer (some ⟨b, off + an * 6, none⟩)), some (.pointer (some ⟨b, off + an * 6 + 5, none⟩)), some (.int .u64 (ik : Int)), some (.int .i64 (wrap64 (ik : Int))), some (.agg (akC ⟨11, x.rg, 0, wrap64 (ik : Int), x.tk, 0⟩)), none, none, none, none] (twF 13 14 15 16 (w.heap.size + 1) (w.heap.size + 1 + 1) 27 37 (thC x v) (akC (⟨11, x.rg, 0, wrap64 (ik : Int), x.tk, 0⟩)) thZ akZ)) [some 34, some 35, some 36, some 37, some 38, some 39, some 40, some 41, some 42, some 43, some 44, some 45, some 46, none, none] [[], [], [1], [], [3], [], [], [6], [5, 7], [8], [9], [10], [2, 4, 11], [0, 15], [12, 16]] [[], [], [1], [], [3], [], [], [6], [5, 6, 7], [5, 7, 8], [8, 9], [9, 10], [1, 2, 3, 4, 10, 11], [0, 15], [0, 1, 2, 3, 4, 5, 6, 7, 8, 9, 10, 11, 12, 15, 16]] [[1, 2, 3, 4, 5, 6, 7, 8, 9, 10, 11, 12, 15, 16], [0, 3, 4, 5, 6, 7, 8, 9, 10, 11, 12, 13, 15, 16], [0, 3, 4, 5, 6, 7, 8, 9, 10, 11, 13, 15, 16], [0, 1, 2, 5, 6, 7, 8, 9, 10, 11, 12, 13, 15, 16], [0, 1, 2, 5, 6, 7, 8, 9, 10, 11, 13, 15, 16], [0, 1, 2, 3, 4, 6, 7, 9, 10, 11, 12, 13, 15, 16], [0, 1, 2, 3, 4, 5, 8, 9, 10, 11, 12, 13, 15, 16], [0, 1, 2, 3, 4, 5, 9, 10, 11, 12, 13, 15, 16], [0, 1, 2, 3, 4, 10, 11, 12, 13, 15, 16], [0, 1, 2, 3, 4, 11, 12, 13, 15, 16], [0, 1, 2, 3, 4, 6, 12, 13, 15, 16], [0, 1, 2, 3, 4, 5, 6, 7, 13, 15, 16], [0, 5, 6, 7, 8, 13, 15, 16], [1, 2, 3, 4, 5, 6, 7, 8, 9, 10, 11, 12, 16], [13]] [0, 1, 2, 3, 4, 5, 6, 7, 8, 9, 10, 11, 12, 13, 14] 17 (by kernel_rfl) (by kernel_rfl) (by kernel_rfl) (by kernel_rfl) ?rS ?rI ?rT ?rE
  case rS => exact Kept.drew _ _
  case rI =>
    intro j h1 h2
    have h1 : j < 17 := h1
    have h2 : 15 ≤ j := h2
    have hj : j = 15 ∨ j = 16 := by omega
    rcases hj with rfl | rfl
    · exact H4.out.drewN 1
    · exact H5.out.drewN 1
  case rT =>
    refine RelySteps.cons (RelyStep.mk [] [1, 2, 3, 4, 5, 6, 7, 8, 9, 10, 11, 12, 15, 16] rfl rfl rfl (fun xv wS hS hV bq hb K hK => ?_)) ?_
    · clear hV
      simp only [putsOf, List.foldl_cons, List.foldl_nil, List.getD_cons_zero, List.getD_cons_succ, List.getD_nil, cond_true, cond_false, Act.put, List.setIfInBounds_toArray, List.set_cons_zero, List.set_cons_succ] at hb
      subst hb
      rw [if_pos (by rfl)]
      (have HZ := Lib.hid (HSN.out _ hS); have c0 := (HZ.out.cell 0).trans (show _ = some (Value.int .i64 x.at_) from rfl); have c1 := (HZ.out.cell 1).trans (show _ = some (Value.int .i64 x.ph) from rfl); have c2 := (HZ.out.cell 2).trans (show _ = some (Value.int .i64 x.rg) from rfl); have c3 := (HZ.out.cell 3).trans (show _ = some (Value.int .i64 x.st) from rfl); have c4 := (HZ.out.cell 4).trans (show _ = some (Value.int .u64 (x.tk : Int)) from rfl); have c5 := (HZ.out.cell 5).trans (show _ = some (Value.int .u64 (x.r 0 : Int)) from rfl); have c6 := (HZ.out.cell 6).trans (show _ = some (Value.int .u64 (x.r 1 : Int)) from rfl); have c7 := (HZ.out.cell 7).trans (show _ = some (Value.int .u64 (x.r 2 : Int)) from rfl); have c8 := (HZ.out.cell 8).trans (show _ = some (Value.int .u64 (x.r 3 : Int)) from rfl); have c9 := (HZ.out.cell 9).trans (show _ = some (Value.int .u64 (x.r 4 : Int)) from rfl); have c10 := (HZ.out.cell 10).trans (show _ = some (Value.int .u64 (x.r 5 : Int)) from rfl); have c11 := (HZ.out.cell 11).trans (show _ = some (Value.int .u64 (x.r 6 : Int)) from rfl); have c12 := (HZ.out.cell 12).trans (show _ = some (Value.int .u64 (x.r 7 : Int)) from rfl); have c13 := (HZ.out.cell 13).trans (show _ = some (v) from rfl); have cl := HZ.out.lt)
      go_wp2_with fail
      exact hK.out _ _ ⟨_, rfl, hS, rfl, AllP.same _⟩
    refine RelySteps.cons (RelyStep.mk [] [0, 3, 4, 5, 6, 7, 8, 9, 10, 11, 12, 13, 15, 16] rfl rfl rfl (fun xv wS hS hV bq hb K hK => ?_)) ?_
    · clear hV
      simp only [putsOf, List.foldl_cons, List.foldl_nil, List.getD_cons_zero, List.getD_cons_succ, List.getD_nil, cond_true, cond_false, Act.put, List.setIfInBounds_toArray, List.set_cons_zero, List.set_cons_succ] at hb
      subst hb
      rw [if_pos (by rfl)]
      go_wp2_with fail
      exact hK.out _ _ ⟨_, rfl, hS, rfl, AllP.same _⟩
    refine RelySteps.cons (RelyStep.mk [1] [0, 3, 4, 5, 6, 7, 8, 9, 10, 11, 13, 15, 16] rfl rfl rfl (fun xv wS hS hV bq hb K hK => ?_)) ?_
    · obtain ⟨h1, _⟩ := hV
      have h1 : xv 1 = _ := h1
      simp only [putsOf, List.foldl_cons, List.foldl_nil, List.getD_cons_zero, List.getD_cons_succ, List.getD_nil, cond_true, cond_false, Act.put, List.setIfInBounds_toArray, List.set_cons_zero, List.set_cons_succ, h1] at hb
      clear h1
      subst hb
      rw [if_pos (by rfl)]
      (have HZ := Lib.hid (HSN.out _ hS); have c9 := (HZ.out.cell 2).trans (show _ = some _ from rfl); have c8 := HZ.out.lt)
      go_wp2_with fail
      exact hK.out _ _ ⟨_, rfl, hS, rfl, AllP.same _⟩
    refine RelySteps.cons (RelyStep.mk [] [0, 1, 2, 5, 6, 7, 8, 9, 10, 11, 12, 13, 15, 16] rfl rfl rfl (fun xv wS hS hV bq hb K hK => ?_)) ?_
    · clear hV
      simp only [putsOf, List.foldl_cons, List.foldl_nil, List.getD_cons_zero, List.getD_cons_succ, List.getD_nil, cond_true, cond_false, Act.put, List.setIfInBounds_toArray, List.set_cons_zero, List.set_cons_succ] at hb
      subst hb
      rw [if_pos (by rfl)]
      go_wp2_with fail
      exact hK.out _ _ ⟨_, rfl, hS, rfl, AllP.same _⟩
    refine RelySteps.cons (RelyStep.mk [3] [0, 1, 2, 5, 6, 7, 8, 9, 10, 11, 13, 15, 16] rfl rfl rfl (fun xv wS hS hV bq hb K hK => ?_)) ?_
    · obtain ⟨h3, _⟩ := hV
      have h3 : xv 3 = _ := h3
      simp only [putsOf, List.foldl_cons, List.foldl_nil, List.getD_cons_zero, List.getD_cons_succ, List.getD_nil, cond_true, cond_false, Act.put, List.setIfInBounds_toArray, List.set_cons_zero, List.set_cons_succ, h3] at hb
      clear h3
      subst hb
      rw [if_pos (by rfl)]
      (have HZ := Lib.hid (HSN.out _ hS); have c9 := (HZ.out.cell 4).trans (show _ = some _ from rfl); have c8 := HZ.out.lt)
      go_wp2_with fail
      exact hK.out _ _ ⟨_, rfl, hS, rfl, AllP.same _⟩
    refine RelySteps.cons (RelyStep.mk [] [0, 1, 2, 3, 4, 6, 7, 9, 10, 11, 12, 13, 15, 16] rfl rfl rfl (fun xv wS hS hV bq hb K hK => ?_)) ?_
    · clear hV
      simp only [putsOf, List.foldl_cons, List.foldl_nil, List.getD_cons_zero, List.getD_cons_succ, List.getD_nil, cond_true, cond_false, Act.put, List.setIfInBounds_toArray, List.set_cons_zero, List.set_cons_succ] at hb
      subst hb
      rw [if_pos (by rfl)]
      go_wp2_with fail
      exact hK.out _ _ ⟨_, rfl, hS, rfl, AllP.same _⟩
    refine RelySteps.cons (RelyStep.mk [] [0, 1, 2, 3, 4, 5, 8, 9, 10, 11, 12, 13, 15, 16] rfl rfl rfl (fun xv wS hS hV bq hb K hK => ?_)) ?_
    · clear hV
      simp only [putsOf, List.foldl_cons, List.foldl_nil, List.getD_cons_zero, List.getD_cons_succ, List.getD_nil, cond_true, cond_false, Act.put, List.setIfInBounds_toArray, List.set_cons_zero, List.set_cons_succ] at hb
      subst hb
      rw [if_pos (by rfl)]
      go_wp2_with fail
      exact hK.out _ _ ⟨_, rfl, hS, rfl, AllP.same _⟩
    refine RelySteps.cons (RelyStep.mk [6] [0, 1, 2, 3, 4, 5, 9, 10, 11, 12, 13, 15, 16] rfl rfl rfl (fun xv wS hS hV bq hb K hK => ?_)) ?_
    · obtain ⟨h6, _⟩ := hV
      have h6 : xv 6 = _ := h6
      simp only [putsOf, List.foldl_cons, List.foldl_nil, List.getD_cons_zero, List.getD_cons_succ, List.getD_nil, cond_true, cond_false, Act.put, List.setIfInBounds_toArray, List.set_cons_zero, List.set_cons_succ, h6] at hb
      clear h6
      subst hb
      rw [if_pos (by rfl)]
      (have HZ := Lib.hid (HSN.out _ hS); have c9 := (HZ.out.cell 0).trans (show _ = some _ from rfl); have c8 := HZ.out.lt; replace c9 : wS.cell? ⟨w.heap.size, 0, none⟩ = some (Value.int .i64 x.at_) := c9; rw [HAN.out] at c9)
      go_wp2_with fail
      exact hK.out _ _ ⟨_, rfl, hS, rfl, AllP.same _⟩
    refine RelySteps.cons (RelyStep.mk [5, 7] [0, 1, 2, 3, 4, 10, 11, 12, 13, 15, 16] rfl rfl rfl (fun xv wS hS hV bq hb K hK => ?_)) ?_
    · obtain ⟨h5, h7, _⟩ := hV
      have h5 : xv 5 = _ := h5
      have h7 : xv 7 = _ := h7
      simp only [putsOf, List.foldl_cons, List.foldl_nil, List.getD_cons_zero, List.getD_cons_succ, List.getD_nil, cond_true, cond_false, Act.put, List.setIfInBounds_toArray, List.set_cons_zero, List.set_cons_succ, h5, h7] at hb
      clear h5
      clear h7
      subst hb
      rw [if_pos (by rfl)]
      go_wp2_with fail
      exact hK.out _ _ ⟨_, rfl, hS, rfl, AllP.same _⟩
    refine RelySteps.cons (RelyStep.mk [8] [0, 1, 2, 3, 4, 11, 12, 13, 15, 16] rfl rfl rfl (fun xv wS hS hV bq hb K hK => ?_)) ?_
    · obtain ⟨h8, _⟩ := hV
      have h8 : xv 8 = _ := h8
      simp only [putsOf, List.foldl_cons, List.foldl_nil, List.getD_cons_zero, List.getD_cons_succ, List.getD_nil, cond_true, cond_false, Act.put, List.setIfInBounds_toArray, List.set_cons_zero, List.set_cons_succ, h8] at hb
      clear h8
      subst hb
      rw [if_pos (by rfl)]
      go_wp2_with fail
      exact hK.out _ _ ⟨_, rfl, hS, rfl, AllP.same _⟩
    refine RelySteps.cons (RelyStep.mk [9] [0, 1, 2, 3, 4, 6, 12, 13, 15, 16] rfl rfl rfl (fun xv wS hS hV bq hb K hK => ?_)) ?_
    · obtain ⟨h9, _⟩ := hV
      have h9 : xv 9 = _ := h9
      simp only [putsOf, List.foldl_cons, List.foldl_nil, List.getD_cons_zero, List.getD_cons_succ, List.getD_nil, cond_true, cond_false, Act.put, List.setIfInBounds_toArray, List.set_cons_zero, List.set_cons_succ, h9] at hb
      clear h9
      subst hb
      rw [if_pos (by rfl)]
      (have c9 := HGI.out _ (HBL.out _ hS) 5 _ (by decide) rfl)
      go_wp2_with fail
      exact hK.out _ _ ⟨_, rfl, hS, rfl, AllP.same _⟩
    refine RelySteps.cons (RelyStep.mk [10] [0, 1, 2, 3, 4, 5, 6, 7, 13, 15, 16] rfl rfl rfl (fun xv wS hS hV bq hb K hK => ?_)) ?_
    · obtain ⟨h10, _⟩ := hV
      have h10 : xv 10 = _ := h10
      simp only [putsOf, List.foldl_cons, List.foldl_nil, List.getD_cons_zero, List.getD_cons_succ, List.getD_nil, cond_true, cond_false, Act.put, List.setIfInBounds_toArray, List.set_cons_zero, List.set_cons_succ, h10] at hb
      clear h10
      subst hb
      rw [if_pos (by rfl)]
      go_wp2_with fail
      exact hK.out _ _ ⟨_, rfl, hS, rfl, AllP.same _⟩
    refine RelySteps.cons (RelyStep.mk [2, 4, 11] [0, 5, 6, 7, 8, 13, 15, 16] rfl rfl rfl (fun xv wS hS hV bq hb K hK => ?_)) ?_
    · obtain ⟨h2, h4, h11, _⟩ := hV
      have h2 : xv 2 = _ := h2
      have h4 : xv 4 = _ := h4
      have h11 : xv 11 = _ := h11
      simp only [putsOf, List.foldl_cons, List.foldl_nil, List.getD_cons_zero, List.getD_cons_succ, List.getD_nil, cond_true, cond_false, Act.put, List.setIfInBounds_toArray, List.set_cons_zero, List.set_cons_succ, h2, h4, h11] at hb
      clear h2
      clear h4
      clear h11
      subst hb
      rw [if_pos (by rfl)]
      go_wp2_with fail
      exact hK.out _ _ ⟨_, rfl, hS, rfl, AllP.same _⟩
    refine RelySteps.cons (RelyStep.mk [0, 15] [1, 2, 3, 4, 5, 6, 7, 8, 9, 10, 11, 12, 16] rfl rfl rfl (fun xv wS hS hV bq hb K hK => ?_)) ?_
    · obtain ⟨h0, h15, _⟩ := hV
      have h0 : xv 0 = _ := h0
      simp only [putsOf, List.foldl_cons, List.foldl_nil, List.getD_cons_zero, List.getD_cons_succ, List.getD_nil, cond_true, cond_false, Act.put, List.setIfInBounds_toArray, List.set_cons_zero, List.set_cons_succ, h0] at hb
      clear h0
      generalize xv 15 = y15 at *
      subst hb
      rw [if_pos (by rfl)]
      have q7 : Lies wS (w.heap.size + 1) 27 thZ := h15
      have hk9 := kept_rowT (w := wS) (g := w.heap.size + 1) (thC x v)
      refine wp_store_row _ _ _ rfl (w.heap.size + 1) (thC x v) rfl rfl 27 thZ q7 infoTh rfl (HONE.out x) ?_
      exact hK.out _ _ ⟨undef, rfl, hS.trans (hk9.mono (T := twoRows (w.heap.size + 1) (w.heap.size + 1 + 1)) (fun _ _ e => .inl e)) (fun _ _ e => e), lies_row q7 _, AllP.of _ (fun j hj u h => rgV_mono (twF_kept4 (all_in (fun j => j != 13 && j != 15) rfl hj) (fun (e : w.heap.size + 1 + 1 = w.heap.size + 1) => by omega) hk9) h)⟩
    refine RelySteps.cons (RelyStep.mk [12, 16] [13] rfl rfl rfl (fun xv wS hS hV bq hb K hK => ?_)) ?_
    · obtain ⟨h12, h16, _⟩ := hV
      have h12 : xv 12 = _ := h12
      simp only [putsOf, List.foldl_cons, List.foldl_nil, List.getD_cons_zero, List.getD_cons_succ, List.getD_nil, cond_true, cond_false, Act.put, List.setIfInBounds_toArray, List.set_cons_zero, List.set_cons_succ, h12] at hb
      clear h12
      generalize xv 16 = y16 at *
      subst hb
      rw [if_pos (by rfl)]
      have q8 : Lies wS (w.heap.size + 1 + 1) 37 akZ := h16
      have hk9 := kept_rowT (w := wS) (g := w.heap.size + 1 + 1) (akC (⟨11, x.rg, 0, wrap64 (ik : Int), x.tk, 0⟩))
      refine wp_store_row _ _ _ rfl (w.heap.size + 1 + 1) (akC (⟨11, x.rg, 0, wrap64 (ik : Int), x.tk, 0⟩)) rfl rfl 37 akZ q8 infoAk2 rfl (akC_one _) ?_
      exact hK.out _ _ ⟨undef, rfl, hS.trans (hk9.mono (T := twoRows (w.heap.size + 1) (w.heap.size + 1 + 1)) (fun _ _ e => .inr e)) (fun _ _ e => e), lies_row q8 _, AllP.of _ (fun j hj u h => rgV_mono (twF_kept5 (all_in (fun j => j != 14 && j != 16) rfl hj) (fun (e : w.heap.size + 1 = w.heap.size + 1 + 1) => by omega) hk9) h)⟩
    exact RelySteps.nil
  case rE =>
    intro xv wE hS hV
    have h13 := hV 13 (by decide) (by decide)
    have h14 := hV 14 (by decide) (by decide)
    clear hV
    simp only [putsOf, List.foldl_cons, List.foldl_nil, List.getD_cons_zero, List.getD_cons_succ, List.getD_nil, cond_true, cond_false, Act.put, List.setIfInBounds_toArray, List.set_cons_zero, List.set_cons_succ]
    generalize xv 0 = y0 at *
    generalize xv 1 = y1 at *
    generalize xv 2 = y2 at *
    generalize xv 3 = y3 at *
    generalize xv 4 = y4 at *
    generalize xv 5 = y5 at *
    generalize xv 6 = y6 at *
    generalize xv 7 = y7 at *
    generalize xv 8 = y8 at *
    generalize xv 9 = y9 at *
    generalize xv 10 = y10 at *
    generalize xv 11 = y11 at *
    generalize xv 12 = y12 at *
    generalize xv 13 = y13 at *
    generalize xv 14 = y14 at *
    have Q4 : Hid (Lies wE (w.heap.size + 1) 27 (thC x v)) := h13
    have Q5 : Hid (Lies wE (w.heap.size + 1 + 1) 37 (akC (⟨11, x.rg, 0, wrap64 (ik : Int), x.tk, 0⟩))) := h14
    have HBZ := Lib.hid (HBL.out _ hS)
    clear hS HSN HBL
    replace Q5 : Hid (Lies wE (w.heap.size + 1 + 1) 37 (akC (reqA l x))) := by show Lies _ _ _ _; rw [HRE.out]; exact Q5.out
    clear HRE H4 H5 HG HB HONE
    generalize hzz : reqA l x = z at *
    have HZE := Lib.hid hzz
    clear hzz
    have z0 := (Q4.out.cell 0).trans (show _ = some (Value.int .i64 x.at_) from rfl)
    have z1 := (Q4.out.cell 1).trans (show _ = some (Value.int .i64 x.ph) from rfl)
    have z2 := (Q4.out.cell 2).trans (show _ = some (Value.int .i64 x.rg) from rfl)
    have z3 := (Q4.out.cell 3).trans (show _ = some (Value.int .i64 x.st) from rfl)
    have z4 := (Q4.out.cell 4).trans (show _ = some (Value.int .u64 (x.tk : Int)) from rfl)
    have z5 := (Q4.out.cell 5).trans (show _ = some (Value.int .u64 (x.r 0 : Int)) from rfl)
    have z6 := (Q4.out.cell 6).trans (show _ = some (Value.int .u64 (x.r 1 : Int)) from rfl)
    have z7 := (Q4.out.cell 7).trans (show _ = some (Value.int .u64 (x.r 2 : Int)) from rfl)
    have z8 := (Q4.out.cell 8).trans (show _ = some (Value.int .u64 (x.r 3 : Int)) from rfl)
    have z9 := (Q4.out.cell 9).trans (show _ = some (Value.int .u64 (x.r 4 : Int)) from rfl)
    have z10 := (Q4.out.cell 10).trans (show _ = some (Value.int .u64 (x.r 5 : Int)) from rfl)
    have z11 := (Q4.out.cell 11).trans (show _ = some (Value.int .u64 (x.r 6 : Int)) from rfl)
    have z12 := (Q4.out.cell 12).trans (show _ = some (Value.int .u64 (x.r 7 : Int)) from rfl)
    have z13 := (Q4.out.cell 13).trans (show _ = some (v) from rfl)
    have zl := Q4.out.lt
    have k0 := (Q5.out.cell 0).trans (show _ = some (.int .i64 z.kd) from rfl)
    have k1 := (Q5.out.cell 1).trans (show _ = some (.int .i64 z.rg) from rfl)
    have k2 := (Q5.out.cell 2).trans (show _ = some (.int .i64 z.md) from rfl)
    have k3 := (Q5.out.cell 3).trans (show _ = some (.int .i64 z.rd) from rfl)
    have k4 := (Q5.out.cell 4).trans (show _ = some (.int .u64 (z.tk : Int)) from rfl)
    have k5 := (Q5.out.cell 5).trans (show _ = some (.int .u64 (z.vl : Int)) from rfl)
    go_wp2
    exact bodyPost_ret (v := .tuple #[.agg (thC x v), .agg (akC z)]) (by simp [results, Try.results15, go_sem, z0, z1, z2, z3, z4, z5, z6, z7, z8, z9, z10, z11, z12, z13, k0, k1, k2, k3, k4, k5]) rfl ⟨by rw [HYE.out, HZE.out], HBZ.out⟩
end Go.Proofs.Ytiegmpjoiekekaa
