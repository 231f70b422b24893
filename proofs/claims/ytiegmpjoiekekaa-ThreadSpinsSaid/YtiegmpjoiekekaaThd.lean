/-
  What an event makes of a thread (layer 16): thread.Do: what is refused.
-/
import Derived.Test.YtiegmpjoiekekaaThno
namespace Go.Proofs.Ytiegmpjoiekekaa
open Go.RowKit
set_option linter.unusedVariables false
set_option linter.unusedSimpArgs false
/-- How a thread stands behind an event that it waits for. -/
def behT (i : In) (y : Th) (e : Ev) (v : Nat) : Th :=
  if e.kd = 1 then { y with ph := 1, rg := e.rg, tk := e.tk }
  else if e.kd = 3 then { y with ph := 2, rg := e.rg, tk := e.tk }
  else if e.kd = 14 then { y with st := 1 }
  else if e.kd = 15 then { y with st := 2 }
  else if e.kd = 12 then endT (seeT y e.vl)
  else endT (regT i y e v)
theorem regT_sn (i : In) (y : Th) (e : Ev) (v : Nat) : (regT i y e v).sn = y.sn := by
  unfold regT
  repeat' split
  all_goals rfl
theorem rgV_low {vs : List (Option Value)} {F : Nat → World → Prop} {j : Nat} {u : Value} {q q' : World} (hj : (vs.getD j none).isSome = true) (h : rgV vs F j u q) : rgV vs F j u q' := by
  unfold rgV at h ⊢
  cases hv : vs.getD j none with
  | some v => rw [hv] at h; exact h
  | none => rw [hv] at hj; cases hj
theorem right_ab {i : In} (h : rightB i = true) : (0 ≤ i.a ∧ i.a ≤ 7) ∧ (0 ≤ i.b ∧ i.b ≤ 7) := by
  have h1 := h
  unfold rightB at h
  simp only [Bool.and_eq_true] at h
  obtain ⟨h0, h1, h2, h3, h4, h5⟩ := h
  have g : (gL i.op).1 ≤ 7 ∧ (gL i.op).2.1 ≤ 7 ∧ (gL i.op).2.2.1 ≤ 7 ∧ (gL i.op).2.2.2 ≤ 7 := by
    rcases op_lit h0 with e | e | e | e | e | e | e | e | e | e | e | e | e | e | e | e | e | e | e | e | e | e | e | e | e
    all_goals rw [e]; decide
  unfold wB at h1 h2
  simp only [Bool.and_eq_true, decide_eq_true_eq] at h1 h2
  omega
theorem fit_none (e : Ev) : fitB (noneA 0) e = false := by
  simp [fitB, noneA, mvB]
theorem fit_halt {e : Ev} (h : fitB (noneA 8) e = true) : e.kd = 14 := by
  by_cases h14 : e.kd = 14
  · exact h14
  · simp [fitB, noneA, mvB, h14] at h
/-- What is met stands at an instruction, but for an end. -/
theorem fit_at {l : List In} {y : Th} {e : Ev} (h : fitB (reqA l y) e = true) (h14 : e.kd ≠ 14) : y.st = 0 ∧ y.at_ ≠ (l.length : Int) := by
  by_cases hs : y.st = 0
  · refine ⟨hs, fun ha => ?_⟩
    rw [reqA_end hs ha] at h
    exact h14 (fit_halt h)
  · rw [reqA_st hs, fit_none] at h; cases h
set_option maxHeartbeats 8000000 in
set_option maxRecDepth 100000 in
theorem do16bad (l : List In) (A : Option Addr) (c : Nat) (x : Th) (S : Option Addr) (cs : Nat) (e : Ev) (v : Nat) (w : World) (h : InsAt w A c l) (hr : thB l x = false) :
    Calls Try.prog 18 #[.slice A l.length c, .agg (thC x (.slice S x.sn.length cs)), .agg (evC e), .int .u64 (v : Int)] w fun q w' => q = .returned (.tuple #[.agg thZ, .int .i64 1]) ∧ Below w.heap.size w w' := by
  obtain ⟨hc1, hc2⟩ := seq_form h
  have hb3 : Below w.heap.size w (((w.alloc (.cells (thC x (.slice S x.sn.length cs)) 27)).alloc (.cells (evC e) 42)).alloc (.cells thZ 27)) := (((Below.refl _ _).alloc (Nat.le_refl _) _).alloc (by simp) _).alloc (by simp; omega) _
  have l1 := ((Lies.made w 27 (thC x (.slice S x.sn.length cs))).alloc (.cells (evC e) 42)).alloc (.cells thZ 27)
  have l2 := (Lies.made (w.alloc (.cells (thC x (.slice S x.sn.length cs)) 27)) 42 (evC e)).alloc (.cells thZ 27)
  have l3 := Lies.made ((w.alloc (.cells (thC x (.slice S x.sn.length cs)) 27)).alloc (.cells (evC e) 42)) 27 thZ
  rw [show (w.alloc (.cells (thC x (.slice S x.sn.length cs)) 27)).heap.size = w.heap.size + 1 by simp] at l2
  rw [show ((w.alloc (.cells (thC x (.slice S x.sn.length cs)) 27)).alloc (.cells (evC e) 42)).heap.size = w.heap.size + 1 + 1 by simp] at l3
  have HB := Lib.hid hb3
  have HG := Lib.hid l1
  have HE := Lib.hid l2
  have H4 := Lib.hid l3
  have HH := Lib.hid (fun (q : World) (hq : Below w.heap.size w q) => h.later hq)
  clear hb3 l1 l2 l3
  have HNX := Lib.hid (fun v q hq => next16no l A c x v q hq hr)
  clear h hr
  go_enter Try.func18, Try.ntmps18
  go_upto_region 1 with (fail)
  generalize (((w.alloc (.cells (thC x (.slice S x.sn.length cs)) 27)).alloc (.cells (evC e) 42)).alloc (.cells thZ 27)) = w1 at *
  have c0 := (HG.out.cell 0).trans (show _ = some (Value.int .i64 x.at_) from rfl)
  have c1 := (HG.out.cell 1).trans (show _ = some (Value.int .i64 x.ph) from rfl)
  have c2 := (HG.out.cell 2).trans (show _ = some (Value.int .i64 x.rg) from rfl)
  have c3 := (HG.out.cell 3).trans (show _ = some (Value.int .i64 x.st) from rfl)
  have c4 := (HG.out.cell 4).trans (show _ = some (Value.int .u64 (x.tk : Int)) from rfl)
  have c5 := (HG.out.cell 5).trans (show _ = some (Value.int .u64 (x.r 0 : Int)) from rfl)
  have c6 := (HG.out.cell 6).trans (show _ = some (Value.int .u64 (x.r 1 : Int)) from rfl)
  have c7 := (HG.out.cell 7).trans (show _ = some (Value.int .u64 (x.r 2 : Int)) from rfl)
  have c8 := (HG.out.cell 8).trans (show _ = some (Value.int .u64 (x.r 3 : Int)) from rfl)
  have c9 := (HG.out.cell 9).trans (show _ = some (Value.int .u64 (x.r 4 : Int)) from rfl)
  have c10 := (HG.out.cell 10).trans (show _ = some (Value.int .u64 (x.r 5 : Int)) from rfl)
  have c11 := (HG.out.cell 11).trans (show _ = some (Value.int .u64 (x.r 6 : Int)) from rfl)
  have c12 := (HG.out.cell 12).trans (show _ = some (Value.int .u64 (x.r 7 : Int)) from rfl)
  have c13 := (HG.out.cell 13).trans (show _ = some ((.slice S x.sn.length cs)) from rfl)
  have cl := HG.out.lt
  go_wp2_with fail
  refine (HNX.out _ _ (HH.out _ HB.out)).mono ?_
  rintro e1 w2 ⟨rfl, hbm⟩
  have HN2 : Hid (w.heap.size + 1 + 1 < w2.heap.size) := Nat.lt_of_lt_of_le H4.out.lt hbm.size
  replace HG := Lib.hid (HG.out.below hbm HG.out.lt)
  replace HE := Lib.hid (HE.out.below hbm HE.out.lt)
  replace H4 := Lib.hid (H4.out.below hbm H4.out.lt)
  replace HB := Lib.hid (HB.out.trans (hbm.mono HB.out.size))
  clear hbm HNX
  clear c0 c1 c2 c3 c4 c5 c6 c7 c8 c9 c10 c11 c12 c13 cl
  have hba := (Below.refl w2.heap.size w2).alloc (Nat.le_refl _) (.cells akZ 31)
  have H5 := Lib.hid (Lies.made w2 31 akZ)
  replace HG := Lib.hid (HG.out.below hba HG.out.lt)
  replace HE := Lib.hid (HE.out.below hba HE.out.lt)
  replace H4 := Lib.hid (H4.out.below hba H4.out.lt)
  replace HB := Lib.hid (HB.out.trans (hba.mono HB.out.size))
  have hn5 : w.heap.size + 1 + 1 < w2.heap.size := HN2.out
  clear hba HN2
  generalize hw3 : w2.alloc (.cells akZ 31) = w3 at *
  generalize hn5e : w2.heap.size = n5 at *
  go_wp2_with (
    refine wpList_store_row rfl 27 _ _ rfl (w.heap.size) (thZ) rfl rfl 27 (thC x (.slice S x.sn.length cs)) HG.out infoTh rfl (thZ_one) ?_
    try clear hw3
    have hk4 := kept_rowT (w := w3) (g := w.heap.size) (thZ)
    replace HG := Lib.hid (lies_row HG.out (thZ))
    replace HE := Lib.hid (HE.out.kept hk4 (fun (e : w.heap.size + 1 = w.heap.size) => by omega))
    replace H4 := Lib.hid (H4.out.kept hk4 (fun (e : w.heap.size + 1 + 1 = w.heap.size) => by omega))
    replace H5 := Lib.hid (H5.out.kept hk4 (fun (e : n5 = w.heap.size) => by omega))
    replace HB := Lib.hid (HB.out.trans (hk4.below HB.out.size (fun k hk (e : k = w.heap.size) => by omega)))
    clear hk4
    generalize w3.setRow (w.heap.size) (thZ) = w4 at *
    go_wp2_with (
      refine wpList_store_row rfl 31 _ _ rfl n5 (akZ) rfl rfl 31 akZ H5.out infoAk rfl (akZ_one) ?_
      have hk5 := kept_rowT (w := w4) (g := n5) (akZ)
      replace HG := Lib.hid (HG.out.kept hk5 (fun (e : w.heap.size = n5) => by omega))
      replace HE := Lib.hid (HE.out.kept hk5 (fun (e : w.heap.size + 1 = n5) => by omega))
      replace H4 := Lib.hid (H4.out.kept hk5 (fun (e : w.heap.size + 1 + 1 = n5) => by omega))
      replace H5 := Lib.hid (lies_row H5.out (akZ))
      replace HB := Lib.hid (HB.out.trans (hk5.below HB.out.size (fun k hk (e : k = n5) => by omega)))
      clear hk5
      generalize w4.setRow n5 (akZ) = wq at *
      go_wp2_with (
        refine wpList_store_row rfl 27 _ _ rfl (w.heap.size + 1 + 1) thZ rfl rfl 27 thZ H4.out infoTh rfl thZ_one ?_
        have hk9 := kept_rowT (w := wq) (g := w.heap.size + 1 + 1) thZ
        have HBZ := Lib.hid (HB.out.trans (hk9.below HB.out.size (fun k hk (e : k = w.heap.size + 1 + 1) => by omega)))
        have Q4 := Lib.hid (lies_row H4.out thZ)
        clear hk9
        generalize wq.setRow (w.heap.size + 1 + 1) thZ = wE at *
        clear HB H4 HG HE
        have z0 := (Q4.out.cell 0).trans (show _ = some (.int .i64 0) from rfl)
        have z1 := (Q4.out.cell 1).trans (show _ = some (.int .i64 0) from rfl)
        have z2 := (Q4.out.cell 2).trans (show _ = some (.int .i64 0) from rfl)
        have z3 := (Q4.out.cell 3).trans (show _ = some (.int .i64 0) from rfl)
        have z4 := (Q4.out.cell 4).trans (show _ = some (.int .u64 0) from rfl)
        have z5 := (Q4.out.cell 5).trans (show _ = some (.int .u64 0) from rfl)
        have z6 := (Q4.out.cell 6).trans (show _ = some (.int .u64 0) from rfl)
        have z7 := (Q4.out.cell 7).trans (show _ = some (.int .u64 0) from rfl)
        have z8 := (Q4.out.cell 8).trans (show _ = some (.int .u64 0) from rfl)
        have z9 := (Q4.out.cell 9).trans (show _ = some (.int .u64 0) from rfl)
        have z10 := (Q4.out.cell 10).trans (show _ = some (.int .u64 0) from rfl)
        have z11 := (Q4.out.cell 11).trans (show _ = some (.int .u64 0) from rfl)
        have z12 := (Q4.out.cell 12).trans (show _ = some (.int .u64 0) from rfl)
        have z13 := (Q4.out.cell 13).trans (show _ = some (.slice none 0 0) from rfl)
        go_wp2
        exact bodyPost_ret (v := .tuple #[.agg thZ, .int .i64 1]) (by simp [results, Try.results18, go_sem, z0, z1, z2, z3, z4, z5, z6, z7, z8, z9, z10, z11, z12, z13]) rfl ⟨rfl, HBZ.out⟩)))
set_option maxHeartbeats 8000000 in
set_option maxRecDepth 100000 in
theorem do16form (l : List In) (A : Option Addr) (c : Nat) (x : Th) (S : Option Addr) (cs : Nat) (e : Ev) (v : Nat) (w : World) (h : InsAt w A c l) (hok : ∀ i ∈ l, inOk i) (hx : thOk x) (hs : SeqS w 1 (.slice S x.sn.length cs) x.sn.length (cells64 x.sn)) (hl : x.sn.length ≤ 1000000) (hr : thB l x = true) (hre : rightE e = false) :
    Calls Try.prog 18 #[.slice A l.length c, .agg (thC x (.slice S x.sn.length cs)), .agg (evC e), .int .u64 (v : Int)] w fun q w' => q = .returned (.tuple #[.agg thZ, .int .i64 3]) ∧ Below w.heap.size w w' := by
  obtain ⟨hc1, hc2⟩ := seq_form h
  have hb3 : Below w.heap.size w (((w.alloc (.cells (thC x (.slice S x.sn.length cs)) 27)).alloc (.cells (evC e) 42)).alloc (.cells thZ 27)) := (((Below.refl _ _).alloc (Nat.le_refl _) _).alloc (by simp) _).alloc (by simp; omega) _
  have l1 := ((Lies.made w 27 (thC x (.slice S x.sn.length cs))).alloc (.cells (evC e) 42)).alloc (.cells thZ 27)
  have l2 := (Lies.made (w.alloc (.cells (thC x (.slice S x.sn.length cs)) 27)) 42 (evC e)).alloc (.cells thZ 27)
  have l3 := Lies.made ((w.alloc (.cells (thC x (.slice S x.sn.length cs)) 27)).alloc (.cells (evC e) 42)) 27 thZ
  rw [show (w.alloc (.cells (thC x (.slice S x.sn.length cs)) 27)).heap.size = w.heap.size + 1 by simp] at l2
  rw [show ((w.alloc (.cells (thC x (.slice S x.sn.length cs)) 27)).alloc (.cells (evC e) 42)).heap.size = w.heap.size + 1 + 1 by simp] at l3
  have HB := Lib.hid hb3
  have HG := Lib.hid l1
  have HE := Lib.hid l2
  have H4 := Lib.hid l3
  have HH := Lib.hid (fun (q : World) (hq : Below w.heap.size w q) => h.later hq)
  clear hb3 l1 l2 l3
  have hnf := nxT_facts hr hx hok
  have HNX := Lib.hid (fun q hq hs => next16 l A c x S cs q hq hok hx hs hl hr)
  have HSQ := Lib.hid (fun (q : World) (hq : Below w.heap.size w q) => hs.later hq)
  have HRI := Lib.hid (fun q => right15 e q)
  rw [hre] at HRI
  clear hre
  obtain ⟨n, hn⟩ : ∃ n, x.sn.length = n := ⟨_, rfl⟩
  have HNE : Hid ((nxT l x).sn.length = n) := by show _ = _; rw [hnf.2.2, hn]
  have HSE : Hid (cells64 x.sn = cells64 (nxT l x).sn) := by show _ = _; rw [hnf.2.2]
  have HIV := Lib.hid hnf.1
  have HCD := Lib.hid (thB_parts hr).1
  have hlen := (codeB_parts HCD.out).1
  have HOK := Lib.hid hok
  have hn6 : n ≤ 1000000 := by omega
  have HNN := Lib.hid hn
  clear h hs hl hr hx hok hnf hn
  go_enter Try.func18, Try.ntmps18
  go_upto_region 1 with (fail)
  generalize (((w.alloc (.cells (thC x (.slice S x.sn.length cs)) 27)).alloc (.cells (evC e) 42)).alloc (.cells thZ 27)) = w1 at *
  have c0 := (HG.out.cell 0).trans (show _ = some (Value.int .i64 x.at_) from rfl)
  have c1 := (HG.out.cell 1).trans (show _ = some (Value.int .i64 x.ph) from rfl)
  have c2 := (HG.out.cell 2).trans (show _ = some (Value.int .i64 x.rg) from rfl)
  have c3 := (HG.out.cell 3).trans (show _ = some (Value.int .i64 x.st) from rfl)
  have c4 := (HG.out.cell 4).trans (show _ = some (Value.int .u64 (x.tk : Int)) from rfl)
  have c5 := (HG.out.cell 5).trans (show _ = some (Value.int .u64 (x.r 0 : Int)) from rfl)
  have c6 := (HG.out.cell 6).trans (show _ = some (Value.int .u64 (x.r 1 : Int)) from rfl)
  have c7 := (HG.out.cell 7).trans (show _ = some (Value.int .u64 (x.r 2 : Int)) from rfl)
  have c8 := (HG.out.cell 8).trans (show _ = some (Value.int .u64 (x.r 3 : Int)) from rfl)
  have c9 := (HG.out.cell 9).trans (show _ = some (Value.int .u64 (x.r 4 : Int)) from rfl)
  have c10 := (HG.out.cell 10).trans (show _ = some (Value.int .u64 (x.r 5 : Int)) from rfl)
  have c11 := (HG.out.cell 11).trans (show _ = some (Value.int .u64 (x.r 6 : Int)) from rfl)
  have c12 := (HG.out.cell 12).trans (show _ = some (Value.int .u64 (x.r 7 : Int)) from rfl)
  have c13 := (HG.out.cell 13).trans (show _ = some ((.slice S x.sn.length cs)) from rfl)
  have cl := HG.out.lt
  go_wp2_with fail
  refine (HNX.out _ (HH.out _ HB.out) (HSQ.out _ HB.out)).mono ?_
  rintro e1 w2 ⟨A', c', rfl, ho, hbm⟩
  have HN2 : Hid (w.heap.size + 1 + 1 < w2.heap.size) := Nat.lt_of_lt_of_le H4.out.lt hbm.size
  have HO0 := owns_mono ho HB.out.size
  rw [HSE.out] at HO0
  rw [HNN.out] at HO0 ⊢
  have HO := Lib.hid HO0
  replace HG := Lib.hid (HG.out.below hbm HG.out.lt)
  replace HE := Lib.hid (HE.out.below hbm HE.out.lt)
  replace H4 := Lib.hid (H4.out.below hbm H4.out.lt)
  replace HB := Lib.hid (HB.out.trans (hbm.mono HB.out.size))
  clear hbm HNX HSQ ho HO0 HSE
  generalize hyy : nxT l x = y at *
  have HYE := Lib.hid hyy
  clear hyy
  generalize hzz : reqA l y = z at *
  have HZE := Lib.hid hzz
  clear hzz
  clear c0 c1 c2 c3 c4 c5 c6 c7 c8 c9 c10 c11 c12 c13 cl
  have hba := (Below.refl w2.heap.size w2).alloc (Nat.le_refl _) (.cells akZ 31)
  have H5 := Lib.hid (Lies.made w2 31 akZ)
  replace HG := Lib.hid (HG.out.below hba HG.out.lt)
  replace HE := Lib.hid (HE.out.below hba HE.out.lt)
  replace H4 := Lib.hid (H4.out.below hba H4.out.lt)
  replace HB := Lib.hid (HB.out.trans (hba.mono HB.out.size))
  replace HO := Lib.hid (owned_below HO.out hba)
  have hn5 : w.heap.size + 1 + 1 < w2.heap.size := HN2.out
  clear hba HN2
  generalize hw3 : w2.alloc (.cells akZ 31) = w3 at *
  generalize hn5e : w2.heap.size = n5 at *
  go_wp2_with (
    refine wpList_store_row rfl 27 _ _ rfl (w.heap.size) (thC y (.slice A' n c')) rfl rfl 27 (thC x (.slice S x.sn.length cs)) HG.out infoTh rfl (thC_one _ rfl) ?_
    try clear hw3
    have hk4 := kept_rowT (w := w3) (g := w.heap.size) (thC y (.slice A' n c'))
    replace HO := Lib.hid (owns_kept HO.out hk4 (fun r cur hr hl (e : r = w.heap.size) => by subst e; exact absurd (hl.same HG.out).1 (by decide)))
    replace HG := Lib.hid (lies_row HG.out (thC y (.slice A' n c')))
    replace HE := Lib.hid (HE.out.kept hk4 (fun (e : w.heap.size + 1 = w.heap.size) => by omega))
    replace H4 := Lib.hid (H4.out.kept hk4 (fun (e : w.heap.size + 1 + 1 = w.heap.size) => by omega))
    replace H5 := Lib.hid (H5.out.kept hk4 (fun (e : n5 = w.heap.size) => by omega))
    replace HB := Lib.hid (HB.out.trans (hk4.below HB.out.size (fun k hk (e : k = w.heap.size) => by omega)))
    clear hk4
    generalize w3.setRow (w.heap.size) (thC y (.slice A' n c')) = w4 at *
    go_wp2_with (
      refine wpList_store_row rfl 31 _ _ rfl n5 (akC z) rfl rfl 31 akZ H5.out infoAk rfl (akC_one _) ?_
      have hk5 := kept_rowT (w := w4) (g := n5) (akC z)
      replace HO := Lib.hid (owns_kept HO.out hk5 (fun r cur hr hl (e : r = n5) => by subst e; exact absurd (hl.same H5.out).1 (by decide)))
      replace HG := Lib.hid (HG.out.kept hk5 (fun (e : w.heap.size = n5) => by omega))
      replace HE := Lib.hid (HE.out.kept hk5 (fun (e : w.heap.size + 1 = n5) => by omega))
      replace H4 := Lib.hid (H4.out.kept hk5 (fun (e : w.heap.size + 1 + 1 = n5) => by omega))
      replace H5 := Lib.hid (lies_row H5.out (akC z))
      replace HB := Lib.hid (HB.out.trans (hk5.below HB.out.size (fun k hk (e : k = n5) => by omega)))
      clear hk5
      generalize w4.setRow n5 (akC z) = wq at *
      have q0 := (HE.out.cell 0).trans (show _ = some (Value.int .i64 e.th) from rfl)
      have q1 := (HE.out.cell 1).trans (show _ = some (Value.int .i64 e.kd) from rfl)
      have q2 := (HE.out.cell 2).trans (show _ = some (Value.int .i64 e.rg) from rfl)
      have q3 := (HE.out.cell 3).trans (show _ = some (Value.int .u64 (e.tk : Int)) from rfl)
      have q4 := (HE.out.cell 4).trans (show _ = some (Value.int .u64 (e.vl : Int)) from rfl)
      have ql := HE.out.lt
      go_wp2_with fail
      refine (HRI.out _).mono ?_
      rintro e1 w5 ⟨rfl, hbm⟩
      clear q0 q1 q2 q3 q4 ql
      replace H5 := Lib.hid (H5.out.below hbm H5.out.lt)
      replace HO := Lib.hid (owned_below HO.out hbm)
      replace HG := Lib.hid (HG.out.below hbm HG.out.lt)
      replace HE := Lib.hid (HE.out.below hbm HE.out.lt)
      replace H4 := Lib.hid (H4.out.below hbm H4.out.lt)
      replace HB := Lib.hid (HB.out.trans (hbm.mono HB.out.size))
      clear hbm HRI
      generalize w5 = wq at *
      go_wp2_with (
        refine wpList_store_row rfl 27 _ _ rfl (w.heap.size + 1 + 1) thZ rfl rfl 27 thZ H4.out infoTh rfl thZ_one ?_
        have hk9 := kept_rowT (w := wq) (g := w.heap.size + 1 + 1) thZ
        have HBZ := Lib.hid (HB.out.trans (hk9.below HB.out.size (fun k hk (e : k = w.heap.size + 1 + 1) => by omega)))
        have Q4 := Lib.hid (lies_row H4.out thZ)
        clear hk9
        generalize wq.setRow (w.heap.size + 1 + 1) thZ = wE at *
        clear HB H4 HG HE
        have z0 := (Q4.out.cell 0).trans (show _ = some (.int .i64 0) from rfl)
        have z1 := (Q4.out.cell 1).trans (show _ = some (.int .i64 0) from rfl)
        have z2 := (Q4.out.cell 2).trans (show _ = some (.int .i64 0) from rfl)
        have z3 := (Q4.out.cell 3).trans (show _ = some (.int .i64 0) from rfl)
        have z4 := (Q4.out.cell 4).trans (show _ = some (.int .u64 0) from rfl)
        have z5 := (Q4.out.cell 5).trans (show _ = some (.int .u64 0) from rfl)
        have z6 := (Q4.out.cell 6).trans (show _ = some (.int .u64 0) from rfl)
        have z7 := (Q4.out.cell 7).trans (show _ = some (.int .u64 0) from rfl)
        have z8 := (Q4.out.cell 8).trans (show _ = some (.int .u64 0) from rfl)
        have z9 := (Q4.out.cell 9).trans (show _ = some (.int .u64 0) from rfl)
        have z10 := (Q4.out.cell 10).trans (show _ = some (.int .u64 0) from rfl)
        have z11 := (Q4.out.cell 11).trans (show _ = some (.int .u64 0) from rfl)
        have z12 := (Q4.out.cell 12).trans (show _ = some (.int .u64 0) from rfl)
        have z13 := (Q4.out.cell 13).trans (show _ = some (.slice none 0 0) from rfl)
        go_wp2
        exact bodyPost_ret (v := .tuple #[.agg thZ, .int .i64 3]) (by simp [results, Try.results18, go_sem, z0, z1, z2, z3, z4, z5, z6, z7, z8, z9, z10, z11, z12, z13]) rfl ⟨rfl, HBZ.out⟩)))
set_option maxHeartbeats 8000000 in
set_option maxRecDepth 100000 in
theorem do16order (l : List In) (A : Option Addr) (c : Nat) (x : Th) (S : Option Addr) (cs : Nat) (e : Ev) (v : Nat) (w : World) (h : InsAt w A c l) (hok : ∀ i ∈ l, inOk i) (hx : thOk x) (hs : SeqS w 1 (.slice S x.sn.length cs) x.sn.length (cells64 x.sn)) (hl : x.sn.length ≤ 1000000) (hr : thB l x = true) (hre : rightE e = true) (hf : fitB (reqA l (nxT l x)) e = false) :
    Calls Try.prog 18 #[.slice A l.length c, .agg (thC x (.slice S x.sn.length cs)), .agg (evC e), .int .u64 (v : Int)] w fun q w' => q = .returned (.tuple #[.agg thZ, .int .i64 11]) ∧ Below w.heap.size w w' := by
  obtain ⟨hc1, hc2⟩ := seq_form h
  have hb3 : Below w.heap.size w (((w.alloc (.cells (thC x (.slice S x.sn.length cs)) 27)).alloc (.cells (evC e) 42)).alloc (.cells thZ 27)) := (((Below.refl _ _).alloc (Nat.le_refl _) _).alloc (by simp) _).alloc (by simp; omega) _
  have l1 := ((Lies.made w 27 (thC x (.slice S x.sn.length cs))).alloc (.cells (evC e) 42)).alloc (.cells thZ 27)
  have l2 := (Lies.made (w.alloc (.cells (thC x (.slice S x.sn.length cs)) 27)) 42 (evC e)).alloc (.cells thZ 27)
  have l3 := Lies.made ((w.alloc (.cells (thC x (.slice S x.sn.length cs)) 27)).alloc (.cells (evC e) 42)) 27 thZ
  rw [show (w.alloc (.cells (thC x (.slice S x.sn.length cs)) 27)).heap.size = w.heap.size + 1 by simp] at l2
  rw [show ((w.alloc (.cells (thC x (.slice S x.sn.length cs)) 27)).alloc (.cells (evC e) 42)).heap.size = w.heap.size + 1 + 1 by simp] at l3
  have HB := Lib.hid hb3
  have HG := Lib.hid l1
  have HE := Lib.hid l2
  have H4 := Lib.hid l3
  have HH := Lib.hid (fun (q : World) (hq : Below w.heap.size w q) => h.later hq)
  clear hb3 l1 l2 l3
  have hnf := nxT_facts hr hx hok
  have HNX := Lib.hid (fun q hq hs => next16 l A c x S cs q hq hok hx hs hl hr)
  have HSQ := Lib.hid (fun (q : World) (hq : Below w.heap.size w q) => hs.later hq)
  have HRI := Lib.hid (fun q => right15 e q)
  rw [hre] at HRI
  have HMT := Lib.hid (fun q => matches16 (reqA l (nxT l x)) e q)
  rw [hf] at HMT
  clear hre hf
  obtain ⟨n, hn⟩ : ∃ n, x.sn.length = n := ⟨_, rfl⟩
  have HNE : Hid ((nxT l x).sn.length = n) := by show _ = _; rw [hnf.2.2, hn]
  have HSE : Hid (cells64 x.sn = cells64 (nxT l x).sn) := by show _ = _; rw [hnf.2.2]
  have HIV := Lib.hid hnf.1
  have HCD := Lib.hid (thB_parts hr).1
  have hlen := (codeB_parts HCD.out).1
  have HOK := Lib.hid hok
  have hn6 : n ≤ 1000000 := by omega
  have HNN := Lib.hid hn
  clear h hs hl hr hx hok hnf hn
  go_enter Try.func18, Try.ntmps18
  go_upto_region 1 with (fail)
  generalize (((w.alloc (.cells (thC x (.slice S x.sn.length cs)) 27)).alloc (.cells (evC e) 42)).alloc (.cells thZ 27)) = w1 at *
  have c0 := (HG.out.cell 0).trans (show _ = some (Value.int .i64 x.at_) from rfl)
  have c1 := (HG.out.cell 1).trans (show _ = some (Value.int .i64 x.ph) from rfl)
  have c2 := (HG.out.cell 2).trans (show _ = some (Value.int .i64 x.rg) from rfl)
  have c3 := (HG.out.cell 3).trans (show _ = some (Value.int .i64 x.st) from rfl)
  have c4 := (HG.out.cell 4).trans (show _ = some (Value.int .u64 (x.tk : Int)) from rfl)
  have c5 := (HG.out.cell 5).trans (show _ = some (Value.int .u64 (x.r 0 : Int)) from rfl)
  have c6 := (HG.out.cell 6).trans (show _ = some (Value.int .u64 (x.r 1 : Int)) from rfl)
  have c7 := (HG.out.cell 7).trans (show _ = some (Value.int .u64 (x.r 2 : Int)) from rfl)
  have c8 := (HG.out.cell 8).trans (show _ = some (Value.int .u64 (x.r 3 : Int)) from rfl)
  have c9 := (HG.out.cell 9).trans (show _ = some (Value.int .u64 (x.r 4 : Int)) from rfl)
  have c10 := (HG.out.cell 10).trans (show _ = some (Value.int .u64 (x.r 5 : Int)) from rfl)
  have c11 := (HG.out.cell 11).trans (show _ = some (Value.int .u64 (x.r 6 : Int)) from rfl)
  have c12 := (HG.out.cell 12).trans (show _ = some (Value.int .u64 (x.r 7 : Int)) from rfl)
  have c13 := (HG.out.cell 13).trans (show _ = some ((.slice S x.sn.length cs)) from rfl)
  have cl := HG.out.lt
  go_wp2_with fail
  refine (HNX.out _ (HH.out _ HB.out) (HSQ.out _ HB.out)).mono ?_
  rintro e1 w2 ⟨A', c', rfl, ho, hbm⟩
  have HN2 : Hid (w.heap.size + 1 + 1 < w2.heap.size) := Nat.lt_of_lt_of_le H4.out.lt hbm.size
  have HO0 := owns_mono ho HB.out.size
  rw [HSE.out] at HO0
  rw [HNN.out] at HO0 ⊢
  have HO := Lib.hid HO0
  replace HG := Lib.hid (HG.out.below hbm HG.out.lt)
  replace HE := Lib.hid (HE.out.below hbm HE.out.lt)
  replace H4 := Lib.hid (H4.out.below hbm H4.out.lt)
  replace HB := Lib.hid (HB.out.trans (hbm.mono HB.out.size))
  clear hbm HNX HSQ ho HO0 HSE
  generalize hyy : nxT l x = y at *
  have HYE := Lib.hid hyy
  clear hyy
  generalize hzz : reqA l y = z at *
  have HZE := Lib.hid hzz
  clear hzz
  clear c0 c1 c2 c3 c4 c5 c6 c7 c8 c9 c10 c11 c12 c13 cl
  have hba := (Below.refl w2.heap.size w2).alloc (Nat.le_refl _) (.cells akZ 31)
  have H5 := Lib.hid (Lies.made w2 31 akZ)
  replace HG := Lib.hid (HG.out.below hba HG.out.lt)
  replace HE := Lib.hid (HE.out.below hba HE.out.lt)
  replace H4 := Lib.hid (H4.out.below hba H4.out.lt)
  replace HB := Lib.hid (HB.out.trans (hba.mono HB.out.size))
  replace HO := Lib.hid (owned_below HO.out hba)
  have hn5 : w.heap.size + 1 + 1 < w2.heap.size := HN2.out
  clear hba HN2
  generalize hw3 : w2.alloc (.cells akZ 31) = w3 at *
  generalize hn5e : w2.heap.size = n5 at *
  go_wp2_with (
    refine wpList_store_row rfl 27 _ _ rfl (w.heap.size) (thC y (.slice A' n c')) rfl rfl 27 (thC x (.slice S x.sn.length cs)) HG.out infoTh rfl (thC_one _ rfl) ?_
    try clear hw3
    have hk4 := kept_rowT (w := w3) (g := w.heap.size) (thC y (.slice A' n c'))
    replace HO := Lib.hid (owns_kept HO.out hk4 (fun r cur hr hl (e : r = w.heap.size) => by subst e; exact absurd (hl.same HG.out).1 (by decide)))
    replace HG := Lib.hid (lies_row HG.out (thC y (.slice A' n c')))
    replace HE := Lib.hid (HE.out.kept hk4 (fun (e : w.heap.size + 1 = w.heap.size) => by omega))
    replace H4 := Lib.hid (H4.out.kept hk4 (fun (e : w.heap.size + 1 + 1 = w.heap.size) => by omega))
    replace H5 := Lib.hid (H5.out.kept hk4 (fun (e : n5 = w.heap.size) => by omega))
    replace HB := Lib.hid (HB.out.trans (hk4.below HB.out.size (fun k hk (e : k = w.heap.size) => by omega)))
    clear hk4
    generalize w3.setRow (w.heap.size) (thC y (.slice A' n c')) = w4 at *
    go_wp2_with (
      refine wpList_store_row rfl 31 _ _ rfl n5 (akC z) rfl rfl 31 akZ H5.out infoAk rfl (akC_one _) ?_
      have hk5 := kept_rowT (w := w4) (g := n5) (akC z)
      replace HO := Lib.hid (owns_kept HO.out hk5 (fun r cur hr hl (e : r = n5) => by subst e; exact absurd (hl.same H5.out).1 (by decide)))
      replace HG := Lib.hid (HG.out.kept hk5 (fun (e : w.heap.size = n5) => by omega))
      replace HE := Lib.hid (HE.out.kept hk5 (fun (e : w.heap.size + 1 = n5) => by omega))
      replace H4 := Lib.hid (H4.out.kept hk5 (fun (e : w.heap.size + 1 + 1 = n5) => by omega))
      replace H5 := Lib.hid (lies_row H5.out (akC z))
      replace HB := Lib.hid (HB.out.trans (hk5.below HB.out.size (fun k hk (e : k = n5) => by omega)))
      clear hk5
      generalize w4.setRow n5 (akC z) = wq at *
      have q0 := (HE.out.cell 0).trans (show _ = some (Value.int .i64 e.th) from rfl)
      have q1 := (HE.out.cell 1).trans (show _ = some (Value.int .i64 e.kd) from rfl)
      have q2 := (HE.out.cell 2).trans (show _ = some (Value.int .i64 e.rg) from rfl)
      have q3 := (HE.out.cell 3).trans (show _ = some (Value.int .u64 (e.tk : Int)) from rfl)
      have q4 := (HE.out.cell 4).trans (show _ = some (Value.int .u64 (e.vl : Int)) from rfl)
      have ql := HE.out.lt
      go_wp2_with fail
      refine (HRI.out _).mono ?_
      rintro e1 w5 ⟨rfl, hbm⟩
      clear q0 q1 q2 q3 q4 ql
      replace H5 := Lib.hid (H5.out.below hbm H5.out.lt)
      replace HO := Lib.hid (owned_below HO.out hbm)
      replace HG := Lib.hid (HG.out.below hbm HG.out.lt)
      replace HE := Lib.hid (HE.out.below hbm HE.out.lt)
      replace H4 := Lib.hid (H4.out.below hbm H4.out.lt)
      replace HB := Lib.hid (HB.out.trans (hbm.mono HB.out.size))
      clear hbm HRI
      clear wq
      have q0 := (HE.out.cell 0).trans (show _ = some (Value.int .i64 e.th) from rfl)
      have q1 := (HE.out.cell 1).trans (show _ = some (Value.int .i64 e.kd) from rfl)
      have q2 := (HE.out.cell 2).trans (show _ = some (Value.int .i64 e.rg) from rfl)
      have q3 := (HE.out.cell 3).trans (show _ = some (Value.int .u64 (e.tk : Int)) from rfl)
      have q4 := (HE.out.cell 4).trans (show _ = some (Value.int .u64 (e.vl : Int)) from rfl)
      have ql := HE.out.lt
      have k0 := (H5.out.cell 0).trans (show _ = some (.int .i64 z.kd) from rfl)
      have k1 := (H5.out.cell 1).trans (show _ = some (.int .i64 z.rg) from rfl)
      have k2 := (H5.out.cell 2).trans (show _ = some (.int .i64 z.md) from rfl)
      have k3 := (H5.out.cell 3).trans (show _ = some (.int .i64 z.rd) from rfl)
      have k4 := (H5.out.cell 4).trans (show _ = some (.int .u64 (z.tk : Int)) from rfl)
      have k5 := (H5.out.cell 5).trans (show _ = some (.int .u64 (z.vl : Int)) from rfl)
      have kl := H5.out.lt
      go_wp2_with fail
      refine (HMT.out _).mono ?_
      rintro e1 wq ⟨rfl, hbm⟩
      clear q0 q1 q2 q3 q4 ql
      clear k0 k1 k2 k3 k4 k5 kl
      replace HO := Lib.hid (owned_below HO.out hbm)
      replace HG := Lib.hid (HG.out.below hbm HG.out.lt)
      replace HE := Lib.hid (HE.out.below hbm HE.out.lt)
      replace H4 := Lib.hid (H4.out.below hbm H4.out.lt)
      replace HB := Lib.hid (HB.out.trans (hbm.mono HB.out.size))
      clear hbm HMT H5 w5
      go_wp2_with (
        refine wpList_store_row rfl 27 _ _ rfl (w.heap.size + 1 + 1) thZ rfl rfl 27 thZ H4.out infoTh rfl thZ_one ?_
        have hk9 := kept_rowT (w := wq) (g := w.heap.size + 1 + 1) thZ
        have HBZ := Lib.hid (HB.out.trans (hk9.below HB.out.size (fun k hk (e : k = w.heap.size + 1 + 1) => by omega)))
        have Q4 := Lib.hid (lies_row H4.out thZ)
        clear hk9
        generalize wq.setRow (w.heap.size + 1 + 1) thZ = wE at *
        clear HB H4 HG HE
        have z0 := (Q4.out.cell 0).trans (show _ = some (.int .i64 0) from rfl)
        have z1 := (Q4.out.cell 1).trans (show _ = some (.int .i64 0) from rfl)
        have z2 := (Q4.out.cell 2).trans (show _ = some (.int .i64 0) from rfl)
        have z3 := (Q4.out.cell 3).trans (show _ = some (.int .i64 0) from rfl)
        have z4 := (Q4.out.cell 4).trans (show _ = some (.int .u64 0) from rfl)
        have z5 := (Q4.out.cell 5).trans (show _ = some (.int .u64 0) from rfl)
        have z6 := (Q4.out.cell 6).trans (show _ = some (.int .u64 0) from rfl)
        have z7 := (Q4.out.cell 7).trans (show _ = some (.int .u64 0) from rfl)
        have z8 := (Q4.out.cell 8).trans (show _ = some (.int .u64 0) from rfl)
        have z9 := (Q4.out.cell 9).trans (show _ = some (.int .u64 0) from rfl)
        have z10 := (Q4.out.cell 10).trans (show _ = some (.int .u64 0) from rfl)
        have z11 := (Q4.out.cell 11).trans (show _ = some (.int .u64 0) from rfl)
        have z12 := (Q4.out.cell 12).trans (show _ = some (.int .u64 0) from rfl)
        have z13 := (Q4.out.cell 13).trans (show _ = some (.slice none 0 0) from rfl)
        go_wp2
        exact bodyPost_ret (v := .tuple #[.agg thZ, .int .i64 11]) (by simp [results, Try.results18, go_sem, z0, z1, z2, z3, z4, z5, z6, z7, z8, z9, z10, z11, z12, z13]) rfl ⟨rfl, HBZ.out⟩)))
end Go.Proofs.Ytiegmpjoiekekaa
