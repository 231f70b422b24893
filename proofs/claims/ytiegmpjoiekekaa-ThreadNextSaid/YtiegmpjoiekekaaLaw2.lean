/-
  The law ThreadNext (layer 16), walked.
-/
import Derived.Test.YtiegmpjoiekekaaAwake
import Derived.Test.YtiegmpjoiekekaaThs2
namespace Go.Proofs.Ytiegmpjoiekekaa
open Go.RowKit
set_option linter.unusedVariables false
set_option linter.unusedSimpArgs false
theorem Try.infoIn : (Try.prog.info? 50).map (fun i => (i.zero, i.size, i.bytes)) = some (some (.agg #[.int .i64 0, .int .i64 0, .int .i64 0, .int .i64 0, .int .i64 0, .int .u64 0]), 6, 48) := by kernel_rfl
theorem inF_one (l : List In) : ∀ u ∈ rowsOf inF l, u.oneCell' = true := fun u hu => by
  obtain ⟨x, _, hx⟩ := rowsOf_mem hu
  simp [inF] at hx
  rcases hx with rfl | rfl | rfl | rfl | rfl | rfl <;> rfl
theorem seqAt16 {w : World} {v : Value} {xs : List Nat} (h : SeqS w 1 v xs.length (cells64 xs)) : SeqAt w v (cells64 xs) := by
  obtain ⟨h1, A, c, h2, h3, h4, h5, h6⟩ := h
  have hl : (cells64 xs).length = xs.length := by simp [cells64]
  exact ⟨A, c, by rw [hl]; exact h2, by rw [hl]; exact h3, h4, h6⟩
theorem samT_self (x : Th) : samT x x = true := by
  simp [samT, regB]
set_option maxHeartbeats 8000000 in
set_option maxRecDepth 100000 in
theorem next_false (A : Option Addr) (len c : Nat) (l : List In) (s : Ta) (w : World) (h0 : InArg w A len c l) (h1 : TaAt w s) (hr : thB l s.x = false) :
    Calls Try.prog 3 #[.slice A len c, .agg (thC s.x (.slice s.S s.x.sn.length s.cs))] w fun q w' => q = .returned (.bool true) ∧ Below w.heap.size w w' := by
  obtain ⟨rfl, hin, hok⟩ := h0
  obtain ⟨hx, hsq⟩ := h1
  obtain ⟨hc1, hc2⟩ := seq_form hin
  have hb0 : Below w.heap.size w (w.alloc (.cells (thC s.x (.slice s.S s.x.sn.length s.cs)) 27)) := (Below.refl _ _).alloc (Nat.le_refl _) _
  have l0 := Lies.made w 27 (thC s.x (.slice s.S s.x.sn.length s.cs))
  have HB := Lib.hid hb0
  have HG := Lib.hid l0
  have HIN := Lib.hid (show ∀ q : World, Below w.heap.size w q → InsAt q A c l from fun q hq => hin.later hq)
  have HSQ := Lib.hid (fun (q : World) (hq : Below w.heap.size w q) => hsq.later hq)
  have HOK := Lib.hid hok
  have HX := Lib.hid hx
  have HR := Lib.hid hr
  clear hb0 l0 hin hsq hok hx hr
  go_enter Try.func3, Try.ntmps3
  go_upto_region 1 with (fail)
  generalize hw1 : (w.alloc (.cells (thC s.x (.slice s.S s.x.sn.length s.cs)) 27)) = w1 at *
  clear hw1
  go_wp2_with fail
  refine (awake16 _).mono ?_
  rintro q w2 ⟨rfl, hbm⟩
  replace HG := Lib.hid (HG.out.below hbm HG.out.lt)
  replace HB := Lib.hid (HB.out.trans (hbm.mono HB.out.size))
  clear hbm w1
  have c13 := (HG.out.cell 13).trans (show _ = some (.slice s.S s.x.sn.length s.cs) from rfl)
  have cl := HG.out.lt
  by_cases hl3 : 300 < l.length
  · have d1 : decide ((300 : Int) < (l.length : Int)) = true := decide_eq_true (by omega)
    have d1n : decide (300 < l.length) = true := decide_eq_true hl3
    go_wp2_with fail
    refine (awake16 _).mono ?_
    rintro q w3 ⟨rfl, hbm⟩
    have HBZ := Lib.hid (HB.out.trans (hbm.mono HB.out.size))
    go_wp2
    go_ret
    exact ⟨rfl, HBZ.out⟩
  have d1 : decide ((300 : Int) < (l.length : Int)) = false := decide_eq_false (by omega)
  have d1n : decide (300 < l.length) = false := decide_eq_false hl3
  by_cases hl1 : 100 < s.x.sn.length
  · have d2 : decide ((100 : Int) < (s.x.sn.length : Int)) = true := decide_eq_true (by omega)
    have d2n : decide (100 < s.x.sn.length) = true := decide_eq_true hl1
    go_wp2_with fail
    refine (awake16 _).mono ?_
    rintro q w3 ⟨rfl, hbm⟩
    have HBZ := Lib.hid (HB.out.trans (hbm.mono HB.out.size))
    go_wp2
    go_ret
    exact ⟨rfl, HBZ.out⟩
  have d2 : decide ((100 : Int) < (s.x.sn.length : Int)) = false := decide_eq_false (by omega)
  have d2n : decide (100 < s.x.sn.length) = false := decide_eq_false hl1
  have c0 := (HG.out.cell 0).trans (show _ = some (Value.int .i64 s.x.at_) from rfl)
  have c1 := (HG.out.cell 1).trans (show _ = some (Value.int .i64 s.x.ph) from rfl)
  have c2 := (HG.out.cell 2).trans (show _ = some (Value.int .i64 s.x.rg) from rfl)
  have c3 := (HG.out.cell 3).trans (show _ = some (Value.int .i64 s.x.st) from rfl)
  have c4 := (HG.out.cell 4).trans (show _ = some (Value.int .u64 (s.x.tk : Int)) from rfl)
  have c5 := (HG.out.cell 5).trans (show _ = some (Value.int .u64 (s.x.r 0 : Int)) from rfl)
  have c6 := (HG.out.cell 6).trans (show _ = some (Value.int .u64 (s.x.r 1 : Int)) from rfl)
  have c7 := (HG.out.cell 7).trans (show _ = some (Value.int .u64 (s.x.r 2 : Int)) from rfl)
  have c8 := (HG.out.cell 8).trans (show _ = some (Value.int .u64 (s.x.r 3 : Int)) from rfl)
  have c9 := (HG.out.cell 9).trans (show _ = some (Value.int .u64 (s.x.r 4 : Int)) from rfl)
  have c10 := (HG.out.cell 10).trans (show _ = some (Value.int .u64 (s.x.r 5 : Int)) from rfl)
  have c11 := (HG.out.cell 11).trans (show _ = some (Value.int .u64 (s.x.r 6 : Int)) from rfl)
  have c12 := (HG.out.cell 12).trans (show _ = some (Value.int .u64 (s.x.r 7 : Int)) from rfl)
  have c13 := (HG.out.cell 13).trans (show _ = some ((.slice s.S s.x.sn.length s.cs)) from rfl)
  have cl := HG.out.lt
  go_wp2_with fail
  refine (rfThRight l A c s.x (.slice s.S s.x.sn.length s.cs) w2 (HIN.out _ HB.out) HOK.out).mono ?_
  rw [HR.out]
  rintro q w3 ⟨rfl, hbm⟩
  clear d1 d1n d2 d2n
  clear c0 c1 c2 c3 c4 c5 c6 c7 c8 c9 c10 c11 c12 c13 cl
  replace HG := Lib.hid (HG.out.below hbm HG.out.lt)
  replace HB := Lib.hid (HB.out.trans (hbm.mono HB.out.size))
  clear hbm
  go_wp2_with fail
  have HZZ : Hid (nxZ l s.x = (thO, noneA 0, 1)) := by show _ = _; unfold nxZ; rw [if_neg (by rw [HR.out]; decide)]
  have doc : ∀ (A0 : Option Addr) (k0 : Nat) (q : World), World.ownsRow q w3.heap.size 50 6 (.slice A0 l.length k0) l.length (rowsOf inF l) → Below w.heap.size w q → Calls Try.prog 10 #[.slice A0 l.length k0, .agg (thC s.x (.slice s.S s.x.sn.length s.cs))] q (NxPost (thO, (noneA 0), 1) q) := fun A0 k0 q hr hb => by
    rw [← HZZ.out]
    exact nextU l A0 k0 s.x s.S s.cs q (SeqS.of_owns hr) HOK.out HX.out (HSQ.out q hb) (by omega)
  have DOC := Lib.hid doc
  clear doc
  refine wp_region_relyx (lwS w3 27 31 9 11 6 thZ 10 12 7 akZ) (fkV w3.heap.size [.row 50 6 0 [], .eq (.slice A l.length c), .row 50 6 l.length (rowsOf inF l), .eq (.agg (thC s.x (.slice s.S s.x.sn.length s.cs))), .tup thO [.agg (akC (noneA 0)), .int .i64 1], .tup thO [.agg (akC (noneA 0)), .int .i64 1], .st thO, .eq (.agg (akC (noneA 0))), .eq (.int .i64 1), .any, .any, .any, .any, .eq (.int .i64 1)]) [some 29, some 30, some 31, some 32, some 33, some 28, some 34, some 35, some 36, some 6, some 7, none, none, some 8] [[], [], [0, 1], [], [2, 3], [4], [5], [5], [5], [], [], [9, 6], [10, 7], [8]] [[], [], [0, 1], [], [0, 1, 2, 3], [2, 3, 4], [4], [4, 11], [4, 11, 12], [], [], [0, 1, 2, 3, 4, 9], [0, 1, 2, 3, 4, 9, 10, 11], [0, 1, 2, 3, 4, 5, 8, 9, 10, 11, 12]] [[1, 3, 4, 5, 6, 7, 8, 9, 10], [0, 3, 4, 5, 6, 7, 8, 9, 10], [3, 5, 6, 7, 8, 9, 10], [0, 1, 2, 5, 6, 7, 8, 9, 10], [6, 7, 8, 9, 10], [9, 10], [0, 1, 5, 7, 8, 9, 10], [0, 1, 5, 6, 8, 9, 10], [0, 1, 5, 6, 7, 9, 10], [0, 1, 2, 3, 4, 5, 6, 7, 8, 10], [0, 1, 2, 3, 4, 5, 6, 7, 8, 9], [5, 6, 7, 8, 10], [5, 6, 7, 8], [6, 7]] [0, 1, 2, 3, 4, 5, 6, 7, 8, 9, 10, 11, 12, 13] 14 (by kernel_rfl) (by kernel_rfl) (by kernel_rfl) (by kernel_rfl) ?rS (fun j h1 h2 => absurd (Nat.lt_of_lt_of_le h1 (Nat.le_trans (by decide) h2)) (Nat.lt_irrefl _)) ?rT ?rE
  case rS => exact lw_start
  case rT =>
    refine RelyStepsX.cons (RelyStepX.mk [] [1, 3, 4, 5, 6, 7, 8, 9, 10] rfl rfl rfl (fun xv Lv wS hS hL hLd hV bq hb K hK => ?_)) ?_
    · clear hV
      simp only [putsOf, List.foldl_cons, List.foldl_nil, List.getD_cons_zero, List.getD_cons_succ, List.getD_nil, cond_true, cond_false, Act.put, List.setIfInBounds_toArray, List.set_cons_zero, List.set_cons_succ] at hb
      subst hb
      rw [if_pos (by rfl)]
      have HSS := Lib.hid hS
      clear hS
      go_wp2_with fail
      have hbm := (Below.refl wS.heap.size wS).alloc (Nat.le_refl _) (.cells #[] 50)
      exact hK.out _ _ ⟨_, rfl, lw_below rfl HSS.out hbm, owned_empty _ 6 (lw_le HSS.out), AllPX.of _ (fun j _ _ h => fkV_below hbm h)⟩
    refine RelyStepsX.cons (RelyStepX.mk [] [0, 3, 4, 5, 6, 7, 8, 9, 10] rfl rfl rfl (fun xv Lv wS hS hL hLd hV bq hb K hK => ?_)) ?_
    · clear hV
      simp only [putsOf, List.foldl_cons, List.foldl_nil, List.getD_cons_zero, List.getD_cons_succ, List.getD_nil, cond_true, cond_false, Act.put, List.setIfInBounds_toArray, List.set_cons_zero, List.set_cons_succ] at hb
      subst hb
      rw [if_pos (by rfl)]
      go_wp2_with fail
      exact hK.out _ _ ⟨_, rfl, lw_op (i := 1) rfl hS, rfl, AllPX.same _⟩
    refine RelyStepsX.cons (RelyStepX.mk [0, 1] [3, 5, 6, 7, 8, 9, 10] rfl rfl rfl (fun xv Lv wS hS hL hLd hV bq hb K hK => ?_)) ?_
    · obtain ⟨h0, h1, _⟩ := hV
      have h1 : xv 1 = _ := h1
      simp only [putsOf, List.foldl_cons, List.foldl_nil, List.getD_cons_zero, List.getD_cons_succ, List.getD_nil, cond_true, cond_false, Act.put, List.setIfInBounds_toArray, List.set_cons_zero, List.set_cons_succ, h1] at hb
      generalize hy0 : xv 0 = y0 at *
      clear h1
      subst hb
      rw [if_pos (by rfl)]
      have HSS := Lib.hid hS
      clear hS
      refine step_list (ops := #[]) (by rfl) (append_argS wS 6 rfl (.tmp 29) (.tmp 30) 22 rfl w3.heap.size 50 _ 48 Try.underlying22 Try.infoIn rfl (by decide) _ 0 [] rfl h0 A l.length c rfl (rowsOf inF l) (HIN.out _ (HB.out.trans (HSS.out.1.mono HB.out.size))) (inF_one _) (by unfold maxLen; omega) (by omega) (lw_le HSS.out) ?_)
      intro v' w' ho hb hgr
      rw [List.nil_append, Nat.zero_add] at ho
      have hkg := Kept.of_grown hgr
      exact hK.out _ _ ⟨_, rfl, lw_grow rfl HSS.out hb h0 hkg (by decide) (by decide), ho, AllPX.of _ (fun j hj _ h => fkV_grow h0 hkg (all_typ rfl hj) h)⟩
    refine RelyStepsX.cons (RelyStepX.mk [] [0, 1, 2, 5, 6, 7, 8, 9, 10] rfl rfl rfl (fun xv Lv wS hS hL hLd hV bq hb K hK => ?_)) ?_
    · clear hV
      simp only [putsOf, List.foldl_cons, List.foldl_nil, List.getD_cons_zero, List.getD_cons_succ, List.getD_nil, cond_true, cond_false, Act.put, List.setIfInBounds_toArray, List.set_cons_zero, List.set_cons_succ] at hb
      subst hb
      rw [if_pos (by rfl)]
      (have HZ := Lib.hid (HG.out.below hS.1 HG.out.lt); have c0 := (HZ.out.cell 0).trans (show _ = some (Value.int .i64 s.x.at_) from rfl); have c1 := (HZ.out.cell 1).trans (show _ = some (Value.int .i64 s.x.ph) from rfl); have c2 := (HZ.out.cell 2).trans (show _ = some (Value.int .i64 s.x.rg) from rfl); have c3 := (HZ.out.cell 3).trans (show _ = some (Value.int .i64 s.x.st) from rfl); have c4 := (HZ.out.cell 4).trans (show _ = some (Value.int .u64 (s.x.tk : Int)) from rfl); have c5 := (HZ.out.cell 5).trans (show _ = some (Value.int .u64 (s.x.r 0 : Int)) from rfl); have c6 := (HZ.out.cell 6).trans (show _ = some (Value.int .u64 (s.x.r 1 : Int)) from rfl); have c7 := (HZ.out.cell 7).trans (show _ = some (Value.int .u64 (s.x.r 2 : Int)) from rfl); have c8 := (HZ.out.cell 8).trans (show _ = some (Value.int .u64 (s.x.r 3 : Int)) from rfl); have c9 := (HZ.out.cell 9).trans (show _ = some (Value.int .u64 (s.x.r 4 : Int)) from rfl); have c10 := (HZ.out.cell 10).trans (show _ = some (Value.int .u64 (s.x.r 5 : Int)) from rfl); have c11 := (HZ.out.cell 11).trans (show _ = some (Value.int .u64 (s.x.r 6 : Int)) from rfl); have c12 := (HZ.out.cell 12).trans (show _ = some (Value.int .u64 (s.x.r 7 : Int)) from rfl); have c13 := (HZ.out.cell 13).trans (show _ = some ((.slice s.S s.x.sn.length s.cs)) from rfl); have cl := HZ.out.lt)
      go_wp2_with fail
      exact hK.out _ _ ⟨_, rfl, lw_op (i := 3) rfl hS, rfl, AllPX.same _⟩
    refine RelyStepsX.cons (RelyStepX.mk [2, 3] [6, 7, 8, 9, 10] rfl rfl rfl (fun xv Lv wS hS hL hLd hV bq hb K hK => ?_)) ?_
    · obtain ⟨h2, h3, _⟩ := hV
      have h3 : xv 3 = _ := h3
      simp only [putsOf, List.foldl_cons, List.foldl_nil, List.getD_cons_zero, List.getD_cons_succ, List.getD_nil, cond_true, cond_false, Act.put, List.setIfInBounds_toArray, List.set_cons_zero, List.set_cons_succ, h3] at hb
      generalize hy2 : xv 2 = y2 at *
      clear h3
      subst hb
      rw [if_pos (by rfl)]
      have HSS := Lib.hid hS
      clear hS
      obtain ⟨A0, k0, rfl⟩ := owns_slice (show World.ownsRow wS w3.heap.size _ _ _ _ _ from h2)
      have hrow : World.ownsRow wS w3.heap.size _ _ _ _ _ := h2
      have HROW := Lib.hid hrow
      clear hrow h2
      go_wp2_with fail
      refine (DOC.out A0 k0 wS HROW.out (HB.out.trans (HSS.out.1.mono HB.out.size))).mono ?_
      rintro e w' ⟨u, rfl, ho, hbm⟩
      exact hK.out _ _ ⟨_, rfl, lw_below rfl HSS.out hbm, ⟨u, rfl, ownTh_mono ho (lw_le HSS.out)⟩, AllPX.of _ (fun j _ _ h => fkV_below hbm h)⟩
    refine RelyStepsX.cons (RelyStepX.mk [4] [9, 10] rfl rfl rfl (fun xv Lv wS hS hL hLd hV bq hb K hK => ?_)) ?_
    · obtain ⟨h4, _⟩ := hV
      simp only [putsOf, List.foldl_cons, List.foldl_nil, List.getD_cons_zero, List.getD_cons_succ, List.getD_nil, cond_true, cond_false, Act.put, List.setIfInBounds_toArray, List.set_cons_zero, List.set_cons_succ] at hb
      generalize hy4 : xv 4 = y4 at *
      subst hb
      rw [if_pos (by rfl)]
      have HSS := Lib.hid hS
      clear hS
      obtain ⟨u1, rfl, ho⟩ := h4
      go_wp2_with fail
      exact hK.out _ _ ⟨_, rfl, lw_pure rfl HSS.out, ⟨u1, rfl, ho⟩, AllPX.same _⟩
    refine RelyStepsX.cons (RelyStepX.mk [5] [0, 1, 5, 7, 8, 9, 10] rfl rfl rfl (fun xv Lv wS hS hL hLd hV bq hb K hK => ?_)) ?_
    · obtain ⟨h5, _⟩ := hV
      simp only [putsOf, List.foldl_cons, List.foldl_nil, List.getD_cons_zero, List.getD_cons_succ, List.getD_nil, cond_true, cond_false, Act.put, List.setIfInBounds_toArray, List.set_cons_zero, List.set_cons_succ] at hb
      generalize hy5 : xv 5 = y5 at *
      subst hb
      rw [if_pos (by rfl)]
      have HSS := Lib.hid hS
      clear hS
      obtain ⟨u1, rfl, ho⟩ := h5
      go_wp2_with fail
      exact hK.out _ _ ⟨_, rfl, lw_pure rfl HSS.out, ho, AllPX.same _⟩
    refine RelyStepsX.cons (RelyStepX.mk [5] [0, 1, 5, 6, 8, 9, 10] rfl rfl rfl (fun xv Lv wS hS hL hLd hV bq hb K hK => ?_)) ?_
    · obtain ⟨h5, _⟩ := hV
      simp only [putsOf, List.foldl_cons, List.foldl_nil, List.getD_cons_zero, List.getD_cons_succ, List.getD_nil, cond_true, cond_false, Act.put, List.setIfInBounds_toArray, List.set_cons_zero, List.set_cons_succ] at hb
      generalize hy5 : xv 5 = y5 at *
      subst hb
      rw [if_pos (by rfl)]
      have HSS := Lib.hid hS
      clear hS
      obtain ⟨u1, rfl, ho⟩ := h5
      go_wp2_with fail
      exact hK.out _ _ ⟨_, rfl, lw_pure rfl HSS.out, rfl, AllPX.same _⟩
    refine RelyStepsX.cons (RelyStepX.mk [5] [0, 1, 5, 6, 7, 9, 10] rfl rfl rfl (fun xv Lv wS hS hL hLd hV bq hb K hK => ?_)) ?_
    · obtain ⟨h5, _⟩ := hV
      simp only [putsOf, List.foldl_cons, List.foldl_nil, List.getD_cons_zero, List.getD_cons_succ, List.getD_nil, cond_true, cond_false, Act.put, List.setIfInBounds_toArray, List.set_cons_zero, List.set_cons_succ] at hb
      generalize hy5 : xv 5 = y5 at *
      subst hb
      rw [if_pos (by rfl)]
      have HSS := Lib.hid hS
      clear hS
      obtain ⟨u1, rfl, ho⟩ := h5
      go_wp2_with fail
      exact hK.out _ _ ⟨_, rfl, lw_pure rfl HSS.out, rfl, AllPX.same _⟩
    refine RelyStepsX.cons (RelyStepX.mk [] [0, 1, 2, 3, 4, 5, 6, 7, 8, 10] rfl rfl rfl (fun xv Lv wS hS hL hLd hV bq hb K hK => ?_)) ?_
    · clear hV
      simp only [putsOf, List.foldl_cons, List.foldl_nil, List.getD_cons_zero, List.getD_cons_succ, List.getD_nil, cond_true, cond_false, Act.put, List.setIfInBounds_toArray, List.set_cons_zero, List.set_cons_succ] at hb
      subst hb
      rw [if_pos (by rfl)]
      have HSS := Lib.hid hS
      clear hS
      go_wp2_with fail
      have hbm := (Below.refl wS.heap.size wS).alloc (Nat.le_refl _) (.cells thZ 27)
      exact hK.out _ _ ⟨_, rfl, lw_made1 rfl HSS.out, trivial, AllPX.of _ (fun j _ _ h => fkV_below hbm h)⟩
    refine RelyStepsX.cons (RelyStepX.mk [] [0, 1, 2, 3, 4, 5, 6, 7, 8, 9] rfl rfl rfl (fun xv Lv wS hS hL hLd hV bq hb K hK => ?_)) ?_
    · clear hV
      simp only [putsOf, List.foldl_cons, List.foldl_nil, List.getD_cons_zero, List.getD_cons_succ, List.getD_nil, cond_true, cond_false, Act.put, List.setIfInBounds_toArray, List.set_cons_zero, List.set_cons_succ] at hb
      subst hb
      rw [if_pos (by rfl)]
      have HSS := Lib.hid hS
      clear hS
      go_wp2_with fail
      have hbm := (Below.refl wS.heap.size wS).alloc (Nat.le_refl _) (.cells akZ 31)
      exact hK.out _ _ ⟨_, rfl, lw_made2 rfl HSS.out, trivial, AllPX.of _ (fun j _ _ h => fkV_below hbm h)⟩
    refine RelyStepsX.cons (RelyStepX.mk [9, 6] [5, 6, 7, 8, 10] rfl rfl rfl (fun xv Lv wS hS hL hLd hV bq hb K hK => ?_)) ?_
    · obtain ⟨h9, h6, _⟩ := hV
      simp only [putsOf, List.foldl_cons, List.foldl_nil, List.getD_cons_zero, List.getD_cons_succ, List.getD_nil, cond_true, cond_false, Act.put, List.setIfInBounds_toArray, List.set_cons_zero, List.set_cons_succ] at hb
      generalize hy9 : xv 9 = y9 at *
      generalize hy6 : xv 6 = y6 at *
      subst hb
      rw [if_pos (by rfl)]
      have HSS := Lib.hid hS
      clear hS
      obtain ⟨g, hg, hN, hl⟩ := bk_open HSS.out.2.1 (hLd 9 (by decide +kernel)) hL
      rw [hy9] at hg
      subst hg
      obtain ⟨A5, k5, e5, ho5⟩ := h6
      subst e5
      refine wp_store_row _ _ _ rfl g (thC thO (.slice A5 (thO).sn.length k5)) rfl rfl 27 thZ hl infoTh rfl (thC_one _ rfl) ?_
      exact hK.out _ _ ⟨undef, rfl, lw_store1 rfl HSS.out (hLd 9 (by decide +kernel)) (hLd 6 (by decide +kernel)) hy9 hN hl hy6 (by decide), trivial, AllPX.of _ (fun j hj _ h => fkV_row _ hl (all_typ rfl hj) h)⟩
    refine RelyStepsX.cons (RelyStepX.mk [10, 7] [5, 6, 7, 8] rfl rfl rfl (fun xv Lv wS hS hL hLd hV bq hb K hK => ?_)) ?_
    · obtain ⟨h10, h7, _⟩ := hV
      simp only [putsOf, List.foldl_cons, List.foldl_nil, List.getD_cons_zero, List.getD_cons_succ, List.getD_nil, cond_true, cond_false, Act.put, List.setIfInBounds_toArray, List.set_cons_zero, List.set_cons_succ] at hb
      generalize hy10 : xv 10 = y10 at *
      generalize hy7 : xv 7 = y7 at *
      subst hb
      rw [if_pos (by rfl)]
      have HSS := Lib.hid hS
      clear hS
      obtain ⟨g, hg, hN, hl⟩ := bk_open HSS.out.2.2 (hLd 10 (by decide +kernel)) hL
      rw [hy10] at hg
      subst hg
      have e7 : y7 = .agg (akC (noneA 0)) := h7
      subst e7
      refine wp_store_row _ _ _ rfl g (akC (noneA 0)) rfl rfl 31 akZ hl infoAk rfl (akC_one _) ?_
      exact hK.out _ _ ⟨undef, rfl, lw_store2 rfl HSS.out (hLd 10 (by decide +kernel)) (hLd 7 (by decide +kernel)) hy10 hN hl hy7 (by decide), trivial, AllPX.of _ (fun j hj _ h => fkV_row _ hl (all_typ rfl hj) h)⟩
    refine RelyStepsX.cons (RelyStepX.mk [8] [6, 7] rfl rfl rfl (fun xv Lv wS hS hL hLd hV bq hb K hK => ?_)) ?_
    · obtain ⟨h8, _⟩ := hV
      have h8 : xv 8 = _ := h8
      simp only [putsOf, List.foldl_cons, List.foldl_nil, List.getD_cons_zero, List.getD_cons_succ, List.getD_nil, cond_true, cond_false, Act.put, List.setIfInBounds_toArray, List.set_cons_zero, List.set_cons_succ, h8] at hb
      clear h8
      subst hb
      rw [if_pos (by rfl)]
      go_wp2_with fail
      exact hK.out _ _ ⟨_, rfl, lw_op (i := 13) rfl hS, rfl, AllPX.same _⟩
    exact RelyStepsX.nil
  case rE =>
    intro xv Lv wE hS hLall hV
    have h6 := hV 6 (by decide) (by decide)
    have h7 := hV 7 (by decide) (by decide)
    have h13 := hV 13 (by decide) (by decide)
    clear hV
    obtain ⟨g1, a1, hx1, hN1, hl1, hv1⟩ := bk_done hS.2.1 (hLall 9 (by decide +kernel)) (hLall 11 (by decide +kernel))
    obtain ⟨g2, a2, hx2, hN2, hl2, hv2⟩ := bk_done hS.2.2 (hLall 10 (by decide +kernel)) (hLall 12 (by decide +kernel))
    simp only [putsOf, List.foldl_cons, List.foldl_nil, List.getD_cons_zero, List.getD_cons_succ, List.getD_nil, cond_true, cond_false, Act.put, List.setIfInBounds_toArray, List.set_cons_zero, List.set_cons_succ]
    have h13 : xv 13 = _ := h13
    rw [h13]; clear h13
    generalize xv 0 = y0 at *
    generalize xv 1 = y1 at *
    generalize xv 2 = y2 at *
    generalize xv 3 = y3 at *
    generalize xv 4 = y4 at *
    generalize xv 5 = y5 at *
    generalize xv 6 = y6 at *
    generalize xv 7 = y7 at *
    generalize xv 8 = y8 at *
    generalize xv 9 = y9 at *
    generalize xv 10 = y10 at *
    generalize xv 11 = y11 at *
    generalize xv 12 = y12 at *
    have hbm := hS.1
    subst hx1
    subst hx2
    obtain ⟨A5, k5, e5, ho5⟩ := h6
    rw [hv1] at e5
    injection e5 with e5
    subst e5
    have e7 : y7 = .agg (akC (noneA 0)) := h7
    rw [hv2] at e7
    injection e7 with e7
    subst e7
    have HT1 := Lib.hid hl1
    have HA1 := Lib.hid hl2
    have HO1 := Lib.hid (owns_mono ho5 (Nat.zero_le _))
    clear hv1 ho5 hl1 hN1 hv2 hl2 hN2
    generalize g1 = b1 at *
    generalize g2 = b2 at *
    replace HG := Lib.hid (HG.out.below hbm HG.out.lt)
    replace HB := Lib.hid (HB.out.trans (hbm.mono HB.out.size))
    clear hS hbm hLall DOC
    generalize wE = w4 at *
    obtain ⟨cb, hcb⟩ : ∃ b, codeB l = b := ⟨_, rfl⟩
    have hcc : (cb != cb) = false := by cases cb <;> rfl
    have HC1 := Lib.hid (code16 l A c w4 (HIN.out _ HB.out))
    rw [hcb] at HC1
    have HCB := Lib.hid hcb
    clear hcb
    go_wp2_with fail
    refine HC1.out.mono ?_
    rintro q w5 ⟨rfl, hbm⟩
    replace HG := Lib.hid (HG.out.below hbm HG.out.lt)
    replace HT1 := Lib.hid (HT1.out.below hbm HT1.out.lt)
    replace HA1 := Lib.hid (HA1.out.below hbm HA1.out.lt)
    replace HO1 := Lib.hid (owned_below HO1.out hbm)
    replace HB := Lib.hid (HB.out.trans (hbm.mono HB.out.size))
    have HC2 := Lib.hid (rfCode16 l A c w5 (HIN.out _ HB.out) HOK.out)
    rw [HCB.out] at HC2
    clear hbm HC1
    go_wp2_with fail
    refine HC2.out.mono ?_
    rintro q w6 ⟨rfl, hbm⟩
    replace HG := Lib.hid (HG.out.below hbm HG.out.lt)
    replace HT1 := Lib.hid (HT1.out.below hbm HT1.out.lt)
    replace HA1 := Lib.hid (HA1.out.below hbm HA1.out.lt)
    replace HO1 := Lib.hid (owned_below HO1.out hbm)
    replace HB := Lib.hid (HB.out.trans (hbm.mono HB.out.size))
    clear hbm HC2 HCB
    have c0 := (HG.out.cell 0).trans (show _ = some (Value.int .i64 s.x.at_) from rfl)
    have c1 := (HG.out.cell 1).trans (show _ = some (Value.int .i64 s.x.ph) from rfl)
    have c2 := (HG.out.cell 2).trans (show _ = some (Value.int .i64 s.x.rg) from rfl)
    have c3 := (HG.out.cell 3).trans (show _ = some (Value.int .i64 s.x.st) from rfl)
    have c4 := (HG.out.cell 4).trans (show _ = some (Value.int .u64 (s.x.tk : Int)) from rfl)
    have c5 := (HG.out.cell 5).trans (show _ = some (Value.int .u64 (s.x.r 0 : Int)) from rfl)
    have c6 := (HG.out.cell 6).trans (show _ = some (Value.int .u64 (s.x.r 1 : Int)) from rfl)
    have c7 := (HG.out.cell 7).trans (show _ = some (Value.int .u64 (s.x.r 2 : Int)) from rfl)
    have c8 := (HG.out.cell 8).trans (show _ = some (Value.int .u64 (s.x.r 3 : Int)) from rfl)
    have c9 := (HG.out.cell 9).trans (show _ = some (Value.int .u64 (s.x.r 4 : Int)) from rfl)
    have c10 := (HG.out.cell 10).trans (show _ = some (Value.int .u64 (s.x.r 5 : Int)) from rfl)
    have c11 := (HG.out.cell 11).trans (show _ = some (Value.int .u64 (s.x.r 6 : Int)) from rfl)
    have c12 := (HG.out.cell 12).trans (show _ = some (Value.int .u64 (s.x.r 7 : Int)) from rfl)
    have c13 := (HG.out.cell 13).trans (show _ = some ((.slice s.S s.x.sn.length s.cs)) from rfl)
    have cl := HG.out.lt
    go_wp2_with fail
    clear hcc
    refine (thRight l A c s.x (.slice s.S s.x.sn.length s.cs) w6 (HIN.out _ HB.out)).mono ?_
    rw [HR.out]
    rintro q w7 ⟨rfl, hbm⟩
    clear c0 c1 c2 c3 c4 c5 c6 c7 c8 c9 c10 c11 c12 c13 cl
    replace HG := Lib.hid (HG.out.below hbm HG.out.lt)
    replace HT1 := Lib.hid (HT1.out.below hbm HT1.out.lt)
    replace HA1 := Lib.hid (HA1.out.below hbm HA1.out.lt)
    replace HO1 := Lib.hid (owned_below HO1.out hbm)
    replace HB := Lib.hid (HB.out.trans (hbm.mono HB.out.size))
    clear hbm
    have c0 := (HT1.out.cell 0).trans (show _ = some (Value.int .i64 thO.at_) from rfl)
    have c1 := (HT1.out.cell 1).trans (show _ = some (Value.int .i64 thO.ph) from rfl)
    have c2 := (HT1.out.cell 2).trans (show _ = some (Value.int .i64 thO.rg) from rfl)
    have c3 := (HT1.out.cell 3).trans (show _ = some (Value.int .i64 thO.st) from rfl)
    have c4 := (HT1.out.cell 4).trans (show _ = some (Value.int .u64 (thO.tk : Int)) from rfl)
    have c5 := (HT1.out.cell 5).trans (show _ = some (Value.int .u64 (thO.r 0 : Int)) from rfl)
    have c6 := (HT1.out.cell 6).trans (show _ = some (Value.int .u64 (thO.r 1 : Int)) from rfl)
    have c7 := (HT1.out.cell 7).trans (show _ = some (Value.int .u64 (thO.r 2 : Int)) from rfl)
    have c8 := (HT1.out.cell 8).trans (show _ = some (Value.int .u64 (thO.r 3 : Int)) from rfl)
    have c9 := (HT1.out.cell 9).trans (show _ = some (Value.int .u64 (thO.r 4 : Int)) from rfl)
    have c10 := (HT1.out.cell 10).trans (show _ = some (Value.int .u64 (thO.r 5 : Int)) from rfl)
    have c11 := (HT1.out.cell 11).trans (show _ = some (Value.int .u64 (thO.r 6 : Int)) from rfl)
    have c12 := (HT1.out.cell 12).trans (show _ = some (Value.int .u64 (thO.r 7 : Int)) from rfl)
    have c13 := (HT1.out.cell 13).trans (show _ = some ((.slice A5 thO.sn.length k5)) from rfl)
    have cl := HT1.out.lt
    have ka0 := (HA1.out.cell 0).trans (show _ = some (Value.int .i64 0) from rfl)
    have ka1 := (HA1.out.cell 1).trans (show _ = some (Value.int .i64 0) from rfl)
    have ka2 := (HA1.out.cell 2).trans (show _ = some (Value.int .i64 0) from rfl)
    have ka3 := (HA1.out.cell 3).trans (show _ = some (Value.int .i64 0) from rfl)
    have ka4 := (HA1.out.cell 4).trans (show _ = some (Value.int .u64 0) from rfl)
    have ka5 := (HA1.out.cell 5).trans (show _ = some (Value.int .u64 0) from rfl)
    have kal := HA1.out.lt
    have hq1 : ∀ q : World, (binOp .eql 31 (.agg #[.int .i64 0, .int .i64 0, .int .i64 0, .int .i64 0, .int .u64 0, .int .u64 0]) (.agg #[.int .i64 0, .int .i64 0, .int .i64 0, .int .i64 0, .int .u64 0, .int .u64 0])).run Try.prog q = .ok (.bool true) q := fun q => akEql ⟨0, 0, 0, 0, 0, 0⟩ ⟨0, 0, 0, 0, 0, 0⟩ q
    have hgd := akGuard
    have hhd := akHeld
    have HSA := Lib.hid (seqAt16 (SeqS.of_owns HO1.out))
    have HSB := Lib.hid (seqAt16 (seqO w7))
    go_wp2_with fail
    refine (thSame thO thO A5 k5 none 0 w7 HSA.out HSB.out).mono ?_
    rw [samT_self]
    rintro q w8 ⟨rfl, hb8⟩
    have HBZ := Lib.hid (HB.out.trans (hb8.mono HB.out.size))
    clear hq1 hgd hhd
    go_wp2
    go_ret
    exact ⟨rfl, HBZ.out⟩
set_option maxHeartbeats 8000000 in
set_option maxRecDepth 100000 in
theorem next_true (A : Option Addr) (len c : Nat) (l : List In) (s : Ta) (w : World) (h0 : InArg w A len c l) (h1 : TaAt w s) (hr : thB l s.x = true) :
    Calls Try.prog 3 #[.slice A len c, .agg (thC s.x (.slice s.S s.x.sn.length s.cs))] w fun q w' => q = .returned (.bool true) ∧ Below w.heap.size w w' := by
  obtain ⟨rfl, hin, hok⟩ := h0
  obtain ⟨hx, hsq⟩ := h1
  obtain ⟨hc1, hc2⟩ := seq_form hin
  have hb0 : Below w.heap.size w (w.alloc (.cells (thC s.x (.slice s.S s.x.sn.length s.cs)) 27)) := (Below.refl _ _).alloc (Nat.le_refl _) _
  have l0 := Lies.made w 27 (thC s.x (.slice s.S s.x.sn.length s.cs))
  have HB := Lib.hid hb0
  have HG := Lib.hid l0
  have HIN := Lib.hid (show ∀ q : World, Below w.heap.size w q → InsAt q A c l from fun q hq => hin.later hq)
  have HSQ := Lib.hid (fun (q : World) (hq : Below w.heap.size w q) => hsq.later hq)
  have HOK := Lib.hid hok
  have HX := Lib.hid hx
  have HR := Lib.hid hr
  clear hb0 l0 hin hsq hok hx hr
  go_enter Try.func3, Try.ntmps3
  go_upto_region 1 with (fail)
  generalize hw1 : (w.alloc (.cells (thC s.x (.slice s.S s.x.sn.length s.cs)) 27)) = w1 at *
  clear hw1
  go_wp2_with fail
  refine (awake16 _).mono ?_
  rintro q w2 ⟨rfl, hbm⟩
  replace HG := Lib.hid (HG.out.below hbm HG.out.lt)
  replace HB := Lib.hid (HB.out.trans (hbm.mono HB.out.size))
  clear hbm w1
  have c13 := (HG.out.cell 13).trans (show _ = some (.slice s.S s.x.sn.length s.cs) from rfl)
  have cl := HG.out.lt
  by_cases hl3 : 300 < l.length
  · have d1 : decide ((300 : Int) < (l.length : Int)) = true := decide_eq_true (by omega)
    have d1n : decide (300 < l.length) = true := decide_eq_true hl3
    go_wp2_with fail
    refine (awake16 _).mono ?_
    rintro q w3 ⟨rfl, hbm⟩
    have HBZ := Lib.hid (HB.out.trans (hbm.mono HB.out.size))
    go_wp2
    go_ret
    exact ⟨rfl, HBZ.out⟩
  have d1 : decide ((300 : Int) < (l.length : Int)) = false := decide_eq_false (by omega)
  have d1n : decide (300 < l.length) = false := decide_eq_false hl3
  by_cases hl1 : 100 < s.x.sn.length
  · have d2 : decide ((100 : Int) < (s.x.sn.length : Int)) = true := decide_eq_true (by omega)
    have d2n : decide (100 < s.x.sn.length) = true := decide_eq_true hl1
    go_wp2_with fail
    refine (awake16 _).mono ?_
    rintro q w3 ⟨rfl, hbm⟩
    have HBZ := Lib.hid (HB.out.trans (hbm.mono HB.out.size))
    go_wp2
    go_ret
    exact ⟨rfl, HBZ.out⟩
  have d2 : decide ((100 : Int) < (s.x.sn.length : Int)) = false := decide_eq_false (by omega)
  have d2n : decide (100 < s.x.sn.length) = false := decide_eq_false hl1
  have c0 := (HG.out.cell 0).trans (show _ = some (Value.int .i64 s.x.at_) from rfl)
  have c1 := (HG.out.cell 1).trans (show _ = some (Value.int .i64 s.x.ph) from rfl)
  have c2 := (HG.out.cell 2).trans (show _ = some (Value.int .i64 s.x.rg) from rfl)
  have c3 := (HG.out.cell 3).trans (show _ = some (Value.int .i64 s.x.st) from rfl)
  have c4 := (HG.out.cell 4).trans (show _ = some (Value.int .u64 (s.x.tk : Int)) from rfl)
  have c5 := (HG.out.cell 5).trans (show _ = some (Value.int .u64 (s.x.r 0 : Int)) from rfl)
  have c6 := (HG.out.cell 6).trans (show _ = some (Value.int .u64 (s.x.r 1 : Int)) from rfl)
  have c7 := (HG.out.cell 7).trans (show _ = some (Value.int .u64 (s.x.r 2 : Int)) from rfl)
  have c8 := (HG.out.cell 8).trans (show _ = some (Value.int .u64 (s.x.r 3 : Int)) from rfl)
  have c9 := (HG.out.cell 9).trans (show _ = some (Value.int .u64 (s.x.r 4 : Int)) from rfl)
  have c10 := (HG.out.cell 10).trans (show _ = some (Value.int .u64 (s.x.r 5 : Int)) from rfl)
  have c11 := (HG.out.cell 11).trans (show _ = some (Value.int .u64 (s.x.r 6 : Int)) from rfl)
  have c12 := (HG.out.cell 12).trans (show _ = some (Value.int .u64 (s.x.r 7 : Int)) from rfl)
  have c13 := (HG.out.cell 13).trans (show _ = some ((.slice s.S s.x.sn.length s.cs)) from rfl)
  have cl := HG.out.lt
  go_wp2_with fail
  refine (rfThRight l A c s.x (.slice s.S s.x.sn.length s.cs) w2 (HIN.out _ HB.out) HOK.out).mono ?_
  rw [HR.out]
  rintro q w3 ⟨rfl, hbm⟩
  clear d1 d1n d2 d2n
  clear c0 c1 c2 c3 c4 c5 c6 c7 c8 c9 c10 c11 c12 c13 cl
  replace HG := Lib.hid (HG.out.below hbm HG.out.lt)
  replace HB := Lib.hid (HB.out.trans (hbm.mono HB.out.size))
  clear hbm
  go_wp2_with fail
  have hnf := nxT_facts HR.out HX.out HOK.out
  have hsn0 := hnf.2.2
  generalize hzt : nxT l s.x = zt at *
  generalize hza : reqA l zt = za at *
  have HZT := Lib.hid hzt
  have HZA := Lib.hid hza
  have HSN := Lib.hid hsn0
  clear hnf hzt hza hsn0
  have HZZ : Hid (nxZ l s.x = (zt, za, 0)) := by show _ = _; unfold nxZ; rw [if_pos HR.out, HZT.out, HZA.out]
  have doc : ∀ (A0 : Option Addr) (k0 : Nat) (q : World), World.ownsRow q w3.heap.size 50 6 (.slice A0 l.length k0) l.length (rowsOf inF l) → Below w.heap.size w q → Calls Try.prog 10 #[.slice A0 l.length k0, .agg (thC s.x (.slice s.S s.x.sn.length s.cs))] q (NxPost (zt, za, 0) q) := fun A0 k0 q hr hb => by
    rw [← HZZ.out]
    exact nextU l A0 k0 s.x s.S s.cs q (SeqS.of_owns hr) HOK.out HX.out (HSQ.out q hb) (by omega)
  have DOC := Lib.hid doc
  clear doc
  refine wp_region_relyx (lwS w3 27 31 9 11 6 thZ 10 12 7 akZ) (fkV w3.heap.size [.row 50 6 0 [], .eq (.slice A l.length c), .row 50 6 l.length (rowsOf inF l), .eq (.agg (thC s.x (.slice s.S s.x.sn.length s.cs))), .tup zt [.agg (akC za), .int .i64 0], .tup zt [.agg (akC za), .int .i64 0], .st zt, .eq (.agg (akC za)), .eq (.int .i64 0), .any, .any, .any, .any, .eq (.int .i64 0)]) [some 29, some 30, some 31, some 32, some 33, some 28, some 34, some 35, some 36, some 6, some 7, none, none, some 8] [[], [], [0, 1], [], [2, 3], [4], [5], [5], [5], [], [], [9, 6], [10, 7], [8]] [[], [], [0, 1], [], [0, 1, 2, 3], [2, 3, 4], [4], [4, 11], [4, 11, 12], [], [], [0, 1, 2, 3, 4, 9], [0, 1, 2, 3, 4, 9, 10, 11], [0, 1, 2, 3, 4, 5, 8, 9, 10, 11, 12]] [[1, 3, 4, 5, 6, 7, 8, 9, 10], [0, 3, 4, 5, 6, 7, 8, 9, 10], [3, 5, 6, 7, 8, 9, 10], [0, 1, 2, 5, 6, 7, 8, 9, 10], [6, 7, 8, 9, 10], [9, 10], [0, 1, 5, 7, 8, 9, 10], [0, 1, 5, 6, 8, 9, 10], [0, 1, 5, 6, 7, 9, 10], [0, 1, 2, 3, 4, 5, 6, 7, 8, 10], [0, 1, 2, 3, 4, 5, 6, 7, 8, 9], [5, 6, 7, 8, 10], [5, 6, 7, 8], [6, 7]] [0, 1, 2, 3, 4, 5, 6, 7, 8, 9, 10, 11, 12, 13] 14 (by kernel_rfl) (by kernel_rfl) (by kernel_rfl) (by kernel_rfl) ?rS (fun j h1 h2 => absurd (Nat.lt_of_lt_of_le h1 (Nat.le_trans (by decide) h2)) (Nat.lt_irrefl _)) ?rT ?rE
  case rS => exact lw_start
  case rT =>
    refine RelyStepsX.cons (RelyStepX.mk [] [1, 3, 4, 5, 6, 7, 8, 9, 10] rfl rfl rfl (fun xv Lv wS hS hL hLd hV bq hb K hK => ?_)) ?_
    · clear hV
      simp only [putsOf, List.foldl_cons, List.foldl_nil, List.getD_cons_zero, List.getD_cons_succ, List.getD_nil, cond_true, cond_false, Act.put, List.setIfInBounds_toArray, List.set_cons_zero, List.set_cons_succ] at hb
      subst hb
      rw [if_pos (by rfl)]
      have HSS := Lib.hid hS
      clear hS
      go_wp2_with fail
      have hbm := (Below.refl wS.heap.size wS).alloc (Nat.le_refl _) (.cells #[] 50)
      exact hK.out _ _ ⟨_, rfl, lw_below rfl HSS.out hbm, owned_empty _ 6 (lw_le HSS.out), AllPX.of _ (fun j _ _ h => fkV_below hbm h)⟩
    refine RelyStepsX.cons (RelyStepX.mk [] [0, 3, 4, 5, 6, 7, 8, 9, 10] rfl rfl rfl (fun xv Lv wS hS hL hLd hV bq hb K hK => ?_)) ?_
    · clear hV
      simp only [putsOf, List.foldl_cons, List.foldl_nil, List.getD_cons_zero, List.getD_cons_succ, List.getD_nil, cond_true, cond_false, Act.put, List.setIfInBounds_toArray, List.set_cons_zero, List.set_cons_succ] at hb
      subst hb
      rw [if_pos (by rfl)]
      go_wp2_with fail
      exact hK.out _ _ ⟨_, rfl, lw_op (i := 1) rfl hS, rfl, AllPX.same _⟩
    refine RelyStepsX.cons (RelyStepX.mk [0, 1] [3, 5, 6, 7, 8, 9, 10] rfl rfl rfl (fun xv Lv wS hS hL hLd hV bq hb K hK => ?_)) ?_
    · obtain ⟨h0, h1, _⟩ := hV
      have h1 : xv 1 = _ := h1
      simp only [putsOf, List.foldl_cons, List.foldl_nil, List.getD_cons_zero, List.getD_cons_succ, List.getD_nil, cond_true, cond_false, Act.put, List.setIfInBounds_toArray, List.set_cons_zero, List.set_cons_succ, h1] at hb
      generalize hy0 : xv 0 = y0 at *
      clear h1
      subst hb
      rw [if_pos (by rfl)]
      have HSS := Lib.hid hS
      clear hS
      refine step_list (ops := #[]) (by rfl) (append_argS wS 6 rfl (.tmp 29) (.tmp 30) 22 rfl w3.heap.size 50 _ 48 Try.underlying22 Try.infoIn rfl (by decide) _ 0 [] rfl h0 A l.length c rfl (rowsOf inF l) (HIN.out _ (HB.out.trans (HSS.out.1.mono HB.out.size))) (inF_one _) (by unfold maxLen; omega) (by omega) (lw_le HSS.out) ?_)
      intro v' w' ho hb hgr
      rw [List.nil_append, Nat.zero_add] at ho
      have hkg := Kept.of_grown hgr
      exact hK.out _ _ ⟨_, rfl, lw_grow rfl HSS.out hb h0 hkg (by decide) (by decide), ho, AllPX.of _ (fun j hj _ h => fkV_grow h0 hkg (all_typ rfl hj) h)⟩
    refine RelyStepsX.cons (RelyStepX.mk [] [0, 1, 2, 5, 6, 7, 8, 9, 10] rfl rfl rfl (fun xv Lv wS hS hL hLd hV bq hb K hK => ?_)) ?_
    · clear hV
      simp only [putsOf, List.foldl_cons, List.foldl_nil, List.getD_cons_zero, List.getD_cons_succ, List.getD_nil, cond_true, cond_false, Act.put, List.setIfInBounds_toArray, List.set_cons_zero, List.set_cons_succ] at hb
      subst hb
      rw [if_pos (by rfl)]
      (have HZ := Lib.hid (HG.out.below hS.1 HG.out.lt); have c0 := (HZ.out.cell 0).trans (show _ = some (Value.int .i64 s.x.at_) from rfl); have c1 := (HZ.out.cell 1).trans (show _ = some (Value.int .i64 s.x.ph) from rfl); have c2 := (HZ.out.cell 2).trans (show _ = some (Value.int .i64 s.x.rg) from rfl); have c3 := (HZ.out.cell 3).trans (show _ = some (Value.int .i64 s.x.st) from rfl); have c4 := (HZ.out.cell 4).trans (show _ = some (Value.int .u64 (s.x.tk : Int)) from rfl); have c5 := (HZ.out.cell 5).trans (show _ = some (Value.int .u64 (s.x.r 0 : Int)) from rfl); have c6 := (HZ.out.cell 6).trans (show _ = some (Value.int .u64 (s.x.r 1 : Int)) from rfl); have c7 := (HZ.out.cell 7).trans (show _ = some (Value.int .u64 (s.x.r 2 : Int)) from rfl); have c8 := (HZ.out.cell 8).trans (show _ = some (Value.int .u64 (s.x.r 3 : Int)) from rfl); have c9 := (HZ.out.cell 9).trans (show _ = some (Value.int .u64 (s.x.r 4 : Int)) from rfl); have c10 := (HZ.out.cell 10).trans (show _ = some (Value.int .u64 (s.x.r 5 : Int)) from rfl); have c11 := (HZ.out.cell 11).trans (show _ = some (Value.int .u64 (s.x.r 6 : Int)) from rfl); have c12 := (HZ.out.cell 12).trans (show _ = some (Value.int .u64 (s.x.r 7 : Int)) from rfl); have c13 := (HZ.out.cell 13).trans (show _ = some ((.slice s.S s.x.sn.length s.cs)) from rfl); have cl := HZ.out.lt)
      go_wp2_with fail
      exact hK.out _ _ ⟨_, rfl, lw_op (i := 3) rfl hS, rfl, AllPX.same _⟩
    refine RelyStepsX.cons (RelyStepX.mk [2, 3] [6, 7, 8, 9, 10] rfl rfl rfl (fun xv Lv wS hS hL hLd hV bq hb K hK => ?_)) ?_
    · obtain ⟨h2, h3, _⟩ := hV
      have h3 : xv 3 = _ := h3
      simp only [putsOf, List.foldl_cons, List.foldl_nil, List.getD_cons_zero, List.getD_cons_succ, List.getD_nil, cond_true, cond_false, Act.put, List.setIfInBounds_toArray, List.set_cons_zero, List.set_cons_succ, h3] at hb
      generalize hy2 : xv 2 = y2 at *
      clear h3
      subst hb
      rw [if_pos (by rfl)]
      have HSS := Lib.hid hS
      clear hS
      obtain ⟨A0, k0, rfl⟩ := owns_slice (show World.ownsRow wS w3.heap.size _ _ _ _ _ from h2)
      have hrow : World.ownsRow wS w3.heap.size _ _ _ _ _ := h2
      have HROW := Lib.hid hrow
      clear hrow h2
      go_wp2_with fail
      refine (DOC.out A0 k0 wS HROW.out (HB.out.trans (HSS.out.1.mono HB.out.size))).mono ?_
      rintro e w' ⟨u, rfl, ho, hbm⟩
      exact hK.out _ _ ⟨_, rfl, lw_below rfl HSS.out hbm, ⟨u, rfl, ownTh_mono ho (lw_le HSS.out)⟩, AllPX.of _ (fun j _ _ h => fkV_below hbm h)⟩
    refine RelyStepsX.cons (RelyStepX.mk [4] [9, 10] rfl rfl rfl (fun xv Lv wS hS hL hLd hV bq hb K hK => ?_)) ?_
    · obtain ⟨h4, _⟩ := hV
      simp only [putsOf, List.foldl_cons, List.foldl_nil, List.getD_cons_zero, List.getD_cons_succ, List.getD_nil, cond_true, cond_false, Act.put, List.setIfInBounds_toArray, List.set_cons_zero, List.set_cons_succ] at hb
      generalize hy4 : xv 4 = y4 at *
      subst hb
      rw [if_pos (by rfl)]
      have HSS := Lib.hid hS
      clear hS
      obtain ⟨u1, rfl, ho⟩ := h4
      go_wp2_with fail
      exact hK.out _ _ ⟨_, rfl, lw_pure rfl HSS.out, ⟨u1, rfl, ho⟩, AllPX.same _⟩
    refine RelyStepsX.cons (RelyStepX.mk [5] [0, 1, 5, 7, 8, 9, 10] rfl rfl rfl (fun xv Lv wS hS hL hLd hV bq hb K hK => ?_)) ?_
    · obtain ⟨h5, _⟩ := hV
      simp only [putsOf, List.foldl_cons, List.foldl_nil, List.getD_cons_zero, List.getD_cons_succ, List.getD_nil, cond_true, cond_false, Act.put, List.setIfInBounds_toArray, List.set_cons_zero, List.set_cons_succ] at hb
      generalize hy5 : xv 5 = y5 at *
      subst hb
      rw [if_pos (by rfl)]
      have HSS := Lib.hid hS
      clear hS
      obtain ⟨u1, rfl, ho⟩ := h5
      go_wp2_with fail
      exact hK.out _ _ ⟨_, rfl, lw_pure rfl HSS.out, ho, AllPX.same _⟩
    refine RelyStepsX.cons (RelyStepX.mk [5] [0, 1, 5, 6, 8, 9, 10] rfl rfl rfl (fun xv Lv wS hS hL hLd hV bq hb K hK => ?_)) ?_
    · obtain ⟨h5, _⟩ := hV
      simp only [putsOf, List.foldl_cons, List.foldl_nil, List.getD_cons_zero, List.getD_cons_succ, List.getD_nil, cond_true, cond_false, Act.put, List.setIfInBounds_toArray, List.set_cons_zero, List.set_cons_succ] at hb
      generalize hy5 : xv 5 = y5 at *
      subst hb
      rw [if_pos (by rfl)]
      have HSS := Lib.hid hS
      clear hS
      obtain ⟨u1, rfl, ho⟩ := h5
      go_wp2_with fail
      exact hK.out _ _ ⟨_, rfl, lw_pure rfl HSS.out, rfl, AllPX.same _⟩
    refine RelyStepsX.cons (RelyStepX.mk [5] [0, 1, 5, 6, 7, 9, 10] rfl rfl rfl (fun xv Lv wS hS hL hLd hV bq hb K hK => ?_)) ?_
    · obtain ⟨h5, _⟩ := hV
      simp only [putsOf, List.foldl_cons, List.foldl_nil, List.getD_cons_zero, List.getD_cons_succ, List.getD_nil, cond_true, cond_false, Act.put, List.setIfInBounds_toArray, List.set_cons_zero, List.set_cons_succ] at hb
      generalize hy5 : xv 5 = y5 at *
      subst hb
      rw [if_pos (by rfl)]
      have HSS := Lib.hid hS
      clear hS
      obtain ⟨u1, rfl, ho⟩ := h5
      go_wp2_with fail
      exact hK.out _ _ ⟨_, rfl, lw_pure rfl HSS.out, rfl, AllPX.same _⟩
    refine RelyStepsX.cons (RelyStepX.mk [] [0, 1, 2, 3, 4, 5, 6, 7, 8, 10] rfl rfl rfl (fun xv Lv wS hS hL hLd hV bq hb K hK => ?_)) ?_
    · clear hV
      simp only [putsOf, List.foldl_cons, List.foldl_nil, List.getD_cons_zero, List.getD_cons_succ, List.getD_nil, cond_true, cond_false, Act.put, List.setIfInBounds_toArray, List.set_cons_zero, List.set_cons_succ] at hb
      subst hb
      rw [if_pos (by rfl)]
      have HSS := Lib.hid hS
      clear hS
      go_wp2_with fail
      have hbm := (Below.refl wS.heap.size wS).alloc (Nat.le_refl _) (.cells thZ 27)
      exact hK.out _ _ ⟨_, rfl, lw_made1 rfl HSS.out, trivial, AllPX.of _ (fun j _ _ h => fkV_below hbm h)⟩
    refine RelyStepsX.cons (RelyStepX.mk [] [0, 1, 2, 3, 4, 5, 6, 7, 8, 9] rfl rfl rfl (fun xv Lv wS hS hL hLd hV bq hb K hK => ?_)) ?_
    · clear hV
      simp only [putsOf, List.foldl_cons, List.foldl_nil, List.getD_cons_zero, List.getD_cons_succ, List.getD_nil, cond_true, cond_false, Act.put, List.setIfInBounds_toArray, List.set_cons_zero, List.set_cons_succ] at hb
      subst hb
      rw [if_pos (by rfl)]
      have HSS := Lib.hid hS
      clear hS
      go_wp2_with fail
      have hbm := (Below.refl wS.heap.size wS).alloc (Nat.le_refl _) (.cells akZ 31)
      exact hK.out _ _ ⟨_, rfl, lw_made2 rfl HSS.out, trivial, AllPX.of _ (fun j _ _ h => fkV_below hbm h)⟩
    refine RelyStepsX.cons (RelyStepX.mk [9, 6] [5, 6, 7, 8, 10] rfl rfl rfl (fun xv Lv wS hS hL hLd hV bq hb K hK => ?_)) ?_
    · obtain ⟨h9, h6, _⟩ := hV
      simp only [putsOf, List.foldl_cons, List.foldl_nil, List.getD_cons_zero, List.getD_cons_succ, List.getD_nil, cond_true, cond_false, Act.put, List.setIfInBounds_toArray, List.set_cons_zero, List.set_cons_succ] at hb
      generalize hy9 : xv 9 = y9 at *
      generalize hy6 : xv 6 = y6 at *
      subst hb
      rw [if_pos (by rfl)]
      have HSS := Lib.hid hS
      clear hS
      obtain ⟨g, hg, hN, hl⟩ := bk_open HSS.out.2.1 (hLd 9 (by decide +kernel)) hL
      rw [hy9] at hg
      subst hg
      obtain ⟨A5, k5, e5, ho5⟩ := h6
      subst e5
      refine wp_store_row _ _ _ rfl g (thC zt (.slice A5 (zt).sn.length k5)) rfl rfl 27 thZ hl infoTh rfl (thC_one _ rfl) ?_
      exact hK.out _ _ ⟨undef, rfl, lw_store1 rfl HSS.out (hLd 9 (by decide +kernel)) (hLd 6 (by decide +kernel)) hy9 hN hl hy6 (by decide), trivial, AllPX.of _ (fun j hj _ h => fkV_row _ hl (all_typ rfl hj) h)⟩
    refine RelyStepsX.cons (RelyStepX.mk [10, 7] [5, 6, 7, 8] rfl rfl rfl (fun xv Lv wS hS hL hLd hV bq hb K hK => ?_)) ?_
    · obtain ⟨h10, h7, _⟩ := hV
      simp only [putsOf, List.foldl_cons, List.foldl_nil, List.getD_cons_zero, List.getD_cons_succ, List.getD_nil, cond_true, cond_false, Act.put, List.setIfInBounds_toArray, List.set_cons_zero, List.set_cons_succ] at hb
      generalize hy10 : xv 10 = y10 at *
      generalize hy7 : xv 7 = y7 at *
      subst hb
      rw [if_pos (by rfl)]
      have HSS := Lib.hid hS
      clear hS
      obtain ⟨g, hg, hN, hl⟩ := bk_open HSS.out.2.2 (hLd 10 (by decide +kernel)) hL
      rw [hy10] at hg
      subst hg
      have e7 : y7 = .agg (akC za) := h7
      subst e7
      refine wp_store_row _ _ _ rfl g (akC za) rfl rfl 31 akZ hl infoAk rfl (akC_one _) ?_
      exact hK.out _ _ ⟨undef, rfl, lw_store2 rfl HSS.out (hLd 10 (by decide +kernel)) (hLd 7 (by decide +kernel)) hy10 hN hl hy7 (by decide), trivial, AllPX.of _ (fun j hj _ h => fkV_row _ hl (all_typ rfl hj) h)⟩
    refine RelyStepsX.cons (RelyStepX.mk [8] [6, 7] rfl rfl rfl (fun xv Lv wS hS hL hLd hV bq hb K hK => ?_)) ?_
    · obtain ⟨h8, _⟩ := hV
      have h8 : xv 8 = _ := h8
      simp only [putsOf, List.foldl_cons, List.foldl_nil, List.getD_cons_zero, List.getD_cons_succ, List.getD_nil, cond_true, cond_false, Act.put, List.setIfInBounds_toArray, List.set_cons_zero, List.set_cons_succ, h8] at hb
      clear h8
      subst hb
      rw [if_pos (by rfl)]
      go_wp2_with fail
      exact hK.out _ _ ⟨_, rfl, lw_op (i := 13) rfl hS, rfl, AllPX.same _⟩
    exact RelyStepsX.nil
  case rE =>
    intro xv Lv wE hS hLall hV
    have h6 := hV 6 (by decide) (by decide)
    have h7 := hV 7 (by decide) (by decide)
    have h13 := hV 13 (by decide) (by decide)
    clear hV
    obtain ⟨g1, a1, hx1, hN1, hl1, hv1⟩ := bk_done hS.2.1 (hLall 9 (by decide +kernel)) (hLall 11 (by decide +kernel))
    obtain ⟨g2, a2, hx2, hN2, hl2, hv2⟩ := bk_done hS.2.2 (hLall 10 (by decide +kernel)) (hLall 12 (by decide +kernel))
    simp only [putsOf, List.foldl_cons, List.foldl_nil, List.getD_cons_zero, List.getD_cons_succ, List.getD_nil, cond_true, cond_false, Act.put, List.setIfInBounds_toArray, List.set_cons_zero, List.set_cons_succ]
    have h13 : xv 13 = _ := h13
    rw [h13]; clear h13
    generalize xv 0 = y0 at *
    generalize xv 1 = y1 at *
    generalize xv 2 = y2 at *
    generalize xv 3 = y3 at *
    generalize xv 4 = y4 at *
    generalize xv 5 = y5 at *
    generalize xv 6 = y6 at *
    generalize xv 7 = y7 at *
    generalize xv 8 = y8 at *
    generalize xv 9 = y9 at *
    generalize xv 10 = y10 at *
    generalize xv 11 = y11 at *
    generalize xv 12 = y12 at *
    have hbm := hS.1
    subst hx1
    subst hx2
    obtain ⟨A5, k5, e5, ho5⟩ := h6
    rw [hv1] at e5
    injection e5 with e5
    subst e5
    have e7 : y7 = .agg (akC za) := h7
    rw [hv2] at e7
    injection e7 with e7
    subst e7
    have HT1 := Lib.hid hl1
    have HA1 := Lib.hid hl2
    have HO1 := Lib.hid (owns_mono ho5 (Nat.zero_le _))
    clear hv1 ho5 hl1 hN1 hv2 hl2 hN2
    generalize g1 = b1 at *
    generalize g2 = b2 at *
    replace HG := Lib.hid (HG.out.below hbm HG.out.lt)
    replace HB := Lib.hid (HB.out.trans (hbm.mono HB.out.size))
    clear hS hbm hLall DOC
    generalize wE = w4 at *
    obtain ⟨cb, hcb⟩ : ∃ b, codeB l = b := ⟨_, rfl⟩
    have hcc : (cb != cb) = false := by cases cb <;> rfl
    have HC1 := Lib.hid (code16 l A c w4 (HIN.out _ HB.out))
    rw [hcb] at HC1
    have HCB := Lib.hid hcb
    clear hcb
    go_wp2_with fail
    refine HC1.out.mono ?_
    rintro q w5 ⟨rfl, hbm⟩
    replace HG := Lib.hid (HG.out.below hbm HG.out.lt)
    replace HT1 := Lib.hid (HT1.out.below hbm HT1.out.lt)
    replace HA1 := Lib.hid (HA1.out.below hbm HA1.out.lt)
    replace HO1 := Lib.hid (owned_below HO1.out hbm)
    replace HB := Lib.hid (HB.out.trans (hbm.mono HB.out.size))
    have HC2 := Lib.hid (rfCode16 l A c w5 (HIN.out _ HB.out) HOK.out)
    rw [HCB.out] at HC2
    clear hbm HC1
    go_wp2_with fail
    refine HC2.out.mono ?_
    rintro q w6 ⟨rfl, hbm⟩
    replace HG := Lib.hid (HG.out.below hbm HG.out.lt)
    replace HT1 := Lib.hid (HT1.out.below hbm HT1.out.lt)
    replace HA1 := Lib.hid (HA1.out.below hbm HA1.out.lt)
    replace HO1 := Lib.hid (owned_below HO1.out hbm)
    replace HB := Lib.hid (HB.out.trans (hbm.mono HB.out.size))
    clear hbm HC2 HCB
    have c0 := (HG.out.cell 0).trans (show _ = some (Value.int .i64 s.x.at_) from rfl)
    have c1 := (HG.out.cell 1).trans (show _ = some (Value.int .i64 s.x.ph) from rfl)
    have c2 := (HG.out.cell 2).trans (show _ = some (Value.int .i64 s.x.rg) from rfl)
    have c3 := (HG.out.cell 3).trans (show _ = some (Value.int .i64 s.x.st) from rfl)
    have c4 := (HG.out.cell 4).trans (show _ = some (Value.int .u64 (s.x.tk : Int)) from rfl)
    have c5 := (HG.out.cell 5).trans (show _ = some (Value.int .u64 (s.x.r 0 : Int)) from rfl)
    have c6 := (HG.out.cell 6).trans (show _ = some (Value.int .u64 (s.x.r 1 : Int)) from rfl)
    have c7 := (HG.out.cell 7).trans (show _ = some (Value.int .u64 (s.x.r 2 : Int)) from rfl)
    have c8 := (HG.out.cell 8).trans (show _ = some (Value.int .u64 (s.x.r 3 : Int)) from rfl)
    have c9 := (HG.out.cell 9).trans (show _ = some (Value.int .u64 (s.x.r 4 : Int)) from rfl)
    have c10 := (HG.out.cell 10).trans (show _ = some (Value.int .u64 (s.x.r 5 : Int)) from rfl)
    have c11 := (HG.out.cell 11).trans (show _ = some (Value.int .u64 (s.x.r 6 : Int)) from rfl)
    have c12 := (HG.out.cell 12).trans (show _ = some (Value.int .u64 (s.x.r 7 : Int)) from rfl)
    have c13 := (HG.out.cell 13).trans (show _ = some ((.slice s.S s.x.sn.length s.cs)) from rfl)
    have cl := HG.out.lt
    go_wp2_with fail
    clear hcc
    refine (thRight l A c s.x (.slice s.S s.x.sn.length s.cs) w6 (HIN.out _ HB.out)).mono ?_
    rw [HR.out]
    rintro q w7 ⟨rfl, hbm⟩
    clear c0 c1 c2 c3 c4 c5 c6 c7 c8 c9 c10 c11 c12 c13 cl
    replace HG := Lib.hid (HG.out.below hbm HG.out.lt)
    replace HT1 := Lib.hid (HT1.out.below hbm HT1.out.lt)
    replace HA1 := Lib.hid (HA1.out.below hbm HA1.out.lt)
    replace HO1 := Lib.hid (owned_below HO1.out hbm)
    replace HB := Lib.hid (HB.out.trans (hbm.mono HB.out.size))
    clear hbm
    have c0 := (HG.out.cell 0).trans (show _ = some (Value.int .i64 s.x.at_) from rfl)
    have c1 := (HG.out.cell 1).trans (show _ = some (Value.int .i64 s.x.ph) from rfl)
    have c2 := (HG.out.cell 2).trans (show _ = some (Value.int .i64 s.x.rg) from rfl)
    have c3 := (HG.out.cell 3).trans (show _ = some (Value.int .i64 s.x.st) from rfl)
    have c4 := (HG.out.cell 4).trans (show _ = some (Value.int .u64 (s.x.tk : Int)) from rfl)
    have c5 := (HG.out.cell 5).trans (show _ = some (Value.int .u64 (s.x.r 0 : Int)) from rfl)
    have c6 := (HG.out.cell 6).trans (show _ = some (Value.int .u64 (s.x.r 1 : Int)) from rfl)
    have c7 := (HG.out.cell 7).trans (show _ = some (Value.int .u64 (s.x.r 2 : Int)) from rfl)
    have c8 := (HG.out.cell 8).trans (show _ = some (Value.int .u64 (s.x.r 3 : Int)) from rfl)
    have c9 := (HG.out.cell 9).trans (show _ = some (Value.int .u64 (s.x.r 4 : Int)) from rfl)
    have c10 := (HG.out.cell 10).trans (show _ = some (Value.int .u64 (s.x.r 5 : Int)) from rfl)
    have c11 := (HG.out.cell 11).trans (show _ = some (Value.int .u64 (s.x.r 6 : Int)) from rfl)
    have c12 := (HG.out.cell 12).trans (show _ = some (Value.int .u64 (s.x.r 7 : Int)) from rfl)
    have c13 := (HG.out.cell 13).trans (show _ = some ((.slice s.S s.x.sn.length s.cs)) from rfl)
    have cl := HG.out.lt
    go_wp2_with fail
    refine (rfNext16 l A c s.x (.slice s.S s.x.sn.length s.cs) w7 (HIN.out _ HB.out) HOK.out HX.out rfl HR.out).mono ?_
    rw [HZT.out, HZA.out]
    rintro q w8 ⟨rfl, hbm⟩
    clear c0 c1 c2 c3 c4 c5 c6 c7 c8 c9 c10 c11 c12 c13 cl
    replace HG := Lib.hid (HG.out.below hbm HG.out.lt)
    replace HT1 := Lib.hid (HT1.out.below hbm HT1.out.lt)
    replace HA1 := Lib.hid (HA1.out.below hbm HA1.out.lt)
    replace HO1 := Lib.hid (owned_below HO1.out hbm)
    replace HB := Lib.hid (HB.out.trans (hbm.mono HB.out.size))
    clear hbm
    have HVS : Hid ((.slice s.S s.x.sn.length s.cs) = (.slice s.S zt.sn.length s.cs : Value)) := by show _ = _; rw [HSN.out]
    rw [HVS.out]
    have HSQ2 : Hid (∀ q : World, Below w.heap.size w q → SeqS q 1 (.slice s.S zt.sn.length s.cs) zt.sn.length (cells64 zt.sn)) := by
      intro q hq
      rw [HSN.out]
      exact HSQ.out q hq
    clear HVS HG HSQ
    have HBn := Lib.hid (((Below.refl w8.heap.size w8).alloc (Nat.le_refl _) (.cells thZ 27)).alloc (by simp) (.cells akZ 37))
    have lz0 := ((Lies.made w8 27 thZ).alloc (.cells akZ 37))
    have HZ0_0 := Lib.hid lz0
    clear lz0
    have lz1 := (Lies.made (w8.alloc (.cells thZ 27)) 37 akZ)
    rw [show (w8.alloc (.cells thZ 27)).heap.size = w8.heap.size + 1 by simp] at lz1
    have HZ0_1 := Lib.hid lz1
    clear lz1
    generalize hw3 : ((w8.alloc (.cells thZ 27)).alloc (.cells akZ 37)) = w3 at *
    generalize hn5 : w8.heap.size = n5 at *
    have hns : n5 ≤ w3.heap.size := by rw [← hn5]; exact HBn.out.size
    have hk0 := kept_rowT (w := w3) (g := n5) (thC zt (.slice s.S zt.sn.length s.cs))
    have HZ1_0 := Lib.hid (lies_row HZ0_0.out (thC zt (.slice s.S zt.sn.length s.cs)))
    have HZ1_1 := Lib.hid (HZ0_1.out.kept hk0 (fun (e : n5 + 1 = n5) => by omega))
    have HBn0 := Lib.hid (HBn.out.trans (hk0.below (show n5 ≤ w3.heap.size from hns) (fun k hk (e : k = n5) => by omega)))
    have hks0 : w3.heap.size ≤ (w3.setRow (n5) (thC zt (.slice s.S zt.sn.length s.cs))).heap.size := hk0.size
    have hk1 := kept_rowT (w := (w3.setRow (n5) (thC zt (.slice s.S zt.sn.length s.cs)))) (g := n5 + 1) (akC za)
    have HZ2_0 := Lib.hid (HZ1_0.out.kept hk1 (fun (e : n5 = n5 + 1) => by omega))
    have HZ2_1 := Lib.hid (lies_row HZ1_1.out (akC za))
    have HBn1 := Lib.hid (HBn0.out.trans (hk1.below (show n5 ≤ (w3.setRow (n5) (thC zt (.slice s.S zt.sn.length s.cs))).heap.size from Nat.le_trans hns hks0) (fun k hk (e : k = n5 + 1) => by omega)))
    have hks1 : w3.heap.size ≤ ((w3.setRow (n5) (thC zt (.slice s.S zt.sn.length s.cs))).setRow (n5 + 1) (akC za)).heap.size := Nat.le_trans hks0 hk1.size
    clear hk0 hk1
    go_upto_region 10 with (first | refine wpList_store_row rfl 27 _ _ rfl (n5) (thC zt (.slice s.S zt.sn.length s.cs)) rfl rfl 27 thZ HZ0_0.out infoTh rfl (thC_one _ rfl) ?_ | refine wpList_store_row rfl 37 _ _ rfl (n5 + 1) (akC za) rfl rfl 37 akZ HZ1_1.out infoAk2 rfl (akC_one _) ?_)
    clear hw3 hks0 hks1 hns HBn HBn0 HZ0_0 HZ0_1 HZ1_0 HZ1_1
    generalize ((w3.setRow (n5) (thC zt (.slice s.S zt.sn.length s.cs))).setRow (n5 + 1) (akC za)) = w9 at *
    have hbf := HBn1.out
    rw [← hn5] at hbf
    clear HBn1
    replace HT1 := Lib.hid (HT1.out.below hbf HT1.out.lt)
    replace HA1 := Lib.hid (HA1.out.below hbf HA1.out.lt)
    replace HO1 := Lib.hid (owned_below HO1.out hbf)
    replace HB := Lib.hid (HB.out.trans (hbf.mono HB.out.size))
    clear hbf
    have HT2 := HZ2_0
    clear HZ2_0
    have HA2 := HZ2_1
    clear HZ2_1
    generalize n5 = b3 at *
    clear hn5
    have HSA := Lib.hid (seqAt16 (SeqS.of_owns HO1.out))
    have HSB := Lib.hid (seqAt16 (HSQ2.out _ HB.out))
    have HQE := Lib.hid (fun q => akEql2 za za q)
    rw [show decide (za = za) = true from decide_eq_true rfl] at HQE
    have HSM := Lib.hid (fun q h k => rfThSame zt zt A5 k5 s.S s.cs q h k)
    rw [samT_self] at HSM
    go_wp2_with fail
    refine wp_region_rely (fun q => Below w9.heap.size w9 q) (rgV [some (.int .i64 0), some (.bool true), some (.bool true), some (.agg (akC za)), some (.agg (akC za)), some (.agg (akC za)), some (.bool true), some (.bool true), some (.bool true), some (.agg (thC zt (.slice A5 zt.sn.length k5))), some (.agg (thC zt (.slice s.S zt.sn.length s.cs))), some (.bool true), some (.bool true), some (.bool true)] (fun _ _ => True)) [some 69, some 70, some 71, some 72, some 73, some 74, some 75, some 76, some 77, some 78, some 79, some 80, some 81, some 4] [[], [0], [1], [2], [3, 2], [2], [4, 5, 2], [2, 6], [7], [8], [8], [9, 10, 8], [8, 11], [12]] [[], [0], [0, 1], [1], [1, 3], [1], [1, 3, 4, 5], [1, 4, 5, 6], [3, 6, 7], [7], [7], [7, 9, 10], [7, 9, 10, 11], [0, 1, 2, 3, 4, 5, 6, 7, 8, 9, 10, 11, 12]] [[2, 3, 4, 5, 6, 7, 8, 9, 10, 11, 12], [3, 4, 5, 6, 7, 8, 9, 10, 11, 12], [8, 9, 10, 11, 12], [2, 5, 6, 7, 8, 9, 10, 11, 12], [2, 5, 7, 9, 10, 11, 12], [2, 3, 4, 7, 8, 9, 10, 11, 12], [2, 8, 9, 10, 11, 12], [2, 9, 10, 11, 12], [0, 2], [0, 1, 2, 4, 5, 8, 10, 12], [0, 1, 2, 4, 5, 8, 9, 12], [0, 1, 2, 4, 5, 8], [0, 1, 2, 4, 5, 8], []] [0, 1, 2, 3, 4, 5, 6, 7, 8, 9, 10, 11, 12, 13] 14 (by kernel_rfl) (by kernel_rfl) (by kernel_rfl) (by kernel_rfl) ?rS (fun j h1 h2 => absurd (Nat.lt_of_lt_of_le h1 (Nat.le_trans (by decide) h2)) (Nat.lt_irrefl _)) ?rT ?rE
    case rS => exact below_drewN (Below.refl _ _) 1
    case rT =>
      refine RelySteps.cons (RelyStep.mk [] [2, 3, 4, 5, 6, 7, 8, 9, 10, 11, 12] rfl rfl rfl (fun xv wS hS hV bq hb K hK => ?_)) ?_
      · clear hV
        simp only [putsOf, List.foldl_cons, List.foldl_nil, List.getD_cons_zero, List.getD_cons_succ, List.getD_nil, cond_true, cond_false, Act.put, List.setIfInBounds_toArray, List.set_cons_zero, List.set_cons_succ] at hb
        subst hb
        rw [if_pos (by rfl)]
        go_wp2_with fail
        exact hK.out _ _ ⟨_, rfl, hS, rfl, AllP.same _⟩
      refine RelySteps.cons (RelyStep.mk [0] [3, 4, 5, 6, 7, 8, 9, 10, 11, 12] rfl rfl rfl (fun xv wS hS hV bq hb K hK => ?_)) ?_
      · obtain ⟨h0, _⟩ := hV
        have h0 : xv 0 = _ := h0
        simp only [putsOf, List.foldl_cons, List.foldl_nil, List.getD_cons_zero, List.getD_cons_succ, List.getD_nil, cond_true, cond_false, Act.put, List.setIfInBounds_toArray, List.set_cons_zero, List.set_cons_succ, h0] at hb
        clear h0
        subst hb
        rw [if_pos (by rfl)]
        go_wp2_with fail
        exact hK.out _ _ ⟨_, rfl, hS, rfl, AllP.same _⟩
      refine RelySteps.cons (RelyStep.mk [1] [8, 9, 10, 11, 12] rfl rfl rfl (fun xv wS hS hV bq hb K hK => ?_)) ?_
      · obtain ⟨h1, _⟩ := hV
        have h1 : xv 1 = _ := h1
        simp only [putsOf, List.foldl_cons, List.foldl_nil, List.getD_cons_zero, List.getD_cons_succ, List.getD_nil, cond_true, cond_false, Act.put, List.setIfInBounds_toArray, List.set_cons_zero, List.set_cons_succ, h1] at hb
        clear h1
        subst hb
        rw [if_pos (by rfl)]
        go_wp2_with fail
        exact hK.out _ _ ⟨_, rfl, hS, rfl, AllP.same _⟩
      refine RelySteps.cons (RelyStep.mk [2] [2, 5, 6, 7, 8, 9, 10, 11, 12] rfl rfl rfl (fun xv wS hS hV bq hb K hK => ?_)) ?_
      · obtain ⟨h2, _⟩ := hV
        have h2 : xv 2 = _ := h2
        simp only [putsOf, List.foldl_cons, List.foldl_nil, List.getD_cons_zero, List.getD_cons_succ, List.getD_nil, cond_true, cond_false, Act.put, List.setIfInBounds_toArray, List.set_cons_zero, List.set_cons_succ, h2] at hb
        clear h2
        subst hb
        rw [if_pos (by rfl)]
        (have HLA := Lib.hid (HA1.out.below hS HA1.out.lt); have k0 := (HLA.out.cell 0).trans (show _ = some (.int .i64 za.kd) from rfl); have k1 := (HLA.out.cell 1).trans (show _ = some (.int .i64 za.rg) from rfl); have k2 := (HLA.out.cell 2).trans (show _ = some (.int .i64 za.md) from rfl); have k3 := (HLA.out.cell 3).trans (show _ = some (.int .i64 za.rd) from rfl); have k4 := (HLA.out.cell 4).trans (show _ = some (.int .u64 (za.tk : Int)) from rfl); have k5 := (HLA.out.cell 5).trans (show _ = some (.int .u64 (za.vl : Int)) from rfl); have kl := HLA.out.lt)
        go_wp2_with fail
        exact hK.out _ _ ⟨_, rfl, hS, rfl, AllP.same _⟩
      refine RelySteps.cons (RelyStep.mk [3, 2] [2, 5, 7, 9, 10, 11, 12] rfl rfl rfl (fun xv wS hS hV bq hb K hK => ?_)) ?_
      · obtain ⟨h3, h2, _⟩ := hV
        have h3 : xv 3 = _ := h3
        have h2 : xv 2 = _ := h2
        simp only [putsOf, List.foldl_cons, List.foldl_nil, List.getD_cons_zero, List.getD_cons_succ, List.getD_nil, cond_true, cond_false, Act.put, List.setIfInBounds_toArray, List.set_cons_zero, List.set_cons_succ, h3, h2] at hb
        clear h3
        clear h2
        subst hb
        rw [if_pos (by rfl)]
        have HSS := Lib.hid hS
        clear hS
        go_wp2_with fail
        refine (own16 za _).mono ?_
        rintro e w' ⟨rfl, hbm⟩
        exact hK.out _ _ ⟨_, rfl, HSS.out.trans (hbm.mono HSS.out.size), rfl, AllP.of _ (fun j _ u h => rgV_mono (fun _ => trivial) h)⟩
      refine RelySteps.cons (RelyStep.mk [2] [2, 3, 4, 7, 8, 9, 10, 11, 12] rfl rfl rfl (fun xv wS hS hV bq hb K hK => ?_)) ?_
      · obtain ⟨h2, _⟩ := hV
        have h2 : xv 2 = _ := h2
        simp only [putsOf, List.foldl_cons, List.foldl_nil, List.getD_cons_zero, List.getD_cons_succ, List.getD_nil, cond_true, cond_false, Act.put, List.setIfInBounds_toArray, List.set_cons_zero, List.set_cons_succ, h2] at hb
        clear h2
        subst hb
        rw [if_pos (by rfl)]
        (have HLA := Lib.hid (HA2.out.below hS HA2.out.lt); have k0 := (HLA.out.cell 0).trans (show _ = some (.int .i64 za.kd) from rfl); have k1 := (HLA.out.cell 1).trans (show _ = some (.int .i64 za.rg) from rfl); have k2 := (HLA.out.cell 2).trans (show _ = some (.int .i64 za.md) from rfl); have k3 := (HLA.out.cell 3).trans (show _ = some (.int .i64 za.rd) from rfl); have k4 := (HLA.out.cell 4).trans (show _ = some (.int .u64 (za.tk : Int)) from rfl); have k5 := (HLA.out.cell 5).trans (show _ = some (.int .u64 (za.vl : Int)) from rfl); have kl := HLA.out.lt)
        go_wp2_with fail
        exact hK.out _ _ ⟨_, rfl, hS, rfl, AllP.same _⟩
      refine RelySteps.cons (RelyStep.mk [4, 5, 2] [2, 8, 9, 10, 11, 12] rfl rfl rfl (fun xv wS hS hV bq hb K hK => ?_)) ?_
      · obtain ⟨h4, h5, h2, _⟩ := hV
        have h4 : xv 4 = _ := h4
        have h5 : xv 5 = _ := h5
        have h2 : xv 2 = _ := h2
        simp only [putsOf, List.foldl_cons, List.foldl_nil, List.getD_cons_zero, List.getD_cons_succ, List.getD_nil, cond_true, cond_false, Act.put, List.setIfInBounds_toArray, List.set_cons_zero, List.set_cons_succ, h4, h5, h2] at hb
        clear h4
        clear h5
        clear h2
        subst hb
        rw [if_pos (by rfl)]
        (have hgd := akGuard2; have hhd := akHeld2; have hq := HQE.out)
        go_wp2_with fail
        exact hK.out _ _ ⟨_, rfl, hS, rfl, AllP.same _⟩
      refine RelySteps.cons (RelyStep.mk [2, 6] [2, 9, 10, 11, 12] rfl rfl rfl (fun xv wS hS hV bq hb K hK => ?_)) ?_
      · obtain ⟨h2, h6, _⟩ := hV
        have h2 : xv 2 = _ := h2
        have h6 : xv 6 = _ := h6
        simp only [putsOf, List.foldl_cons, List.foldl_nil, List.getD_cons_zero, List.getD_cons_succ, List.getD_nil, cond_true, cond_false, Act.put, List.setIfInBounds_toArray, List.set_cons_zero, List.set_cons_succ, h2, h6] at hb
        clear h2
        clear h6
        subst hb
        rw [if_pos (by rfl)]
        go_wp2_with fail
        exact hK.out _ _ ⟨_, rfl, hS, rfl, AllP.same _⟩
      refine RelySteps.cons (RelyStep.mk [7] [0, 2] rfl rfl rfl (fun xv wS hS hV bq hb K hK => ?_)) ?_
      · obtain ⟨h7, _⟩ := hV
        have h7 : xv 7 = _ := h7
        simp only [putsOf, List.foldl_cons, List.foldl_nil, List.getD_cons_zero, List.getD_cons_succ, List.getD_nil, cond_true, cond_false, Act.put, List.setIfInBounds_toArray, List.set_cons_zero, List.set_cons_succ, h7] at hb
        clear h7
        subst hb
        rw [if_pos (by rfl)]
        go_wp2_with fail
        exact hK.out _ _ ⟨_, rfl, hS, rfl, AllP.same _⟩
      refine RelySteps.cons (RelyStep.mk [8] [0, 1, 2, 4, 5, 8, 10, 12] rfl rfl rfl (fun xv wS hS hV bq hb K hK => ?_)) ?_
      · obtain ⟨h8, _⟩ := hV
        have h8 : xv 8 = _ := h8
        simp only [putsOf, List.foldl_cons, List.foldl_nil, List.getD_cons_zero, List.getD_cons_succ, List.getD_nil, cond_true, cond_false, Act.put, List.setIfInBounds_toArray, List.set_cons_zero, List.set_cons_succ, h8] at hb
        clear h8
        subst hb
        rw [if_pos (by rfl)]
        (have HZ := Lib.hid (HT1.out.below hS HT1.out.lt); have c0 := (HZ.out.cell 0).trans (show _ = some (Value.int .i64 zt.at_) from rfl); have c1 := (HZ.out.cell 1).trans (show _ = some (Value.int .i64 zt.ph) from rfl); have c2 := (HZ.out.cell 2).trans (show _ = some (Value.int .i64 zt.rg) from rfl); have c3 := (HZ.out.cell 3).trans (show _ = some (Value.int .i64 zt.st) from rfl); have c4 := (HZ.out.cell 4).trans (show _ = some (Value.int .u64 (zt.tk : Int)) from rfl); have c5 := (HZ.out.cell 5).trans (show _ = some (Value.int .u64 (zt.r 0 : Int)) from rfl); have c6 := (HZ.out.cell 6).trans (show _ = some (Value.int .u64 (zt.r 1 : Int)) from rfl); have c7 := (HZ.out.cell 7).trans (show _ = some (Value.int .u64 (zt.r 2 : Int)) from rfl); have c8 := (HZ.out.cell 8).trans (show _ = some (Value.int .u64 (zt.r 3 : Int)) from rfl); have c9 := (HZ.out.cell 9).trans (show _ = some (Value.int .u64 (zt.r 4 : Int)) from rfl); have c10 := (HZ.out.cell 10).trans (show _ = some (Value.int .u64 (zt.r 5 : Int)) from rfl); have c11 := (HZ.out.cell 11).trans (show _ = some (Value.int .u64 (zt.r 6 : Int)) from rfl); have c12 := (HZ.out.cell 12).trans (show _ = some (Value.int .u64 (zt.r 7 : Int)) from rfl); have c13 := (HZ.out.cell 13).trans (show _ = some ((.slice A5 zt.sn.length k5)) from rfl); have cl := HZ.out.lt)
        go_wp2_with fail
        exact hK.out _ _ ⟨_, rfl, hS, rfl, AllP.same _⟩
      refine RelySteps.cons (RelyStep.mk [8] [0, 1, 2, 4, 5, 8, 9, 12] rfl rfl rfl (fun xv wS hS hV bq hb K hK => ?_)) ?_
      · obtain ⟨h8, _⟩ := hV
        have h8 : xv 8 = _ := h8
        simp only [putsOf, List.foldl_cons, List.foldl_nil, List.getD_cons_zero, List.getD_cons_succ, List.getD_nil, cond_true, cond_false, Act.put, List.setIfInBounds_toArray, List.set_cons_zero, List.set_cons_succ, h8] at hb
        clear h8
        subst hb
        rw [if_pos (by rfl)]
        (have HZ := Lib.hid (HT2.out.below hS HT2.out.lt); have c0 := (HZ.out.cell 0).trans (show _ = some (Value.int .i64 zt.at_) from rfl); have c1 := (HZ.out.cell 1).trans (show _ = some (Value.int .i64 zt.ph) from rfl); have c2 := (HZ.out.cell 2).trans (show _ = some (Value.int .i64 zt.rg) from rfl); have c3 := (HZ.out.cell 3).trans (show _ = some (Value.int .i64 zt.st) from rfl); have c4 := (HZ.out.cell 4).trans (show _ = some (Value.int .u64 (zt.tk : Int)) from rfl); have c5 := (HZ.out.cell 5).trans (show _ = some (Value.int .u64 (zt.r 0 : Int)) from rfl); have c6 := (HZ.out.cell 6).trans (show _ = some (Value.int .u64 (zt.r 1 : Int)) from rfl); have c7 := (HZ.out.cell 7).trans (show _ = some (Value.int .u64 (zt.r 2 : Int)) from rfl); have c8 := (HZ.out.cell 8).trans (show _ = some (Value.int .u64 (zt.r 3 : Int)) from rfl); have c9 := (HZ.out.cell 9).trans (show _ = some (Value.int .u64 (zt.r 4 : Int)) from rfl); have c10 := (HZ.out.cell 10).trans (show _ = some (Value.int .u64 (zt.r 5 : Int)) from rfl); have c11 := (HZ.out.cell 11).trans (show _ = some (Value.int .u64 (zt.r 6 : Int)) from rfl); have c12 := (HZ.out.cell 12).trans (show _ = some (Value.int .u64 (zt.r 7 : Int)) from rfl); have c13 := (HZ.out.cell 13).trans (show _ = some ((.slice s.S zt.sn.length s.cs)) from rfl); have cl := HZ.out.lt)
        go_wp2_with fail
        exact hK.out _ _ ⟨_, rfl, hS, rfl, AllP.same _⟩
      refine RelySteps.cons (RelyStep.mk [9, 10, 8] [0, 1, 2, 4, 5, 8] rfl rfl rfl (fun xv wS hS hV bq hb K hK => ?_)) ?_
      · obtain ⟨h9, h10, h8, _⟩ := hV
        have h9 : xv 9 = _ := h9
        have h10 : xv 10 = _ := h10
        have h8 : xv 8 = _ := h8
        simp only [putsOf, List.foldl_cons, List.foldl_nil, List.getD_cons_zero, List.getD_cons_succ, List.getD_nil, cond_true, cond_false, Act.put, List.setIfInBounds_toArray, List.set_cons_zero, List.set_cons_succ, h9, h10, h8] at hb
        clear h9
        clear h10
        clear h8
        subst hb
        rw [if_pos (by rfl)]
        have HSS := Lib.hid hS
        clear hS
        go_wp2_with fail
        refine (HSM.out _ (SeqAt.later_ HSA.out HSS.out) (SeqAt.later_ HSB.out HSS.out)).mono ?_
        rintro e w' ⟨rfl, hbm⟩
        exact hK.out _ _ ⟨_, rfl, HSS.out.trans (hbm.mono HSS.out.size), rfl, AllP.of _ (fun j _ u h => rgV_mono (fun _ => trivial) h)⟩
      refine RelySteps.cons (RelyStep.mk [8, 11] [0, 1, 2, 4, 5, 8] rfl rfl rfl (fun xv wS hS hV bq hb K hK => ?_)) ?_
      · obtain ⟨h8, h11, _⟩ := hV
        have h8 : xv 8 = _ := h8
        have h11 : xv 11 = _ := h11
        simp only [putsOf, List.foldl_cons, List.foldl_nil, List.getD_cons_zero, List.getD_cons_succ, List.getD_nil, cond_true, cond_false, Act.put, List.setIfInBounds_toArray, List.set_cons_zero, List.set_cons_succ, h8, h11] at hb
        clear h8
        clear h11
        subst hb
        rw [if_pos (by rfl)]
        go_wp2_with fail
        exact hK.out _ _ ⟨_, rfl, hS, rfl, AllP.same _⟩
      refine RelySteps.cons (RelyStep.mk [12] [] rfl rfl rfl (fun xv wS hS hV bq hb K hK => ?_)) ?_
      · obtain ⟨h12, _⟩ := hV
        have h12 : xv 12 = _ := h12
        simp only [putsOf, List.foldl_cons, List.foldl_nil, List.getD_cons_zero, List.getD_cons_succ, List.getD_nil, cond_true, cond_false, Act.put, List.setIfInBounds_toArray, List.set_cons_zero, List.set_cons_succ, h12] at hb
        clear h12
        subst hb
        rw [if_pos (by rfl)]
        go_wp2_with fail
        exact hK.out _ _ ⟨_, rfl, hS, rfl, AllP.same _⟩
      exact RelySteps.nil
    case rE =>
      intro xv wE hS hV
      have h13 := hV 13 (by decide) (by decide)
      clear hV
      simp only [putsOf, List.foldl_cons, List.foldl_nil, List.getD_cons_zero, List.getD_cons_succ, List.getD_nil, cond_true, cond_false, Act.put, List.setIfInBounds_toArray, List.set_cons_zero, List.set_cons_succ]
      have h13 : xv 13 = _ := h13
      rw [h13]; clear h13
      generalize xv 0 = y0 at *
      generalize xv 1 = y1 at *
      generalize xv 2 = y2 at *
      generalize xv 3 = y3 at *
      generalize xv 4 = y4 at *
      generalize xv 5 = y5 at *
      generalize xv 6 = y6 at *
      generalize xv 7 = y7 at *
      generalize xv 8 = y8 at *
      generalize xv 9 = y9 at *
      generalize xv 10 = y10 at *
      generalize xv 11 = y11 at *
      generalize xv 12 = y12 at *
      have HBZ := Lib.hid (HB.out.trans (hS.mono HB.out.size))
      clear hS
      go_wp2
      go_ret
      exact ⟨rfl, HBZ.out⟩
theorem next_walk (A : Option Addr) (len c : Nat) (l : List In) (s : Ta) (w : World) (h0 : InArg w A len c l) (h1 : TaAt w s) :
    Calls Try.prog 3 #[.slice A len c, .agg (thC s.x (.slice s.S s.x.sn.length s.cs))] w fun q w' => q = .returned (.bool true) ∧ Below w.heap.size w w' := by
  by_cases hr : thB l s.x = true
  · exact next_true A len c l s w h0 h1 hr
  · exact next_false A len c l s w h0 h1 (by rw [Bool.eq_false_iff]; exact hr)
end Go.Proofs.Ytiegmpjoiekekaa
