/-
  The law ThreadDoes (layer 16), walked.
-/
import Derived.Test.YtiegmpjoiekekaaAwake
import Derived.Test.YtiegmpjoiekekaaThs2
namespace Go.Proofs.Ytiegmpjoiekekaa
open Go.RowKit
set_option linter.unusedVariables false
set_option linter.unusedSimpArgs false
theorem Try.infoIn : (Try.prog.info? 50).map (fun i => (i.zero, i.size, i.bytes)) = some (some (.agg #[.int .i64 0, .int .i64 0, .int .i64 0, .int .i64 0, .int .i64 0, .int .u64 0]), 6, 48) := by kernel_rfl
theorem inF_one (l : List In) : ∀ u ∈ rowsOf inF l, u.oneCell' = true := fun u hu => by
  obtain ⟨x, _, hx⟩ := rowsOf_mem hu
  simp [inF] at hx
  rcases hx with rfl | rfl | rfl | rfl | rfl | rfl <;> rfl
theorem seqAt16 {w : World} {v : Value} {xs : List Nat} (h : SeqS w 1 v xs.length (cells64 xs)) : SeqAt w v (cells64 xs) := by
  obtain ⟨h1, A, c, h2, h3, h4, h5, h6⟩ := h
  have hl : (cells64 xs).length = xs.length := by simp [cells64]
  exact ⟨A, c, by rw [hl]; exact h2, by rw [hl]; exact h3, h4, h6⟩
theorem samT_self (x : Th) : samT x x = true := by
  simp [samT, regB]
set_option maxHeartbeats 8000000 in
set_option maxRecDepth 100000 in
theorem does_walk (A : Option Addr) (len c : Nat) (l : List In) (s : Ta) (e : Ev) (v : Int) (w : World) (h0 : InArg w A len c l) (h1 : TaAt w s) (h2 : evOk e) (h3 : (Lit.int .u64 v).wf = true) :
    Calls Try.prog 4 #[.slice A len c, .agg (thC s.x (.slice s.S s.x.sn.length s.cs)), .agg (evC e), .int .u64 v] w fun q w' => q = .returned (.bool true) ∧ Below w.heap.size w w' := by
  obtain ⟨rfl, hin, hok⟩ := h0
  obtain ⟨hx, hsq⟩ := h1
  obtain ⟨hc1, hc2⟩ := seq_form hin
  obtain ⟨vn, rfl⟩ : ∃ n : Nat, v = n := ⟨v.toNat, by have := Go.bounds_u64 h3; omega⟩
  have hvn : vn ≤ 18446744073709551615 := by have := Go.bounds_u64 h3; omega
  have hb0 : Below w.heap.size w ((w.alloc (.cells (thC s.x (.slice s.S s.x.sn.length s.cs)) 27)).alloc (.cells (evC e) 42)) := ((Below.refl _ _).alloc (Nat.le_refl _) _).alloc (by simp) _
  have l0 := (Lies.made w 27 (thC s.x (.slice s.S s.x.sn.length s.cs))).alloc (.cells (evC e) 42)
  have l1 := Lies.made (w.alloc (.cells (thC s.x (.slice s.S s.x.sn.length s.cs)) 27)) 42 (evC e)
  rw [show (w.alloc (.cells (thC s.x (.slice s.S s.x.sn.length s.cs)) 27)).heap.size = w.heap.size + 1 by simp] at l1
  have HE := Lib.hid l1
  clear l1
  have HB := Lib.hid hb0
  have HG := Lib.hid l0
  have HIN := Lib.hid (show ∀ q : World, Below w.heap.size w q → InsAt q A c l from fun q hq => hin.later hq)
  have HSQ := Lib.hid (fun (q : World) (hq : Below w.heap.size w q) => hsq.later hq)
  have HOK := Lib.hid hok
  have HX := Lib.hid hx
  clear hb0 l0 hin hsq hok hx
  go_enter Try.func4, Try.ntmps4
  go_upto_region 1 with (fail)
  generalize hw1 : ((w.alloc (.cells (thC s.x (.slice s.S s.x.sn.length s.cs)) 27)).alloc (.cells (evC e) 42)) = w1 at *
  clear hw1
  go_wp2_with fail
  refine (awake16 _).mono ?_
  rintro q w2 ⟨rfl, hbm⟩
  replace HG := Lib.hid (HG.out.below hbm HG.out.lt)
  replace HE := Lib.hid (HE.out.below hbm HE.out.lt)
  replace HB := Lib.hid (HB.out.trans (hbm.mono HB.out.size))
  clear hbm w1
  have c13 := (HG.out.cell 13).trans (show _ = some (.slice s.S s.x.sn.length s.cs) from rfl)
  have cl := HG.out.lt
  by_cases hl3 : 300 < l.length
  · have d1 : decide ((300 : Int) < (l.length : Int)) = true := decide_eq_true (by omega)
    have d1n : decide (300 < l.length) = true := decide_eq_true hl3
    go_wp2_with fail
    refine (awake16 _).mono ?_
    rintro q w3 ⟨rfl, hbm⟩
    have HBZ := Lib.hid (HB.out.trans (hbm.mono HB.out.size))
    go_wp2
    go_ret
    exact ⟨rfl, HBZ.out⟩
  have d1 : decide ((300 : Int) < (l.length : Int)) = false := decide_eq_false (by omega)
  have d1n : decide (300 < l.length) = false := decide_eq_false hl3
  by_cases hl1 : 100 < s.x.sn.length
  · have d2 : decide ((100 : Int) < (s.x.sn.length : Int)) = true := decide_eq_true (by omega)
    have d2n : decide (100 < s.x.sn.length) = true := decide_eq_true hl1
    go_wp2_with fail
    refine (awake16 _).mono ?_
    rintro q w3 ⟨rfl, hbm⟩
    have HBZ := Lib.hid (HB.out.trans (hbm.mono HB.out.size))
    go_wp2
    go_ret
    exact ⟨rfl, HBZ.out⟩
  have d2 : decide ((100 : Int) < (s.x.sn.length : Int)) = false := decide_eq_false (by omega)
  have d2n : decide (100 < s.x.sn.length) = false := decide_eq_false hl1
  go_wp2_with fail
  clear d1 d1n d2 d2n c13 cl
  generalize hzz : doZ l s.x e vn = zz at *
  have HZZ := Lib.hid hzz
  clear hzz
  obtain ⟨zt, er⟩ := zz
  have doc : ∀ (A0 : Option Addr) (k0 : Nat) (q : World), World.ownsRow q w2.heap.size 50 6 (.slice A0 l.length k0) l.length (rowsOf inF l) → Below w.heap.size w q → Calls Try.prog 18 #[.slice A0 l.length k0, .agg (thC s.x (.slice s.S s.x.sn.length s.cs)), .agg (evC e), .int .u64 (vn : Int)] q (DoPost (zt, er) q) := fun A0 k0 q hr hb => by
    rw [← HZZ.out]
    exact doU l A0 k0 s.x s.S s.cs e vn q (SeqS.of_owns hr) HOK.out HX.out (HSQ.out q hb) (by omega)
  have DOC := Lib.hid doc
  clear doc
  refine wp_region_relyx (lwS w2 27 31 10 11 8 thZ 1000 1001 1002 akZ) (fkV w2.heap.size [.row 50 6 0 [], .eq (.slice A l.length c), .row 50 6 l.length (rowsOf inF l), .eq (.agg (thC s.x (.slice s.S s.x.sn.length s.cs))), .eq (.agg (evC e)), .eq (.int .u64 (vn : Int)), .tup zt [.int .i64 er], .tup zt [.int .i64 er], .st zt, .eq (.int .i64 er), .any, .any, .eq (.int .i64 er)]) [some 28, some 29, some 30, some 31, some 32, some 33, some 34, some 27, some 35, some 36, some 9, none, some 10] [[], [], [0, 1], [], [], [], [2, 3, 4, 5], [6], [7], [7], [], [10, 8], [9]] [[], [], [0, 1], [], [], [], [0, 1, 2, 3, 4, 5], [2, 3, 4, 5, 6], [6], [6, 11], [], [0, 1, 2, 3, 4, 5, 6, 10], [0, 1, 2, 3, 4, 5, 6, 7, 9, 10, 11]] [[1, 3, 4, 5, 6, 7, 8, 9, 10], [0, 3, 4, 5, 6, 7, 8, 9, 10], [3, 4, 5, 7, 8, 9, 10], [0, 1, 2, 4, 5, 7, 8, 9, 10], [0, 1, 2, 3, 5, 7, 8, 9, 10], [0, 1, 2, 3, 4, 7, 8, 9, 10], [8, 9, 10], [10], [0, 1, 7, 9, 10], [0, 1, 7, 8, 10], [0, 1, 2, 3, 4, 5, 6, 7, 8, 9], [7, 8, 9], [8]] [0, 1, 2, 3, 4, 5, 6, 7, 8, 9, 10, 11, 12] 13 (by kernel_rfl) (by kernel_rfl) (by kernel_rfl) (by kernel_rfl) ?rS (fun j h1 h2 => absurd (Nat.lt_of_lt_of_le h1 (Nat.le_trans (by decide) h2)) (Nat.lt_irrefl _)) ?rT ?rE
  case rS => exact lw_start
  case rT =>
    refine RelyStepsX.cons (RelyStepX.mk [] [1, 3, 4, 5, 6, 7, 8, 9, 10] rfl rfl rfl (fun xv Lv wS hS hL hLd hV bq hb K hK => ?_)) ?_
    · clear hV
      simp only [putsOf, List.foldl_cons, List.foldl_nil, List.getD_cons_zero, List.getD_cons_succ, List.getD_nil, cond_true, cond_false, Act.put, List.setIfInBounds_toArray, List.set_cons_zero, List.set_cons_succ] at hb
      subst hb
      rw [if_pos (by rfl)]
      have HSS := Lib.hid hS
      clear hS
      go_wp2_with fail
      have hbm := (Below.refl wS.heap.size wS).alloc (Nat.le_refl _) (.cells #[] 50)
      exact hK.out _ _ ⟨_, rfl, lw_below rfl HSS.out hbm, owned_empty _ 6 (lw_le HSS.out), AllPX.of _ (fun j _ _ h => fkV_below hbm h)⟩
    refine RelyStepsX.cons (RelyStepX.mk [] [0, 3, 4, 5, 6, 7, 8, 9, 10] rfl rfl rfl (fun xv Lv wS hS hL hLd hV bq hb K hK => ?_)) ?_
    · clear hV
      simp only [putsOf, List.foldl_cons, List.foldl_nil, List.getD_cons_zero, List.getD_cons_succ, List.getD_nil, cond_true, cond_false, Act.put, List.setIfInBounds_toArray, List.set_cons_zero, List.set_cons_succ] at hb
      subst hb
      rw [if_pos (by rfl)]
      go_wp2_with fail
      exact hK.out _ _ ⟨_, rfl, lw_op (i := 1) rfl hS, rfl, AllPX.same _⟩
    refine RelyStepsX.cons (RelyStepX.mk [0, 1] [3, 4, 5, 7, 8, 9, 10] rfl rfl rfl (fun xv Lv wS hS hL hLd hV bq hb K hK => ?_)) ?_
    · obtain ⟨h0, h1, _⟩ := hV
      have h1 : xv 1 = _ := h1
      simp only [putsOf, List.foldl_cons, List.foldl_nil, List.getD_cons_zero, List.getD_cons_succ, List.getD_nil, cond_true, cond_false, Act.put, List.setIfInBounds_toArray, List.set_cons_zero, List.set_cons_succ, h1] at hb
      generalize hy0 : xv 0 = y0 at *
      clear h1
      subst hb
      rw [if_pos (by rfl)]
      have HSS := Lib.hid hS
      clear hS
      refine step_list (ops := #[]) (by rfl) (append_argS wS 6 rfl (.tmp 28) (.tmp 29) 22 rfl w2.heap.size 50 _ 48 Try.underlying22 Try.infoIn rfl (by decide) _ 0 [] rfl h0 A l.length c rfl (rowsOf inF l) (HIN.out _ (HB.out.trans (HSS.out.1.mono HB.out.size))) (inF_one _) (by unfold maxLen; omega) (by omega) (lw_le HSS.out) ?_)
      intro v' w' ho hb hgr
      rw [List.nil_append, Nat.zero_add] at ho
      have hkg := Kept.of_grown hgr
      exact hK.out _ _ ⟨_, rfl, lw_grow rfl HSS.out hb h0 hkg (by decide) (by decide), ho, AllPX.of _ (fun j hj _ h => fkV_grow h0 hkg (all_typ rfl hj) h)⟩
    refine RelyStepsX.cons (RelyStepX.mk [] [0, 1, 2, 4, 5, 7, 8, 9, 10] rfl rfl rfl (fun xv Lv wS hS hL hLd hV bq hb K hK => ?_)) ?_
    · clear hV
      simp only [putsOf, List.foldl_cons, List.foldl_nil, List.getD_cons_zero, List.getD_cons_succ, List.getD_nil, cond_true, cond_false, Act.put, List.setIfInBounds_toArray, List.set_cons_zero, List.set_cons_succ] at hb
      subst hb
      rw [if_pos (by rfl)]
      (have HZ := Lib.hid (HG.out.below hS.1 HG.out.lt); have c0 := (HZ.out.cell 0).trans (show _ = some (Value.int .i64 s.x.at_) from rfl); have c1 := (HZ.out.cell 1).trans (show _ = some (Value.int .i64 s.x.ph) from rfl); have c2 := (HZ.out.cell 2).trans (show _ = some (Value.int .i64 s.x.rg) from rfl); have c3 := (HZ.out.cell 3).trans (show _ = some (Value.int .i64 s.x.st) from rfl); have c4 := (HZ.out.cell 4).trans (show _ = some (Value.int .u64 (s.x.tk : Int)) from rfl); have c5 := (HZ.out.cell 5).trans (show _ = some (Value.int .u64 (s.x.r 0 : Int)) from rfl); have c6 := (HZ.out.cell 6).trans (show _ = some (Value.int .u64 (s.x.r 1 : Int)) from rfl); have c7 := (HZ.out.cell 7).trans (show _ = some (Value.int .u64 (s.x.r 2 : Int)) from rfl); have c8 := (HZ.out.cell 8).trans (show _ = some (Value.int .u64 (s.x.r 3 : Int)) from rfl); have c9 := (HZ.out.cell 9).trans (show _ = some (Value.int .u64 (s.x.r 4 : Int)) from rfl); have c10 := (HZ.out.cell 10).trans (show _ = some (Value.int .u64 (s.x.r 5 : Int)) from rfl); have c11 := (HZ.out.cell 11).trans (show _ = some (Value.int .u64 (s.x.r 6 : Int)) from rfl); have c12 := (HZ.out.cell 12).trans (show _ = some (Value.int .u64 (s.x.r 7 : Int)) from rfl); have c13 := (HZ.out.cell 13).trans (show _ = some ((.slice s.S s.x.sn.length s.cs)) from rfl); have cl := HZ.out.lt)
      go_wp2_with fail
      exact hK.out _ _ ⟨_, rfl, lw_op (i := 3) rfl hS, rfl, AllPX.same _⟩
    refine RelyStepsX.cons (RelyStepX.mk [] [0, 1, 2, 3, 5, 7, 8, 9, 10] rfl rfl rfl (fun xv Lv wS hS hL hLd hV bq hb K hK => ?_)) ?_
    · clear hV
      simp only [putsOf, List.foldl_cons, List.foldl_nil, List.getD_cons_zero, List.getD_cons_succ, List.getD_nil, cond_true, cond_false, Act.put, List.setIfInBounds_toArray, List.set_cons_zero, List.set_cons_succ] at hb
      subst hb
      rw [if_pos (by rfl)]
      (have HLE := Lib.hid (HE.out.below hS.1 HE.out.lt); have q0 := (HLE.out.cell 0).trans (show _ = some (Value.int .i64 e.th) from rfl); have q1 := (HLE.out.cell 1).trans (show _ = some (Value.int .i64 e.kd) from rfl); have q2 := (HLE.out.cell 2).trans (show _ = some (Value.int .i64 e.rg) from rfl); have q3 := (HLE.out.cell 3).trans (show _ = some (Value.int .u64 (e.tk : Int)) from rfl); have q4 := (HLE.out.cell 4).trans (show _ = some (Value.int .u64 (e.vl : Int)) from rfl); have ql := HLE.out.lt)
      go_wp2_with fail
      exact hK.out _ _ ⟨_, rfl, lw_op (i := 4) rfl hS, rfl, AllPX.same _⟩
    refine RelyStepsX.cons (RelyStepX.mk [] [0, 1, 2, 3, 4, 7, 8, 9, 10] rfl rfl rfl (fun xv Lv wS hS hL hLd hV bq hb K hK => ?_)) ?_
    · clear hV
      simp only [putsOf, List.foldl_cons, List.foldl_nil, List.getD_cons_zero, List.getD_cons_succ, List.getD_nil, cond_true, cond_false, Act.put, List.setIfInBounds_toArray, List.set_cons_zero, List.set_cons_succ] at hb
      subst hb
      rw [if_pos (by rfl)]
      go_wp2_with fail
      exact hK.out _ _ ⟨_, rfl, lw_op (i := 5) rfl hS, rfl, AllPX.same _⟩
    refine RelyStepsX.cons (RelyStepX.mk [2, 3, 4, 5] [8, 9, 10] rfl rfl rfl (fun xv Lv wS hS hL hLd hV bq hb K hK => ?_)) ?_
    · obtain ⟨h2, h3, h4, h5, _⟩ := hV
      have h3 : xv 3 = _ := h3
      have h4 : xv 4 = _ := h4
      have h5 : xv 5 = _ := h5
      simp only [putsOf, List.foldl_cons, List.foldl_nil, List.getD_cons_zero, List.getD_cons_succ, List.getD_nil, cond_true, cond_false, Act.put, List.setIfInBounds_toArray, List.set_cons_zero, List.set_cons_succ, h3, h4, h5] at hb
      generalize hy2 : xv 2 = y2 at *
      clear h3
      clear h4
      clear h5
      subst hb
      rw [if_pos (by rfl)]
      have HSS := Lib.hid hS
      clear hS
      obtain ⟨A0, k0, rfl⟩ := owns_slice (show World.ownsRow wS w2.heap.size _ _ _ _ _ from h2)
      have hrow : World.ownsRow wS w2.heap.size _ _ _ _ _ := h2
      have HROW := Lib.hid hrow
      clear hrow h2
      go_wp2_with fail
      refine (DOC.out A0 k0 wS HROW.out (HB.out.trans (HSS.out.1.mono HB.out.size))).mono ?_
      rintro e w' ⟨u, rfl, ho, hbm⟩
      exact hK.out _ _ ⟨_, rfl, lw_below rfl HSS.out hbm, ⟨u, rfl, ownTh_mono ho (lw_le HSS.out)⟩, AllPX.of _ (fun j _ _ h => fkV_below hbm h)⟩
    refine RelyStepsX.cons (RelyStepX.mk [6] [10] rfl rfl rfl (fun xv Lv wS hS hL hLd hV bq hb K hK => ?_)) ?_
    · obtain ⟨h6, _⟩ := hV
      simp only [putsOf, List.foldl_cons, List.foldl_nil, List.getD_cons_zero, List.getD_cons_succ, List.getD_nil, cond_true, cond_false, Act.put, List.setIfInBounds_toArray, List.set_cons_zero, List.set_cons_succ] at hb
      generalize hy6 : xv 6 = y6 at *
      subst hb
      rw [if_pos (by rfl)]
      have HSS := Lib.hid hS
      clear hS
      obtain ⟨u1, rfl, ho⟩ := h6
      go_wp2_with fail
      exact hK.out _ _ ⟨_, rfl, lw_pure rfl HSS.out, ⟨u1, rfl, ho⟩, AllPX.same _⟩
    refine RelyStepsX.cons (RelyStepX.mk [7] [0, 1, 7, 9, 10] rfl rfl rfl (fun xv Lv wS hS hL hLd hV bq hb K hK => ?_)) ?_
    · obtain ⟨h7, _⟩ := hV
      simp only [putsOf, List.foldl_cons, List.foldl_nil, List.getD_cons_zero, List.getD_cons_succ, List.getD_nil, cond_true, cond_false, Act.put, List.setIfInBounds_toArray, List.set_cons_zero, List.set_cons_succ] at hb
      generalize hy7 : xv 7 = y7 at *
      subst hb
      rw [if_pos (by rfl)]
      have HSS := Lib.hid hS
      clear hS
      obtain ⟨u1, rfl, ho⟩ := h7
      go_wp2_with fail
      exact hK.out _ _ ⟨_, rfl, lw_pure rfl HSS.out, ho, AllPX.same _⟩
    refine RelyStepsX.cons (RelyStepX.mk [7] [0, 1, 7, 8, 10] rfl rfl rfl (fun xv Lv wS hS hL hLd hV bq hb K hK => ?_)) ?_
    · obtain ⟨h7, _⟩ := hV
      simp only [putsOf, List.foldl_cons, List.foldl_nil, List.getD_cons_zero, List.getD_cons_succ, List.getD_nil, cond_true, cond_false, Act.put, List.setIfInBounds_toArray, List.set_cons_zero, List.set_cons_succ] at hb
      generalize hy7 : xv 7 = y7 at *
      subst hb
      rw [if_pos (by rfl)]
      have HSS := Lib.hid hS
      clear hS
      obtain ⟨u1, rfl, ho⟩ := h7
      go_wp2_with fail
      exact hK.out _ _ ⟨_, rfl, lw_pure rfl HSS.out, rfl, AllPX.same _⟩
    refine RelyStepsX.cons (RelyStepX.mk [] [0, 1, 2, 3, 4, 5, 6, 7, 8, 9] rfl rfl rfl (fun xv Lv wS hS hL hLd hV bq hb K hK => ?_)) ?_
    · clear hV
      simp only [putsOf, List.foldl_cons, List.foldl_nil, List.getD_cons_zero, List.getD_cons_succ, List.getD_nil, cond_true, cond_false, Act.put, List.setIfInBounds_toArray, List.set_cons_zero, List.set_cons_succ] at hb
      subst hb
      rw [if_pos (by rfl)]
      have HSS := Lib.hid hS
      clear hS
      go_wp2_with fail
      have hbm := (Below.refl wS.heap.size wS).alloc (Nat.le_refl _) (.cells thZ 27)
      exact hK.out _ _ ⟨_, rfl, lw_made1 rfl HSS.out, trivial, AllPX.of _ (fun j _ _ h => fkV_below hbm h)⟩
    refine RelyStepsX.cons (RelyStepX.mk [10, 8] [7, 8, 9] rfl rfl rfl (fun xv Lv wS hS hL hLd hV bq hb K hK => ?_)) ?_
    · obtain ⟨h10, h8, _⟩ := hV
      simp only [putsOf, List.foldl_cons, List.foldl_nil, List.getD_cons_zero, List.getD_cons_succ, List.getD_nil, cond_true, cond_false, Act.put, List.setIfInBounds_toArray, List.set_cons_zero, List.set_cons_succ] at hb
      generalize hy10 : xv 10 = y10 at *
      generalize hy8 : xv 8 = y8 at *
      subst hb
      rw [if_pos (by rfl)]
      have HSS := Lib.hid hS
      clear hS
      obtain ⟨g, hg, hN, hl⟩ := bk_open HSS.out.2.1 (hLd 10 (by decide +kernel)) hL
      rw [hy10] at hg
      subst hg
      obtain ⟨A5, k5, e5, ho5⟩ := h8
      subst e5
      refine wp_store_row _ _ _ rfl g (thC zt (.slice A5 (zt).sn.length k5)) rfl rfl 27 thZ hl infoTh rfl (thC_one _ rfl) ?_
      exact hK.out _ _ ⟨undef, rfl, lw_store1 rfl HSS.out (hLd 10 (by decide +kernel)) (hLd 8 (by decide +kernel)) hy10 hN hl hy8 (by decide), trivial, AllPX.of _ (fun j hj _ h => fkV_row _ hl (all_typ rfl hj) h)⟩
    refine RelyStepsX.cons (RelyStepX.mk [9] [8] rfl rfl rfl (fun xv Lv wS hS hL hLd hV bq hb K hK => ?_)) ?_
    · obtain ⟨h9, _⟩ := hV
      have h9 : xv 9 = _ := h9
      simp only [putsOf, List.foldl_cons, List.foldl_nil, List.getD_cons_zero, List.getD_cons_succ, List.getD_nil, cond_true, cond_false, Act.put, List.setIfInBounds_toArray, List.set_cons_zero, List.set_cons_succ, h9] at hb
      clear h9
      subst hb
      rw [if_pos (by rfl)]
      go_wp2_with fail
      exact hK.out _ _ ⟨_, rfl, lw_op (i := 12) rfl hS, rfl, AllPX.same _⟩
    exact RelyStepsX.nil
  case rE =>
    intro xv Lv wE hS hLall hV
    have h8 := hV 8 (by decide) (by decide)
    have h12 := hV 12 (by decide) (by decide)
    clear hV
    obtain ⟨g1, a1, hx1, hN1, hl1, hv1⟩ := bk_done hS.2.1 (hLall 10 (by decide +kernel)) (hLall 11 (by decide +kernel))
    simp only [putsOf, List.foldl_cons, List.foldl_nil, List.getD_cons_zero, List.getD_cons_succ, List.getD_nil, cond_true, cond_false, Act.put, List.setIfInBounds_toArray, List.set_cons_zero, List.set_cons_succ]
    have h12 : xv 12 = _ := h12
    rw [h12]; clear h12
    generalize xv 0 = y0 at *
    generalize xv 1 = y1 at *
    generalize xv 2 = y2 at *
    generalize xv 3 = y3 at *
    generalize xv 4 = y4 at *
    generalize xv 5 = y5 at *
    generalize xv 6 = y6 at *
    generalize xv 7 = y7 at *
    generalize xv 8 = y8 at *
    generalize xv 9 = y9 at *
    generalize xv 10 = y10 at *
    generalize xv 11 = y11 at *
    have hbm := hS.1
    subst hx1
    obtain ⟨A5, k5, e5, ho5⟩ := h8
    rw [hv1] at e5
    injection e5 with e5
    subst e5
    have HT1 := Lib.hid hl1
    have HO1 := Lib.hid (owns_mono ho5 (Nat.zero_le _))
    clear hv1 ho5 hl1 hN1
    generalize g1 = b1 at *
    replace HG := Lib.hid (HG.out.below hbm HG.out.lt)
    replace HE := Lib.hid (HE.out.below hbm HE.out.lt)
    replace HB := Lib.hid (HB.out.trans (hbm.mono HB.out.size))
    clear hS hbm hLall
    generalize wE = w3 at *
    have c0 := (HG.out.cell 0).trans (show _ = some (Value.int .i64 s.x.at_) from rfl)
    have c1 := (HG.out.cell 1).trans (show _ = some (Value.int .i64 s.x.ph) from rfl)
    have c2 := (HG.out.cell 2).trans (show _ = some (Value.int .i64 s.x.rg) from rfl)
    have c3 := (HG.out.cell 3).trans (show _ = some (Value.int .i64 s.x.st) from rfl)
    have c4 := (HG.out.cell 4).trans (show _ = some (Value.int .u64 (s.x.tk : Int)) from rfl)
    have c5 := (HG.out.cell 5).trans (show _ = some (Value.int .u64 (s.x.r 0 : Int)) from rfl)
    have c6 := (HG.out.cell 6).trans (show _ = some (Value.int .u64 (s.x.r 1 : Int)) from rfl)
    have c7 := (HG.out.cell 7).trans (show _ = some (Value.int .u64 (s.x.r 2 : Int)) from rfl)
    have c8 := (HG.out.cell 8).trans (show _ = some (Value.int .u64 (s.x.r 3 : Int)) from rfl)
    have c9 := (HG.out.cell 9).trans (show _ = some (Value.int .u64 (s.x.r 4 : Int)) from rfl)
    have c10 := (HG.out.cell 10).trans (show _ = some (Value.int .u64 (s.x.r 5 : Int)) from rfl)
    have c11 := (HG.out.cell 11).trans (show _ = some (Value.int .u64 (s.x.r 6 : Int)) from rfl)
    have c12 := (HG.out.cell 12).trans (show _ = some (Value.int .u64 (s.x.r 7 : Int)) from rfl)
    have c13 := (HG.out.cell 13).trans (show _ = some ((.slice s.S s.x.sn.length s.cs)) from rfl)
    have cl := HG.out.lt
    have q0 := (HE.out.cell 0).trans (show _ = some (Value.int .i64 e.th) from rfl)
    have q1 := (HE.out.cell 1).trans (show _ = some (Value.int .i64 e.kd) from rfl)
    have q2 := (HE.out.cell 2).trans (show _ = some (Value.int .i64 e.rg) from rfl)
    have q3 := (HE.out.cell 3).trans (show _ = some (Value.int .u64 (e.tk : Int)) from rfl)
    have q4 := (HE.out.cell 4).trans (show _ = some (Value.int .u64 (e.vl : Int)) from rfl)
    have ql := HE.out.lt
    go_wp2_with fail
    refine (rfDoU l A c s.x s.S s.cs e vn w3 (HIN.out _ HB.out) HOK.out HX.out (HSQ.out _ HB.out) (by omega)).mono ?_
    rw [HZZ.out]
    rintro q w4 ⟨A6, k6, rfl, hs6, hbm⟩
    clear q0 q1 q2 q3 q4 ql
    clear c0 c1 c2 c3 c4 c5 c6 c7 c8 c9 c10 c11 c12 c13 cl
    replace HG := Lib.hid (HG.out.below hbm HG.out.lt)
    replace HT1 := Lib.hid (HT1.out.below hbm HT1.out.lt)
    replace HO1 := Lib.hid (owned_below HO1.out hbm)
    replace HB := Lib.hid (HB.out.trans (hbm.mono HB.out.size))
    clear hbm DOC HE
    have HS6 := Lib.hid (show ∀ q : World, Below w4.heap.size w4 q → SeqS q 1 (.slice A6 zt.sn.length k6) zt.sn.length (cells64 zt.sn) from fun q hq => hs6.later hq)
    clear hs6
    have HBn := Lib.hid ((Below.refl w4.heap.size w4).alloc (Nat.le_refl _) (.cells thZ 27))
    have lz0 := (Lies.made w4 27 thZ)
    have HZ0_0 := Lib.hid lz0
    clear lz0
    generalize hw3 : (w4.alloc (.cells thZ 27)) = w3 at *
    generalize hn5 : w4.heap.size = n5 at *
    have hns : n5 ≤ w3.heap.size := by rw [← hn5]; exact HBn.out.size
    have hk0 := kept_rowT (w := w3) (g := n5) (thC zt (.slice A6 zt.sn.length k6))
    have HZ1_0 := Lib.hid (lies_row HZ0_0.out (thC zt (.slice A6 zt.sn.length k6)))
    have HBn0 := Lib.hid (HBn.out.trans (hk0.below (show n5 ≤ w3.heap.size from hns) (fun k hk (e : k = n5) => by omega)))
    have hks0 : w3.heap.size ≤ (w3.setRow (n5) (thC zt (.slice A6 zt.sn.length k6))).heap.size := hk0.size
    clear hk0
    go_upto_region 5 with (first | refine wpList_store_row rfl 27 _ _ rfl (n5) (thC zt (.slice A6 zt.sn.length k6)) rfl rfl 27 thZ HZ0_0.out infoTh rfl (thC_one _ rfl) ?_)
    clear hw3 hks0 hns HBn HZ0_0
    generalize (w3.setRow (n5) (thC zt (.slice A6 zt.sn.length k6))) = w5 at *
    have hbf := HBn0.out
    rw [← hn5] at hbf
    have HSX := Lib.hid (HS6.out _ (by rw [hn5] at hbf; exact hbf))
    clear HS6
    clear HBn0
    replace HG := Lib.hid (HG.out.below hbf HG.out.lt)
    replace HT1 := Lib.hid (HT1.out.below hbf HT1.out.lt)
    replace HO1 := Lib.hid (owned_below HO1.out hbf)
    replace HB := Lib.hid (HB.out.trans (hbf.mono HB.out.size))
    clear hbf
    have HT2 := HZ1_0
    clear HZ1_0
    generalize n5 = b2 at *
    clear hn5
    have c0 := (HT1.out.cell 0).trans (show _ = some (Value.int .i64 zt.at_) from rfl)
    have c1 := (HT1.out.cell 1).trans (show _ = some (Value.int .i64 zt.ph) from rfl)
    have c2 := (HT1.out.cell 2).trans (show _ = some (Value.int .i64 zt.rg) from rfl)
    have c3 := (HT1.out.cell 3).trans (show _ = some (Value.int .i64 zt.st) from rfl)
    have c4 := (HT1.out.cell 4).trans (show _ = some (Value.int .u64 (zt.tk : Int)) from rfl)
    have c5 := (HT1.out.cell 5).trans (show _ = some (Value.int .u64 (zt.r 0 : Int)) from rfl)
    have c6 := (HT1.out.cell 6).trans (show _ = some (Value.int .u64 (zt.r 1 : Int)) from rfl)
    have c7 := (HT1.out.cell 7).trans (show _ = some (Value.int .u64 (zt.r 2 : Int)) from rfl)
    have c8 := (HT1.out.cell 8).trans (show _ = some (Value.int .u64 (zt.r 3 : Int)) from rfl)
    have c9 := (HT1.out.cell 9).trans (show _ = some (Value.int .u64 (zt.r 4 : Int)) from rfl)
    have c10 := (HT1.out.cell 10).trans (show _ = some (Value.int .u64 (zt.r 5 : Int)) from rfl)
    have c11 := (HT1.out.cell 11).trans (show _ = some (Value.int .u64 (zt.r 6 : Int)) from rfl)
    have c12 := (HT1.out.cell 12).trans (show _ = some (Value.int .u64 (zt.r 7 : Int)) from rfl)
    have c13 := (HT1.out.cell 13).trans (show _ = some ((.slice A5 zt.sn.length k5)) from rfl)
    have cl := HT1.out.lt
    have d0 := (HT2.out.cell 0).trans (show _ = some (Value.int .i64 zt.at_) from rfl)
    have d1 := (HT2.out.cell 1).trans (show _ = some (Value.int .i64 zt.ph) from rfl)
    have d2 := (HT2.out.cell 2).trans (show _ = some (Value.int .i64 zt.rg) from rfl)
    have d3 := (HT2.out.cell 3).trans (show _ = some (Value.int .i64 zt.st) from rfl)
    have d4 := (HT2.out.cell 4).trans (show _ = some (Value.int .u64 (zt.tk : Int)) from rfl)
    have d5 := (HT2.out.cell 5).trans (show _ = some (Value.int .u64 (zt.r 0 : Int)) from rfl)
    have d6 := (HT2.out.cell 6).trans (show _ = some (Value.int .u64 (zt.r 1 : Int)) from rfl)
    have d7 := (HT2.out.cell 7).trans (show _ = some (Value.int .u64 (zt.r 2 : Int)) from rfl)
    have d8 := (HT2.out.cell 8).trans (show _ = some (Value.int .u64 (zt.r 3 : Int)) from rfl)
    have d9 := (HT2.out.cell 9).trans (show _ = some (Value.int .u64 (zt.r 4 : Int)) from rfl)
    have d10 := (HT2.out.cell 10).trans (show _ = some (Value.int .u64 (zt.r 5 : Int)) from rfl)
    have d11 := (HT2.out.cell 11).trans (show _ = some (Value.int .u64 (zt.r 6 : Int)) from rfl)
    have d12 := (HT2.out.cell 12).trans (show _ = some (Value.int .u64 (zt.r 7 : Int)) from rfl)
    have d13 := (HT2.out.cell 13).trans (show _ = some ((.slice A6 zt.sn.length k6)) from rfl)
    have dl := HT2.out.lt
    have u0 := (HG.out.cell 0).trans (show _ = some (Value.int .i64 s.x.at_) from rfl)
    have u1 := (HG.out.cell 1).trans (show _ = some (Value.int .i64 s.x.ph) from rfl)
    have u2 := (HG.out.cell 2).trans (show _ = some (Value.int .i64 s.x.rg) from rfl)
    have u3 := (HG.out.cell 3).trans (show _ = some (Value.int .i64 s.x.st) from rfl)
    have u4 := (HG.out.cell 4).trans (show _ = some (Value.int .u64 (s.x.tk : Int)) from rfl)
    have u5 := (HG.out.cell 5).trans (show _ = some (Value.int .u64 (s.x.r 0 : Int)) from rfl)
    have u6 := (HG.out.cell 6).trans (show _ = some (Value.int .u64 (s.x.r 1 : Int)) from rfl)
    have u7 := (HG.out.cell 7).trans (show _ = some (Value.int .u64 (s.x.r 2 : Int)) from rfl)
    have u8 := (HG.out.cell 8).trans (show _ = some (Value.int .u64 (s.x.r 3 : Int)) from rfl)
    have u9 := (HG.out.cell 9).trans (show _ = some (Value.int .u64 (s.x.r 4 : Int)) from rfl)
    have u10 := (HG.out.cell 10).trans (show _ = some (Value.int .u64 (s.x.r 5 : Int)) from rfl)
    have u11 := (HG.out.cell 11).trans (show _ = some (Value.int .u64 (s.x.r 6 : Int)) from rfl)
    have u12 := (HG.out.cell 12).trans (show _ = some (Value.int .u64 (s.x.r 7 : Int)) from rfl)
    have u13 := (HG.out.cell 13).trans (show _ = some ((.slice s.S s.x.sn.length s.cs)) from rfl)
    have ul := HG.out.lt
    have hee : (er == er) = true := by rw [beq_iff_eq]
    have HSA := Lib.hid (seqAt16 (SeqS.of_owns HO1.out))
    have HSB := Lib.hid (seqAt16 HSX.out)
    have HSC := Lib.hid (seqAt16 (HSQ.out _ HB.out))
    go_wp2_with fail
    refine (rfThSame zt zt A5 k5 A6 k6 w5 HSA.out HSB.out).mono ?_
    rw [samT_self]
    rintro q w6 ⟨rfl, hb6⟩
    have HT1b := Lib.hid (HT1.out.below hb6 HT1.out.lt)
    have HT2b := Lib.hid (HT2.out.below hb6 HT2.out.lt)
    clear c0 c1 c2 c3 c4 c5 c6 c7 c8 c9 c10 c11 c12 c13 cl
    clear d0 d1 d2 d3 d4 d5 d6 d7 d8 d9 d10 d11 d12 d13 dl
    clear u0 u1 u2 u3 u4 u5 u6 u7 u8 u9 u10 u11 u12 u13 ul
    have c0 := (HT1b.out.cell 0).trans (show _ = some (Value.int .i64 zt.at_) from rfl)
    have c1 := (HT1b.out.cell 1).trans (show _ = some (Value.int .i64 zt.ph) from rfl)
    have c2 := (HT1b.out.cell 2).trans (show _ = some (Value.int .i64 zt.rg) from rfl)
    have c3 := (HT1b.out.cell 3).trans (show _ = some (Value.int .i64 zt.st) from rfl)
    have c4 := (HT1b.out.cell 4).trans (show _ = some (Value.int .u64 (zt.tk : Int)) from rfl)
    have c5 := (HT1b.out.cell 5).trans (show _ = some (Value.int .u64 (zt.r 0 : Int)) from rfl)
    have c6 := (HT1b.out.cell 6).trans (show _ = some (Value.int .u64 (zt.r 1 : Int)) from rfl)
    have c7 := (HT1b.out.cell 7).trans (show _ = some (Value.int .u64 (zt.r 2 : Int)) from rfl)
    have c8 := (HT1b.out.cell 8).trans (show _ = some (Value.int .u64 (zt.r 3 : Int)) from rfl)
    have c9 := (HT1b.out.cell 9).trans (show _ = some (Value.int .u64 (zt.r 4 : Int)) from rfl)
    have c10 := (HT1b.out.cell 10).trans (show _ = some (Value.int .u64 (zt.r 5 : Int)) from rfl)
    have c11 := (HT1b.out.cell 11).trans (show _ = some (Value.int .u64 (zt.r 6 : Int)) from rfl)
    have c12 := (HT1b.out.cell 12).trans (show _ = some (Value.int .u64 (zt.r 7 : Int)) from rfl)
    have c13 := (HT1b.out.cell 13).trans (show _ = some ((.slice A5 zt.sn.length k5)) from rfl)
    have cl := HT1b.out.lt
    have d0 := (HT2b.out.cell 0).trans (show _ = some (Value.int .i64 zt.at_) from rfl)
    have d1 := (HT2b.out.cell 1).trans (show _ = some (Value.int .i64 zt.ph) from rfl)
    have d2 := (HT2b.out.cell 2).trans (show _ = some (Value.int .i64 zt.rg) from rfl)
    have d3 := (HT2b.out.cell 3).trans (show _ = some (Value.int .i64 zt.st) from rfl)
    have d4 := (HT2b.out.cell 4).trans (show _ = some (Value.int .u64 (zt.tk : Int)) from rfl)
    have d5 := (HT2b.out.cell 5).trans (show _ = some (Value.int .u64 (zt.r 0 : Int)) from rfl)
    have d6 := (HT2b.out.cell 6).trans (show _ = some (Value.int .u64 (zt.r 1 : Int)) from rfl)
    have d7 := (HT2b.out.cell 7).trans (show _ = some (Value.int .u64 (zt.r 2 : Int)) from rfl)
    have d8 := (HT2b.out.cell 8).trans (show _ = some (Value.int .u64 (zt.r 3 : Int)) from rfl)
    have d9 := (HT2b.out.cell 9).trans (show _ = some (Value.int .u64 (zt.r 4 : Int)) from rfl)
    have d10 := (HT2b.out.cell 10).trans (show _ = some (Value.int .u64 (zt.r 5 : Int)) from rfl)
    have d11 := (HT2b.out.cell 11).trans (show _ = some (Value.int .u64 (zt.r 6 : Int)) from rfl)
    have d12 := (HT2b.out.cell 12).trans (show _ = some (Value.int .u64 (zt.r 7 : Int)) from rfl)
    have d13 := (HT2b.out.cell 13).trans (show _ = some ((.slice A6 zt.sn.length k6)) from rfl)
    have dl := HT2b.out.lt
    go_wp2_with fail
    refine (thSame zt zt A5 k5 A6 k6 w6 (SeqAt.later_ HSA.out hb6) (SeqAt.later_ HSB.out hb6)).mono ?_
    rw [samT_self]
    rintro q w7 ⟨rfl, hb7⟩
    have hb67 := hb6.trans (hb7.mono hb6.size)
    have HGb := Lib.hid (HG.out.below hb67 HG.out.lt)
    clear c0 c1 c2 c3 c4 c5 c6 c7 c8 c9 c10 c11 c12 c13 cl
    clear d0 d1 d2 d3 d4 d5 d6 d7 d8 d9 d10 d11 d12 d13 dl
    have u0 := (HGb.out.cell 0).trans (show _ = some (Value.int .i64 s.x.at_) from rfl)
    have u1 := (HGb.out.cell 1).trans (show _ = some (Value.int .i64 s.x.ph) from rfl)
    have u2 := (HGb.out.cell 2).trans (show _ = some (Value.int .i64 s.x.rg) from rfl)
    have u3 := (HGb.out.cell 3).trans (show _ = some (Value.int .i64 s.x.st) from rfl)
    have u4 := (HGb.out.cell 4).trans (show _ = some (Value.int .u64 (s.x.tk : Int)) from rfl)
    have u5 := (HGb.out.cell 5).trans (show _ = some (Value.int .u64 (s.x.r 0 : Int)) from rfl)
    have u6 := (HGb.out.cell 6).trans (show _ = some (Value.int .u64 (s.x.r 1 : Int)) from rfl)
    have u7 := (HGb.out.cell 7).trans (show _ = some (Value.int .u64 (s.x.r 2 : Int)) from rfl)
    have u8 := (HGb.out.cell 8).trans (show _ = some (Value.int .u64 (s.x.r 3 : Int)) from rfl)
    have u9 := (HGb.out.cell 9).trans (show _ = some (Value.int .u64 (s.x.r 4 : Int)) from rfl)
    have u10 := (HGb.out.cell 10).trans (show _ = some (Value.int .u64 (s.x.r 5 : Int)) from rfl)
    have u11 := (HGb.out.cell 11).trans (show _ = some (Value.int .u64 (s.x.r 6 : Int)) from rfl)
    have u12 := (HGb.out.cell 12).trans (show _ = some (Value.int .u64 (s.x.r 7 : Int)) from rfl)
    have u13 := (HGb.out.cell 13).trans (show _ = some ((.slice s.S s.x.sn.length s.cs)) from rfl)
    have ul := HGb.out.lt
    go_wp2_with fail
    refine (thSame s.x s.x s.S s.cs s.S s.cs w7 (SeqAt.later_ HSC.out hb67) (SeqAt.later_ HSC.out hb67)).mono ?_
    rw [samT_self]
    rintro q w8 ⟨rfl, hb8⟩
    have HBZ := Lib.hid (HB.out.trans ((hb67.trans (hb8.mono hb67.size)).mono HB.out.size))
    go_wp2
    go_ret
    exact ⟨rfl, HBZ.out⟩
end Go.Proofs.Ytiegmpjoiekekaa
