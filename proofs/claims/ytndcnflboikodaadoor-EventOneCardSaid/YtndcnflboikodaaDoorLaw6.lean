/-
  EventOne: its walk, to its end.
-/
import Derived.Test.YtndcnflboikodaaDoorLaw5
namespace Go.Proofs.YtndcnflboikodaaDoor
open Go.RowKit
set_option linter.unusedVariables false
set_option linter.unusedSimpArgs false
def o4V (z : List Ev) (x y : Ev) (vx vy vl : Value) (D : Bool) : Nat → Value → Prop
  | 0, v => v = vx
  | 1, v => v = vy
  | 2, v => v = .bool D
  | 3, v => v = .agg (evC x)
  | 4, v => v = .agg (evC y)
  | 5, v => v = .bool D
  | 6, v => v = .bool false
  | 7, v => v = .bool false
  | 8, v => v = vx
  | 9, v => v = vl
  | 10, v => v = .bool false
  | 11, v => v = .bool false
  | 12, v => v = .bool false
  | 13, v => v = vl
  | 14, v => v = vl
  | 15, v => v = .bool true
  | 16, v => v = .bool false
  | 17, v => v = .bool false
  | _, _ => True
theorem one_same (z : List Ev) (x y : Ev) : decide (z ++ [x] = z ++ [y]) = decide (x = y) := by
  rw [Bool.eq_iff_iff, decide_eq_true_eq, decide_eq_true_eq]
  simp
theorem one_less (z : List Ev) (x : Ev) : decide (z ++ [x] = z) = false := by
  rw [decide_eq_false_iff_not]
  intro e
  have := congrArg List.length e
  simp at this
theorem line_same {x y : Ev} (hx : rightE x = true) (hy : rightE y = true) (hxv : x.vl ≤ 18446744073709551615) (hyv : y.vl ≤ 18446744073709551615) : ((textB (lineE x)).toList == (textB (lineE y)).toList) = decide (x = y) := by
  by_cases h : x = y
  · subst h; simp
  · rw [decide_eq_false h]
    refine text_ne (fun e => h (line_inj hx hy hxv hyv ?_))
    have := congrArg (fun s => s.data.toList) e
    simpa [textB] using this
set_option maxHeartbeats 16000000 in
set_option maxRecDepth 100000 in
theorem one_walk (x y : Ev) (a : Option Addr) (len cap : Nat) (z : List Ev) (W : World) (hox : evOk x) (hoy : evOk y) (h : EvArg W a len cap z) (hN : EvnAt W) :
    Calls Tryd.prog 7 #[.agg (evC x), .agg (evC y), .slice a len cap] W fun e w' => e = .returned (.bool true) ∧ Below W.heap.size W w' := by
  obtain ⟨rfl, hz, hok⟩ := h
  obtain ⟨A', c', e', h1, h2, _⟩ := hz.form
  simp only [Value.slice.injEq, true_and] at e'
  obtain ⟨rfl, rfl⟩ := e'
  unfold maxLen at h2
  have hgl := hN.lt
  have HEN := Lib.hid (fun (q : World) (hq : Below W.heap.size W q) => hN.later hq hgl)
  have HZ := Lib.hid (fun (q : World) (hq : Below W.heap.size W q) => SeqS.later hz hq)
  have hb0 : Below W.heap.size W ((W.alloc (.cells (evC x) 24)).alloc (.cells (evC y) 24)) := ((Below.refl _ _).alloc (Nat.le_refl _) _).alloc (by simp) _
  have l0 := (Lies.made W 24 (evC x)).alloc (.cells (evC y) 24)
  have l1 := Lies.made (W.alloc (.cells (evC x) 24)) 24 (evC y)
  rw [World.size_alloc] at l1
  have HB := Lib.hid hb0
  have HX := Lib.hid l0
  have HY := Lib.hid l1
  have HOX := Lib.hid hox
  have HOY := Lib.hid hoy
  clear hz hok hN hb0 l0 l1 hox hoy
  by_cases hl : 100 < z.length
  · have e1 : decide (100 < z.length) = true := decide_eq_true hl
    have e2 : decide ((100 : Int) < (z.length : Int)) = true := decide_eq_true (by omega)
    go_enter Tryd.func7, Tryd.ntmps7
    go_wp2_with fail
    refine (awake_any _ (HEN.out _ HB.out)).mono ?_
    rintro e wn ⟨rfl, hbm⟩
    replace HB := Lib.hid (HB.out.trans (hbm.mono HB.out.size))
    clear hbm
    go_wp2_with fail
    refine (awake_any _ (HEN.out _ HB.out)).mono ?_
    rintro e wn ⟨rfl, hbm⟩
    replace HB := Lib.hid (HB.out.trans (hbm.mono HB.out.size))
    clear hbm
    go_wp2
    go_ret
    exact ⟨rfl, HB.out⟩
  have e1 : decide (100 < z.length) = false := decide_eq_false hl
  have e2 : decide ((100 : Int) < (z.length : Int)) = false := decide_eq_false (by omega)
  obtain ⟨N, hN⟩ : ∃ N, W.heap.size = N := ⟨_, rfl⟩
  rw [hN] at HX HY
  go_enter Tryd.func7, Tryd.ntmps7
  go_wp2_with fail
  try simp only [hN]
  clear hN
  generalize (W.alloc (.cells (evC x) 24)).alloc (.cells (evC y) 24) = w1 at *
  refine (awake_any _ (HEN.out _ HB.out)).mono ?_
  rintro e wn ⟨rfl, hbm⟩
  replace HB := Lib.hid (HB.out.trans (hbm.mono HB.out.size))
  replace HX := Lib.hid (HX.out.below hbm HX.out.lt)
  replace HY := Lib.hid (HY.out.below hbm HY.out.lt)
  clear hbm
  go_wp2_with fail
  refine wp_region_relyx (OneS wn.heap.size wn) (onV wn.heap.size z x y a cap) [some 21, some 22, some 23, some 24, some 25, some 26, some 27, some 28, some 29, some 30, some 31, some 32, some 7, some 8] [[], [], [0, 1], [], [3], [2, 4], [], [], [6, 7], [], [9], [8, 10], [5], [11]] [[], [], [0, 1], [], [3], [0, 1, 2, 3, 4], [], [], [2, 4, 6, 7], [], [9], [6, 7, 8, 9, 10], [0, 1, 2, 3, 4, 5, 8, 10], [0, 1, 2, 3, 4, 5, 6, 7, 8, 9, 10, 11]] [[1, 3, 4, 5, 6, 7, 8, 9, 10, 11], [0, 3, 4, 5, 6, 7, 8, 9, 10, 11], [3, 4, 6, 7, 8, 9, 10, 11], [0, 1, 2, 5, 6, 7, 8, 9, 10, 11], [0, 1, 2, 6, 7, 8, 9, 10, 11], [6, 7, 9, 10, 11], [0, 1, 2, 3, 4, 5, 7, 9, 10, 11, 12], [0, 1, 2, 3, 4, 5, 6, 9, 10, 11, 12], [5, 9, 10, 12], [0, 1, 2, 3, 4, 5, 6, 7, 8, 11, 12], [0, 1, 2, 3, 4, 5, 6, 7, 8, 12], [0, 1, 3, 5], [11], [12]] [0, 1, 2, 3, 4, 5, 6, 7, 8, 9, 10, 11, 12, 13] 14 (by kernel_rfl) (by kernel_rfl) (by kernel_rfl) (by kernel_rfl) ?rS (fun j h1 h2 => absurd (Nat.lt_of_lt_of_le h1 (Nat.le_trans (by decide) h2)) (Nat.lt_irrefl _)) ?rT ?rE
  case rS => exact ⟨below_drewN (Below.refl _ _) 1, Nat.le_refl _, (fun i g hL => by cases hL), (fun i j g hL => by cases hL)⟩
  case rT =>
    refine RelyStepsX.cons (RelyStepX.mk [] [1, 3, 4, 5, 6, 7, 8, 9, 10, 11] rfl rfl rfl (fun xv Lv wS hS hL hLd hV bq hb K hK => ?_)) ?_
    · clear hV
      simp only [putsOf, List.foldl_cons, List.foldl_nil, List.getD_cons_zero, List.getD_cons_succ, List.getD_nil, cond_true, cond_false, Act.put, List.setIfInBounds_toArray, List.set_cons_zero, List.set_cons_succ] at hb
      subst hb
      rw [if_pos (by rfl)]
      have HSS := Lib.hid hS
      clear hS
      go_wp2_with fail
      exact hK.out _ _ ⟨_, rfl, OneS.fresh rfl HSS.out, owned_empty _ 5 HSS.out.le, AllPX.of _ (fun j hj hL h => onV_kept (Kept.alloc noRow wS _) (fun _ _ h => h) h)⟩
    refine RelyStepsX.cons (RelyStepX.mk [] [0, 3, 4, 5, 6, 7, 8, 9, 10, 11] rfl rfl rfl (fun xv Lv wS hS hL hLd hV bq hb K hK => ?_)) ?_
    · clear hV
      simp only [putsOf, List.foldl_cons, List.foldl_nil, List.getD_cons_zero, List.getD_cons_succ, List.getD_nil, cond_true, cond_false, Act.put, List.setIfInBounds_toArray, List.set_cons_zero, List.set_cons_succ] at hb
      subst hb
      rw [if_pos (by rfl)]
      go_wp2_with fail
      exact hK.out _ _ ⟨_, rfl, OneS.pure (i := 1) rfl hS, rfl, AllPX.same _⟩
    refine RelyStepsX.cons (RelyStepX.mk [0, 1] [3, 4, 6, 7, 8, 9, 10, 11] rfl rfl rfl (fun xv Lv wS hS hL hLd hV bq hb K hK => ?_)) ?_
    · obtain ⟨h0, h1, _⟩ := hV
      have h1 : xv 1 = _ := h1
      simp only [putsOf, List.foldl_cons, List.foldl_nil, List.getD_cons_zero, List.getD_cons_succ, List.getD_nil, cond_true, cond_false, Act.put, List.setIfInBounds_toArray, List.set_cons_zero, List.set_cons_succ, h1] at hb
      generalize hy0 : xv 0 = y0 at *
      clear h1
      subst hb
      rw [if_pos (by rfl)]
      have HSS := Lib.hid hS
      clear hS
      refine step_list (ops := #[]) (by rfl) (append_argS_at wS 5 rfl (.tmp 21) (.tmp 22) 36 rfl wn.heap.size 24 _ 40 Tryd.underlying36 Tryd.infoEv rfl (by decide) y0 0 [] rfl h0 a z.length cap rfl (rowsOf evF z) (HZ.out _ (HB.out.trans (HSS.out.bel.mono HB.out.size))) (evFs_one _) (by unfold maxLen; omega) (by omega) HSS.out.le ?_)
      intro v' w' ho hb hgr hat
      rw [List.nil_append, Nat.zero_add] at ho
      have hLp := hLd 0 (by decide +kernel)
      exact hK.out _ _ ⟨_, rfl, HSS.out.grow (p := 0) hb hLp rfl (by decide) (by rw [hy0]; exact hat), ho, AllPX.of _ (onV_grow HSS.out (by rw [hy0]; exact hgr) hLp (by decide) _ (by decide))⟩
    refine RelyStepsX.cons (RelyStepX.mk [] [0, 1, 2, 5, 6, 7, 8, 9, 10, 11] rfl rfl rfl (fun xv Lv wS hS hL hLd hV bq hb K hK => ?_)) ?_
    · clear hV
      simp only [putsOf, List.foldl_cons, List.foldl_nil, List.getD_cons_zero, List.getD_cons_succ, List.getD_nil, cond_true, cond_false, Act.put, List.setIfInBounds_toArray, List.set_cons_zero, List.set_cons_succ] at hb
      subst hb
      rw [if_pos (by rfl)]
      (have q1 := HX.out.below hS.bel HX.out.lt; have c0 := (q1.cell 0).trans (show _ = some (Value.int .i64 (x).th) from rfl); have c1 := (q1.cell 1).trans (show _ = some (Value.int .i64 (x).kd) from rfl); have c2 := (q1.cell 2).trans (show _ = some (Value.int .i64 (x).rg) from rfl); have c3 := (q1.cell 3).trans (show _ = some (Value.int .u64 ((x).tk : Int)) from rfl); have c4 := (q1.cell 4).trans (show _ = some (Value.int .u64 ((x).vl : Int)) from rfl); have cl := q1.lt; clear q1)
      go_wp2_with fail
      exact hK.out _ _ ⟨_, rfl, OneS.pure (i := 3) rfl hS, rfl, AllPX.same _⟩
    refine RelyStepsX.cons (RelyStepX.mk [3] [0, 1, 2, 6, 7, 8, 9, 10, 11] rfl rfl rfl (fun xv Lv wS hS hL hLd hV bq hb K hK => ?_)) ?_
    · obtain ⟨h3, _⟩ := hV
      have h3 : xv 3 = _ := h3
      simp only [putsOf, List.foldl_cons, List.foldl_nil, List.getD_cons_zero, List.getD_cons_succ, List.getD_nil, cond_true, cond_false, Act.put, List.setIfInBounds_toArray, List.set_cons_zero, List.set_cons_succ, h3] at hb
      clear h3
      subst hb
      rw [if_pos (by rfl)]
      have HSS := Lib.hid hS
      clear hS
      go_wp2_with fail
      exact hK.out _ _ ⟨_, rfl, OneS.fresh rfl HSS.out, ⟨_, rfl, Lies.made _ _ _⟩, AllPX.of _ (fun j hj hL h => onV_kept (Kept.alloc noRow wS _) (fun _ _ h => h) h)⟩
    refine RelyStepsX.cons (RelyStepX.mk [2, 4] [6, 7, 9, 10, 11] rfl rfl rfl (fun xv Lv wS hS hL hLd hV bq hb K hK => ?_)) ?_
    · obtain ⟨h2, h4, _⟩ := hV
      simp only [putsOf, List.foldl_cons, List.foldl_nil, List.getD_cons_zero, List.getD_cons_succ, List.getD_nil, cond_true, cond_false, Act.put, List.setIfInBounds_toArray, List.set_cons_zero, List.set_cons_succ] at hb
      generalize hy2 : xv 2 = y2 at *
      generalize hy4 : xv 4 = y4 at *
      subst hb
      rw [if_pos (by rfl)]
      have HSS := Lib.hid hS
      obtain ⟨g4, e4, hl4⟩ := h4
      subst e4
      clear hS
      refine step_list (ops := #[]) (by rfl) (append_argS_at wS 5 rfl (.tmp 23) (.tmp 25) 36 rfl wn.heap.size 24 _ 40 Tryd.underlying36 Tryd.infoEv rfl (by decide) y2 z.length (rowsOf evF z) rfl h2 (some ⟨g4, 0, none⟩) 1 1 rfl (evC x).toList (seq_litS (n := 1) (sz := 5) hl4 rfl (by omega)) (evF_one x) (by unfold maxLen; omega) (by omega) HSS.out.le ?_)
      intro v' w' ho hb hgr hat
      have hrw : rowsOf evF z ++ (evC x).toList = rowsOf evF (z ++ [x]) := by rw [rowsOf_append, rowsOf_one]; rfl
      rw [hrw] at ho
      have hLp := hLd 2 (by decide +kernel)
      exact hK.out _ _ ⟨_, rfl, HSS.out.grow (p := 2) hb hLp rfl (by decide) (by rw [hy2]; exact hat), ho, AllPX.of _ (onV_grow HSS.out (by rw [hy2]; exact hgr) hLp (by decide) _ (by decide))⟩
    refine RelyStepsX.cons (RelyStepX.mk [] [0, 1, 2, 3, 4, 5, 7, 9, 10, 11, 12] rfl rfl rfl (fun xv Lv wS hS hL hLd hV bq hb K hK => ?_)) ?_
    · clear hV
      simp only [putsOf, List.foldl_cons, List.foldl_nil, List.getD_cons_zero, List.getD_cons_succ, List.getD_nil, cond_true, cond_false, Act.put, List.setIfInBounds_toArray, List.set_cons_zero, List.set_cons_succ] at hb
      subst hb
      rw [if_pos (by rfl)]
      have HSS := Lib.hid hS
      clear hS
      go_wp2_with fail
      exact hK.out _ _ ⟨_, rfl, OneS.fresh rfl HSS.out, owned_empty _ 5 HSS.out.le, AllPX.of _ (fun j hj hL h => onV_kept (Kept.alloc noRow wS _) (fun _ _ h => h) h)⟩
    refine RelyStepsX.cons (RelyStepX.mk [] [0, 1, 2, 3, 4, 5, 6, 9, 10, 11, 12] rfl rfl rfl (fun xv Lv wS hS hL hLd hV bq hb K hK => ?_)) ?_
    · clear hV
      simp only [putsOf, List.foldl_cons, List.foldl_nil, List.getD_cons_zero, List.getD_cons_succ, List.getD_nil, cond_true, cond_false, Act.put, List.setIfInBounds_toArray, List.set_cons_zero, List.set_cons_succ] at hb
      subst hb
      rw [if_pos (by rfl)]
      go_wp2_with fail
      exact hK.out _ _ ⟨_, rfl, OneS.pure (i := 7) rfl hS, rfl, AllPX.same _⟩
    refine RelyStepsX.cons (RelyStepX.mk [6, 7] [5, 9, 10, 12] rfl rfl rfl (fun xv Lv wS hS hL hLd hV bq hb K hK => ?_)) ?_
    · obtain ⟨h6, h7, _⟩ := hV
      have h7 : xv 7 = _ := h7
      simp only [putsOf, List.foldl_cons, List.foldl_nil, List.getD_cons_zero, List.getD_cons_succ, List.getD_nil, cond_true, cond_false, Act.put, List.setIfInBounds_toArray, List.set_cons_zero, List.set_cons_succ, h7] at hb
      generalize hy6 : xv 6 = y6 at *
      clear h7
      subst hb
      rw [if_pos (by rfl)]
      have HSS := Lib.hid hS
      clear hS
      refine step_list (ops := #[]) (by rfl) (append_argS_at wS 5 rfl (.tmp 27) (.tmp 28) 36 rfl wn.heap.size 24 _ 40 Tryd.underlying36 Tryd.infoEv rfl (by decide) y6 0 [] rfl h6 a z.length cap rfl (rowsOf evF z) (HZ.out _ (HB.out.trans (HSS.out.bel.mono HB.out.size))) (evFs_one _) (by unfold maxLen; omega) (by omega) HSS.out.le ?_)
      intro v' w' ho hb hgr hat
      rw [List.nil_append, Nat.zero_add] at ho
      have hLp := hLd 6 (by decide +kernel)
      exact hK.out _ _ ⟨_, rfl, HSS.out.grow (p := 6) hb hLp rfl (by decide) (by rw [hy6]; exact hat), ho, AllPX.of _ (onV_grow HSS.out (by rw [hy6]; exact hgr) hLp (by decide) _ (by decide))⟩
    refine RelyStepsX.cons (RelyStepX.mk [] [0, 1, 2, 3, 4, 5, 6, 7, 8, 11, 12] rfl rfl rfl (fun xv Lv wS hS hL hLd hV bq hb K hK => ?_)) ?_
    · clear hV
      simp only [putsOf, List.foldl_cons, List.foldl_nil, List.getD_cons_zero, List.getD_cons_succ, List.getD_nil, cond_true, cond_false, Act.put, List.setIfInBounds_toArray, List.set_cons_zero, List.set_cons_succ] at hb
      subst hb
      rw [if_pos (by rfl)]
      (have q1 := HY.out.below hS.bel HY.out.lt; have c0 := (q1.cell 0).trans (show _ = some (Value.int .i64 (y).th) from rfl); have c1 := (q1.cell 1).trans (show _ = some (Value.int .i64 (y).kd) from rfl); have c2 := (q1.cell 2).trans (show _ = some (Value.int .i64 (y).rg) from rfl); have c3 := (q1.cell 3).trans (show _ = some (Value.int .u64 ((y).tk : Int)) from rfl); have c4 := (q1.cell 4).trans (show _ = some (Value.int .u64 ((y).vl : Int)) from rfl); have cl := q1.lt; clear q1)
      go_wp2_with fail
      exact hK.out _ _ ⟨_, rfl, OneS.pure (i := 9) rfl hS, rfl, AllPX.same _⟩
    refine RelyStepsX.cons (RelyStepX.mk [9] [0, 1, 2, 3, 4, 5, 6, 7, 8, 12] rfl rfl rfl (fun xv Lv wS hS hL hLd hV bq hb K hK => ?_)) ?_
    · obtain ⟨h9, _⟩ := hV
      have h9 : xv 9 = _ := h9
      simp only [putsOf, List.foldl_cons, List.foldl_nil, List.getD_cons_zero, List.getD_cons_succ, List.getD_nil, cond_true, cond_false, Act.put, List.setIfInBounds_toArray, List.set_cons_zero, List.set_cons_succ, h9] at hb
      clear h9
      subst hb
      rw [if_pos (by rfl)]
      have HSS := Lib.hid hS
      clear hS
      go_wp2_with fail
      exact hK.out _ _ ⟨_, rfl, OneS.fresh rfl HSS.out, ⟨_, rfl, Lies.made _ _ _⟩, AllPX.of _ (fun j hj hL h => onV_kept (Kept.alloc noRow wS _) (fun _ _ h => h) h)⟩
    refine RelyStepsX.cons (RelyStepX.mk [8, 10] [0, 1, 3, 5] rfl rfl rfl (fun xv Lv wS hS hL hLd hV bq hb K hK => ?_)) ?_
    · obtain ⟨h8, h10, _⟩ := hV
      simp only [putsOf, List.foldl_cons, List.foldl_nil, List.getD_cons_zero, List.getD_cons_succ, List.getD_nil, cond_true, cond_false, Act.put, List.setIfInBounds_toArray, List.set_cons_zero, List.set_cons_succ] at hb
      generalize hy8 : xv 8 = y8 at *
      generalize hy10 : xv 10 = y10 at *
      subst hb
      rw [if_pos (by rfl)]
      have HSS := Lib.hid hS
      obtain ⟨g10, e10, hl10⟩ := h10
      subst e10
      clear hS
      refine step_list (ops := #[]) (by rfl) (append_argS_at wS 5 rfl (.tmp 29) (.tmp 31) 36 rfl wn.heap.size 24 _ 40 Tryd.underlying36 Tryd.infoEv rfl (by decide) y8 z.length (rowsOf evF z) rfl h8 (some ⟨g10, 0, none⟩) 1 1 rfl (evC y).toList (seq_litS (n := 1) (sz := 5) hl10 rfl (by omega)) (evF_one y) (by unfold maxLen; omega) (by omega) HSS.out.le ?_)
      intro v' w' ho hb hgr hat
      have hrw : rowsOf evF z ++ (evC y).toList = rowsOf evF (z ++ [y]) := by rw [rowsOf_append, rowsOf_one]; rfl
      rw [hrw] at ho
      have hLp := hLd 8 (by decide +kernel)
      exact hK.out _ _ ⟨_, rfl, HSS.out.grow (p := 8) hb hLp rfl (by decide) (by rw [hy8]; exact hat), ho, AllPX.of _ (onV_grow HSS.out (by rw [hy8]; exact hgr) hLp (by decide) _ (by decide))⟩
    refine RelyStepsX.cons (RelyStepX.mk [5] [11] rfl rfl rfl (fun xv Lv wS hS hL hLd hV bq hb K hK => ?_)) ?_
    · obtain ⟨h5, _⟩ := hV
      simp only [putsOf, List.foldl_cons, List.foldl_nil, List.getD_cons_zero, List.getD_cons_succ, List.getD_nil, cond_true, cond_false, Act.put, List.setIfInBounds_toArray, List.set_cons_zero, List.set_cons_succ] at hb
      generalize hy5 : xv 5 = y5 at *
      subst hb
      rw [if_pos (by rfl)]
      have HSS := Lib.hid hS
      have HP := Lib.hid h5
      clear hS h5
      go_wp2_with fail
      exact hK.out _ _ ⟨_, rfl, HSS.out.grow (p := 5) (Below.refl _ _) (hLd 5 (by decide +kernel)) rfl (by decide) (.inl (by rw [hy5])), HP.out, AllPX.same _⟩
    refine RelyStepsX.cons (RelyStepX.mk [11] [12] rfl rfl rfl (fun xv Lv wS hS hL hLd hV bq hb K hK => ?_)) ?_
    · obtain ⟨h11, _⟩ := hV
      simp only [putsOf, List.foldl_cons, List.foldl_nil, List.getD_cons_zero, List.getD_cons_succ, List.getD_nil, cond_true, cond_false, Act.put, List.setIfInBounds_toArray, List.set_cons_zero, List.set_cons_succ] at hb
      generalize hy11 : xv 11 = y11 at *
      subst hb
      rw [if_pos (by rfl)]
      have HSS := Lib.hid hS
      have HP := Lib.hid h11
      clear hS h11
      go_wp2_with fail
      exact hK.out _ _ ⟨_, rfl, HSS.out.grow (p := 11) (Below.refl _ _) (hLd 11 (by decide +kernel)) rfl (by decide) (.inl (by rw [hy11])), HP.out, AllPX.same _⟩
    exact RelyStepsX.nil
  case rE =>
    intro xv Lv wE hS hLall hV
    have h12 := hV 12 (by decide) (by decide)
    have h13 := hV 13 (by decide) (by decide)
    clear hV
    simp only [putsOf, List.foldl_cons, List.foldl_nil, List.getD_cons_zero, List.getD_cons_succ, List.getD_nil, cond_true, cond_false, Act.put, List.setIfInBounds_toArray, List.set_cons_zero, List.set_cons_succ]
    generalize xv 0 = y0 at *
    generalize xv 1 = y1 at *
    generalize xv 2 = y2 at *
    generalize xv 3 = y3 at *
    generalize xv 4 = y4 at *
    generalize xv 5 = y5 at *
    generalize xv 6 = y6 at *
    generalize xv 7 = y7 at *
    generalize xv 8 = y8 at *
    generalize xv 9 = y9 at *
    generalize xv 10 = y10 at *
    generalize xv 11 = y11 at *
    generalize xv 12 = y12 at *
    generalize xv 13 = y13 at *
    have hb3 := hS.bel
    have HRX := Lib.hid (SeqS.of_owns h12)
    have HRY := Lib.hid (SeqS.of_owns h13)
    obtain ⟨Ax, cx, rfl⟩ := own_sliceD h12
    obtain ⟨Ay, cy, rfl⟩ := own_sliceD h13
    have HB3 := Lib.hid (HB.out.trans (hb3.mono HB.out.size))
    have HX3 := Lib.hid (HX.out.below hb3 HX.out.lt)
    have HY3 := Lib.hid (HY.out.below hb3 HY.out.lt)
    clear hS h12 h13 hb3 HB HX HY hLall
    have hla : (z ++ [x]).length = z.length + 1 := by simp
    have hlb : (z ++ [y]).length = z.length + 1 := by simp
    obtain ⟨D, hD⟩ : ∃ D, decide (x = y) = D := ⟨_, rfl⟩
    have HS1 : Hid (∀ w, SeqS w 5 (.slice Ax (z.length + 1) cx) (z.length + 1) (rowsOf evF (z ++ [x])) → SeqS w 5 (.slice Ay (z.length + 1) cy) (z.length + 1) (rowsOf evF (z ++ [y])) → Calls Tryd.prog 26 #[.slice Ax (z.length + 1) cx, .slice Ay (z.length + 1) cy] w fun e w' => e = .returned (.bool D) ∧ Below w.heap.size w w') := fun w h k => by
      have := same15 (z ++ [x]) (z ++ [y]) Ax cx Ay cy w (by unfold EvsAt; rw [hla]; exact h) (by unfold EvsAt; rw [hlb]; exact k)
      rw [hla, hlb, one_same, hD] at this
      exact this
    have HS2 : Hid (∀ w, SeqS w 5 (.slice Ax (z.length + 1) cx) (z.length + 1) (rowsOf evF (z ++ [x])) → EvsAt w a cap z → Calls Tryd.prog 26 #[.slice Ax (z.length + 1) cx, .slice a z.length cap] w fun e w' => e = .returned (.bool false) ∧ Below w.heap.size w w') := fun w h k => by
      have := same15 (z ++ [x]) z Ax cx a cap w (by unfold EvsAt; rw [hla]; exact h) k
      rw [hla, one_less] at this
      exact this
    have HS3 := Lib.hid (fun w h k => same15 z z a cap a cap w h k)
    rw [decide_eq_true (rfl : z = z)] at HS3
    have HEQ := Lib.hid (fun w => evEql x y w)
    rw [hD] at HEQ
    have HDD := Lib.hid hD
    clear hla hlb hD
    go_wp2_with fail
    refine wp_region_rely (fun q => Below wE.heap.size wE q) (fun j v q => o4V z x y (.slice Ax (z.length + 1) cx) (.slice Ay (z.length + 1) cy) (.slice a z.length cap) D j v) [some 33, some 34, some 35, some 36, some 37, some 38, some 39, some 40, some 41, some 42, some 43, some 44, some 45, some 46, some 47, some 48, some 49, some 50] [[], [], [0, 1], [], [], [3, 4], [2, 5], [6], [7], [7], [8, 9, 7], [7, 10], [11], [12], [12], [13, 14, 12], [15, 12], [12, 16]] [[], [], [0, 1], [], [], [3, 4], [0, 1, 2, 3, 4, 5], [0, 1, 2, 5, 6], [6], [6], [6, 8, 9], [6, 8, 9, 10], [8, 9, 10, 11], [11], [11], [11, 13, 14], [11, 13, 14, 15], [11, 15, 16]] [[1, 3, 4, 5, 6, 7, 8, 9, 10, 11, 12, 13, 14, 15, 16, 17], [0, 3, 4, 5, 6, 7, 8, 9, 10, 11, 12, 13, 14, 15, 16, 17], [3, 4, 5, 8, 9, 10, 11, 12, 13, 14, 15, 16, 17], [0, 1, 2, 4, 6, 7, 8, 9, 10, 11, 12, 13, 14, 15, 16, 17], [0, 1, 2, 3, 6, 7, 8, 9, 10, 11, 12, 13, 14, 15, 16, 17], [0, 1, 2, 7, 8, 9, 10, 11, 12, 13, 14, 15, 16, 17], [8, 9, 10, 11, 12, 13, 14, 15, 16, 17], [12, 13, 14, 15, 16, 17], [3, 4, 7, 9, 11, 12, 13, 14, 15, 16, 17], [3, 4, 7, 8, 11, 12, 13, 14, 15, 16, 17], [3, 4, 7, 13, 14, 15, 16, 17], [3, 4, 7, 13, 14, 15, 16, 17], [0, 1, 2, 3, 4, 5, 7], [0, 1, 2, 3, 4, 5, 6, 7, 12, 14, 16, 17], [0, 1, 2, 3, 4, 5, 6, 7, 12, 13, 16, 17], [0, 1, 2, 3, 4, 5, 6, 7, 12, 17], [0, 1, 2, 3, 4, 5, 6, 7, 12], [0, 1, 2, 3, 4, 5, 6, 7, 12]] [0, 1, 2, 3, 4, 5, 6, 7, 8, 9, 10, 11, 12, 13, 14, 15, 16, 17] 18 (by kernel_rfl) (by kernel_rfl) (by kernel_rfl) (by kernel_rfl) ?rS (fun j h1 h2 => absurd (Nat.lt_of_lt_of_le h1 (Nat.le_trans (by decide) h2)) (Nat.lt_irrefl _)) ?rT ?rE
    case rS => exact below_drewN (Below.refl wE.heap.size wE) 1
    case rT =>
      refine RelySteps.cons (RelyStep.mk [] [1, 3, 4, 5, 6, 7, 8, 9, 10, 11, 12, 13, 14, 15, 16, 17] rfl rfl rfl (fun xv wS hS hV bq hb K hK => ?_)) ?_
      · clear hV
        simp only [putsOf, List.foldl_cons, List.foldl_nil, List.getD_cons_zero, List.getD_cons_succ, List.getD_nil, cond_true, cond_false, Act.put, List.setIfInBounds_toArray, List.set_cons_zero, List.set_cons_succ] at hb
        subst hb
        rw [if_pos (by rfl)]
        go_wp2_with fail
        exact hK.out _ _ ⟨_, rfl, hS, rfl, AllP.same _⟩
      refine RelySteps.cons (RelyStep.mk [] [0, 3, 4, 5, 6, 7, 8, 9, 10, 11, 12, 13, 14, 15, 16, 17] rfl rfl rfl (fun xv wS hS hV bq hb K hK => ?_)) ?_
      · clear hV
        simp only [putsOf, List.foldl_cons, List.foldl_nil, List.getD_cons_zero, List.getD_cons_succ, List.getD_nil, cond_true, cond_false, Act.put, List.setIfInBounds_toArray, List.set_cons_zero, List.set_cons_succ] at hb
        subst hb
        rw [if_pos (by rfl)]
        go_wp2_with fail
        exact hK.out _ _ ⟨_, rfl, hS, rfl, AllP.same _⟩
      refine RelySteps.cons (RelyStep.mk [0, 1] [3, 4, 5, 8, 9, 10, 11, 12, 13, 14, 15, 16, 17] rfl rfl rfl (fun xv wS hS hV bq hb K hK => ?_)) ?_
      · obtain ⟨h0, h1, _⟩ := hV
        have h0 : xv 0 = _ := h0
        have h1 : xv 1 = _ := h1
        simp only [putsOf, List.foldl_cons, List.foldl_nil, List.getD_cons_zero, List.getD_cons_succ, List.getD_nil, cond_true, cond_false, Act.put, List.setIfInBounds_toArray, List.set_cons_zero, List.set_cons_succ, h0, h1] at hb
        clear h0
        clear h1
        subst hb
        rw [if_pos (by rfl)]
        have HSS := Lib.hid hS
        clear hS
        go_wp2_with fail
        refine (HS1.out _ (HRX.out.later HSS.out) (HRY.out.later HSS.out)).mono ?_
        rintro e w' ⟨rfl, hb⟩
        exact hK.out _ _ ⟨_, rfl, HSS.out.trans (hb.mono HSS.out.size), rfl, AllP.of _ (fun j _ u h => h)⟩
      refine RelySteps.cons (RelyStep.mk [] [0, 1, 2, 4, 6, 7, 8, 9, 10, 11, 12, 13, 14, 15, 16, 17] rfl rfl rfl (fun xv wS hS hV bq hb K hK => ?_)) ?_
      · clear hV
        simp only [putsOf, List.foldl_cons, List.foldl_nil, List.getD_cons_zero, List.getD_cons_succ, List.getD_nil, cond_true, cond_false, Act.put, List.setIfInBounds_toArray, List.set_cons_zero, List.set_cons_succ] at hb
        subst hb
        rw [if_pos (by rfl)]
        (have q1 := HX3.out.below hS HX3.out.lt; have c0 := (q1.cell 0).trans (show _ = some (Value.int .i64 (x).th) from rfl); have c1 := (q1.cell 1).trans (show _ = some (Value.int .i64 (x).kd) from rfl); have c2 := (q1.cell 2).trans (show _ = some (Value.int .i64 (x).rg) from rfl); have c3 := (q1.cell 3).trans (show _ = some (Value.int .u64 ((x).tk : Int)) from rfl); have c4 := (q1.cell 4).trans (show _ = some (Value.int .u64 ((x).vl : Int)) from rfl); have cl := q1.lt; clear q1)
        go_wp2_with fail
        exact hK.out _ _ ⟨_, rfl, hS, rfl, AllP.same _⟩
      refine RelySteps.cons (RelyStep.mk [] [0, 1, 2, 3, 6, 7, 8, 9, 10, 11, 12, 13, 14, 15, 16, 17] rfl rfl rfl (fun xv wS hS hV bq hb K hK => ?_)) ?_
      · clear hV
        simp only [putsOf, List.foldl_cons, List.foldl_nil, List.getD_cons_zero, List.getD_cons_succ, List.getD_nil, cond_true, cond_false, Act.put, List.setIfInBounds_toArray, List.set_cons_zero, List.set_cons_succ] at hb
        subst hb
        rw [if_pos (by rfl)]
        (have q1 := HY3.out.below hS HY3.out.lt; have c0 := (q1.cell 0).trans (show _ = some (Value.int .i64 (y).th) from rfl); have c1 := (q1.cell 1).trans (show _ = some (Value.int .i64 (y).kd) from rfl); have c2 := (q1.cell 2).trans (show _ = some (Value.int .i64 (y).rg) from rfl); have c3 := (q1.cell 3).trans (show _ = some (Value.int .u64 ((y).tk : Int)) from rfl); have c4 := (q1.cell 4).trans (show _ = some (Value.int .u64 ((y).vl : Int)) from rfl); have cl := q1.lt; clear q1)
        go_wp2_with fail
        exact hK.out _ _ ⟨_, rfl, hS, rfl, AllP.same _⟩
      refine RelySteps.cons (RelyStep.mk [3, 4] [0, 1, 2, 7, 8, 9, 10, 11, 12, 13, 14, 15, 16, 17] rfl rfl rfl (fun xv wS hS hV bq hb K hK => ?_)) ?_
      · obtain ⟨h3, h4, _⟩ := hV
        have h3 : xv 3 = _ := h3
        have h4 : xv 4 = _ := h4
        simp only [putsOf, List.foldl_cons, List.foldl_nil, List.getD_cons_zero, List.getD_cons_succ, List.getD_nil, cond_true, cond_false, Act.put, List.setIfInBounds_toArray, List.set_cons_zero, List.set_cons_succ, h3, h4] at hb
        clear h3
        clear h4
        subst hb
        rw [if_pos (by rfl)]
        (have q1 := HEQ.out; have q2 := evGuard)
        go_wp2_with fail
        exact hK.out _ _ ⟨_, rfl, hS, rfl, AllP.same _⟩
      refine RelySteps.cons (RelyStep.mk [2, 5] [8, 9, 10, 11, 12, 13, 14, 15, 16, 17] rfl rfl rfl (fun xv wS hS hV bq hb K hK => ?_)) ?_
      · obtain ⟨h2, h5, _⟩ := hV
        have h2 : xv 2 = _ := h2
        have h5 : xv 5 = _ := h5
        simp only [putsOf, List.foldl_cons, List.foldl_nil, List.getD_cons_zero, List.getD_cons_succ, List.getD_nil, cond_true, cond_false, Act.put, List.setIfInBounds_toArray, List.set_cons_zero, List.set_cons_succ, h2, h5] at hb
        clear h2
        clear h5
        subst hb
        rw [if_pos (by rfl)]
        have HSS := Lib.hid hS
        clear hS
        cases D
        all_goals
          go_wp2_with fail
          exact hK.out _ _ ⟨_, rfl, HSS.out, rfl, AllP.same _⟩
      refine RelySteps.cons (RelyStep.mk [6] [12, 13, 14, 15, 16, 17] rfl rfl rfl (fun xv wS hS hV bq hb K hK => ?_)) ?_
      · obtain ⟨h6, _⟩ := hV
        have h6 : xv 6 = _ := h6
        simp only [putsOf, List.foldl_cons, List.foldl_nil, List.getD_cons_zero, List.getD_cons_succ, List.getD_nil, cond_true, cond_false, Act.put, List.setIfInBounds_toArray, List.set_cons_zero, List.set_cons_succ, h6] at hb
        clear h6
        subst hb
        rw [if_pos (by rfl)]
        go_wp2_with fail
        exact hK.out _ _ ⟨_, rfl, hS, rfl, AllP.same _⟩
      refine RelySteps.cons (RelyStep.mk [7] [3, 4, 7, 9, 11, 12, 13, 14, 15, 16, 17] rfl rfl rfl (fun xv wS hS hV bq hb K hK => ?_)) ?_
      · obtain ⟨h7, _⟩ := hV
        have h7 : xv 7 = _ := h7
        simp only [putsOf, List.foldl_cons, List.foldl_nil, List.getD_cons_zero, List.getD_cons_succ, List.getD_nil, cond_true, cond_false, Act.put, List.setIfInBounds_toArray, List.set_cons_zero, List.set_cons_succ, h7] at hb
        clear h7
        subst hb
        rw [if_pos (by rfl)]
        go_wp2_with fail
        exact hK.out _ _ ⟨_, rfl, hS, rfl, AllP.same _⟩
      refine RelySteps.cons (RelyStep.mk [7] [3, 4, 7, 8, 11, 12, 13, 14, 15, 16, 17] rfl rfl rfl (fun xv wS hS hV bq hb K hK => ?_)) ?_
      · obtain ⟨h7, _⟩ := hV
        have h7 : xv 7 = _ := h7
        simp only [putsOf, List.foldl_cons, List.foldl_nil, List.getD_cons_zero, List.getD_cons_succ, List.getD_nil, cond_true, cond_false, Act.put, List.setIfInBounds_toArray, List.set_cons_zero, List.set_cons_succ, h7] at hb
        clear h7
        subst hb
        rw [if_pos (by rfl)]
        go_wp2_with fail
        exact hK.out _ _ ⟨_, rfl, hS, rfl, AllP.same _⟩
      refine RelySteps.cons (RelyStep.mk [8, 9, 7] [3, 4, 7, 13, 14, 15, 16, 17] rfl rfl rfl (fun xv wS hS hV bq hb K hK => ?_)) ?_
      · obtain ⟨h8, h9, h7, _⟩ := hV
        have h8 : xv 8 = _ := h8
        have h9 : xv 9 = _ := h9
        have h7 : xv 7 = _ := h7
        simp only [putsOf, List.foldl_cons, List.foldl_nil, List.getD_cons_zero, List.getD_cons_succ, List.getD_nil, cond_true, cond_false, Act.put, List.setIfInBounds_toArray, List.set_cons_zero, List.set_cons_succ, h8, h9, h7] at hb
        clear h8
        clear h9
        clear h7
        subst hb
        rw [if_pos (by rfl)]
        have HSS := Lib.hid hS
        clear hS
        go_wp2_with fail
        refine (HS2.out _ (HRX.out.later HSS.out) (HZ.out _ (HB3.out.trans (HSS.out.mono HB3.out.size)))).mono ?_
        rintro e w' ⟨rfl, hb⟩
        exact hK.out _ _ ⟨_, rfl, HSS.out.trans (hb.mono HSS.out.size), rfl, AllP.of _ (fun j _ u h => h)⟩
      refine RelySteps.cons (RelyStep.mk [7, 10] [3, 4, 7, 13, 14, 15, 16, 17] rfl rfl rfl (fun xv wS hS hV bq hb K hK => ?_)) ?_
      · obtain ⟨h7, h10, _⟩ := hV
        have h7 : xv 7 = _ := h7
        have h10 : xv 10 = _ := h10
        simp only [putsOf, List.foldl_cons, List.foldl_nil, List.getD_cons_zero, List.getD_cons_succ, List.getD_nil, cond_true, cond_false, Act.put, List.setIfInBounds_toArray, List.set_cons_zero, List.set_cons_succ, h7, h10] at hb
        clear h7
        clear h10
        subst hb
        rw [if_pos (by rfl)]
        go_wp2_with fail
        exact hK.out _ _ ⟨_, rfl, hS, rfl, AllP.same _⟩
      refine RelySteps.cons (RelyStep.mk [11] [0, 1, 2, 3, 4, 5, 7] rfl rfl rfl (fun xv wS hS hV bq hb K hK => ?_)) ?_
      · obtain ⟨h11, _⟩ := hV
        have h11 : xv 11 = _ := h11
        simp only [putsOf, List.foldl_cons, List.foldl_nil, List.getD_cons_zero, List.getD_cons_succ, List.getD_nil, cond_true, cond_false, Act.put, List.setIfInBounds_toArray, List.set_cons_zero, List.set_cons_succ, h11] at hb
        clear h11
        subst hb
        rw [if_pos (by rfl)]
        go_wp2_with fail
        exact hK.out _ _ ⟨_, rfl, hS, rfl, AllP.same _⟩
      refine RelySteps.cons (RelyStep.mk [12] [0, 1, 2, 3, 4, 5, 6, 7, 12, 14, 16, 17] rfl rfl rfl (fun xv wS hS hV bq hb K hK => ?_)) ?_
      · obtain ⟨h12, _⟩ := hV
        have h12 : xv 12 = _ := h12
        simp only [putsOf, List.foldl_cons, List.foldl_nil, List.getD_cons_zero, List.getD_cons_succ, List.getD_nil, cond_true, cond_false, Act.put, List.setIfInBounds_toArray, List.set_cons_zero, List.set_cons_succ, h12] at hb
        clear h12
        subst hb
        rw [if_pos (by rfl)]
        go_wp2_with fail
        exact hK.out _ _ ⟨_, rfl, hS, rfl, AllP.same _⟩
      refine RelySteps.cons (RelyStep.mk [12] [0, 1, 2, 3, 4, 5, 6, 7, 12, 13, 16, 17] rfl rfl rfl (fun xv wS hS hV bq hb K hK => ?_)) ?_
      · obtain ⟨h12, _⟩ := hV
        have h12 : xv 12 = _ := h12
        simp only [putsOf, List.foldl_cons, List.foldl_nil, List.getD_cons_zero, List.getD_cons_succ, List.getD_nil, cond_true, cond_false, Act.put, List.setIfInBounds_toArray, List.set_cons_zero, List.set_cons_succ, h12] at hb
        clear h12
        subst hb
        rw [if_pos (by rfl)]
        go_wp2_with fail
        exact hK.out _ _ ⟨_, rfl, hS, rfl, AllP.same _⟩
      refine RelySteps.cons (RelyStep.mk [13, 14, 12] [0, 1, 2, 3, 4, 5, 6, 7, 12, 17] rfl rfl rfl (fun xv wS hS hV bq hb K hK => ?_)) ?_
      · obtain ⟨h13, h14, h12, _⟩ := hV
        have h13 : xv 13 = _ := h13
        have h14 : xv 14 = _ := h14
        have h12 : xv 12 = _ := h12
        simp only [putsOf, List.foldl_cons, List.foldl_nil, List.getD_cons_zero, List.getD_cons_succ, List.getD_nil, cond_true, cond_false, Act.put, List.setIfInBounds_toArray, List.set_cons_zero, List.set_cons_succ, h13, h14, h12] at hb
        clear h13
        clear h14
        clear h12
        subst hb
        rw [if_pos (by rfl)]
        have HSS := Lib.hid hS
        clear hS
        go_wp2_with fail
        refine (HS3.out _ (HZ.out _ (HB3.out.trans (HSS.out.mono HB3.out.size))) (HZ.out _ (HB3.out.trans (HSS.out.mono HB3.out.size)))).mono ?_
        rintro e w' ⟨rfl, hb⟩
        exact hK.out _ _ ⟨_, rfl, HSS.out.trans (hb.mono HSS.out.size), rfl, AllP.of _ (fun j _ u h => h)⟩
      refine RelySteps.cons (RelyStep.mk [15, 12] [0, 1, 2, 3, 4, 5, 6, 7, 12] rfl rfl rfl (fun xv wS hS hV bq hb K hK => ?_)) ?_
      · obtain ⟨h15, h12, _⟩ := hV
        have h15 : xv 15 = _ := h15
        have h12 : xv 12 = _ := h12
        simp only [putsOf, List.foldl_cons, List.foldl_nil, List.getD_cons_zero, List.getD_cons_succ, List.getD_nil, cond_true, cond_false, Act.put, List.setIfInBounds_toArray, List.set_cons_zero, List.set_cons_succ, h15, h12] at hb
        clear h15
        clear h12
        subst hb
        rw [if_pos (by rfl)]
        go_wp2_with fail
        exact hK.out _ _ ⟨_, rfl, hS, rfl, AllP.same _⟩
      refine RelySteps.cons (RelyStep.mk [12, 16] [0, 1, 2, 3, 4, 5, 6, 7, 12] rfl rfl rfl (fun xv wS hS hV bq hb K hK => ?_)) ?_
      · obtain ⟨h12, h16, _⟩ := hV
        have h12 : xv 12 = _ := h12
        have h16 : xv 16 = _ := h16
        simp only [putsOf, List.foldl_cons, List.foldl_nil, List.getD_cons_zero, List.getD_cons_succ, List.getD_nil, cond_true, cond_false, Act.put, List.setIfInBounds_toArray, List.set_cons_zero, List.set_cons_succ, h12, h16] at hb
        clear h12
        clear h16
        subst hb
        rw [if_pos (by rfl)]
        go_wp2_with fail
        exact hK.out _ _ ⟨_, rfl, hS, rfl, AllP.same _⟩
      exact RelySteps.nil
    case rE =>
      intro xv wE hS hV
      have h7 := hV 7 (by decide) (by decide)
      have h12 := hV 12 (by decide) (by decide)
      have h17 := hV 17 (by decide) (by decide)
      clear hV
      simp only [putsOf, List.foldl_cons, List.foldl_nil, List.getD_cons_zero, List.getD_cons_succ, List.getD_nil, cond_true, cond_false, Act.put, List.setIfInBounds_toArray, List.set_cons_zero, List.set_cons_succ]
      have h7 : xv 7 = _ := h7
      have h12 : xv 12 = _ := h12
      have h17 : xv 17 = _ := h17
      rw [h7]; clear h7
      rw [h12]; clear h12
      rw [h17]; clear h17
      generalize xv 0 = y0 at *
      generalize xv 1 = y1 at *
      generalize xv 2 = y2 at *
      generalize xv 3 = y3 at *
      generalize xv 4 = y4 at *
      generalize xv 5 = y5 at *
      generalize xv 6 = y6 at *
      generalize xv 8 = y8 at *
      generalize xv 9 = y9 at *
      generalize xv 10 = y10 at *
      generalize xv 11 = y11 at *
      generalize xv 13 = y13 at *
      generalize xv 14 = y14 at *
      generalize xv 15 = y15 at *
      generalize xv 16 = y16 at *
      have HB4 := Lib.hid (HB3.out.trans (hS.mono HB3.out.size))
      have HX4 := Lib.hid (HX3.out.below hS HX3.out.lt)
      have HY4 := Lib.hid (HY3.out.below hS HY3.out.lt)
      clear hS HB3 HX3 HY3 HRX HRY HS1 HS2 HS3 HZ
      have HLX := Lib.hid (fun w h => line15 x w h HOX.out)
      have HLY := Lib.hid (fun w h => line15 y w h HOY.out)
      have HSX : Hid (lnS x = if rightE x = true then textB (lineE x) else ⟨#[]⟩) := rfl
      have HMX : Hid (lnN x = if rightE x = true then 0 else 3) := rfl
      have HSY : Hid (lnS y = if rightE y = true then textB (lineE y) else ⟨#[]⟩) := rfl
      have HMY : Hid (lnN y = if rightE y = true then 0 else 3) := rfl
      have HSM := Lib.hid (fun h1 h2 => line_same (x := x) (y := y) h1 h2 HOX.out.2.2.2.2 HOY.out.2.2.2.2)
      rw [HDD.out] at HSM
      have hgd := evGuard
      generalize rightE x = rx at *
      generalize rightE y = ry at *
      generalize lnS x = sx at *
      generalize lnS y = sy at *
      generalize lnN x = nx at *
      generalize lnN y = ny at *
      have c0 := (HX4.out.cell 0).trans (show _ = some (Value.int .i64 x.th) from rfl)
      have c1 := (HX4.out.cell 1).trans (show _ = some (Value.int .i64 x.kd) from rfl)
      have c2 := (HX4.out.cell 2).trans (show _ = some (Value.int .i64 x.rg) from rfl)
      have c3 := (HX4.out.cell 3).trans (show _ = some (Value.int .u64 (x.tk : Int)) from rfl)
      have c4 := (HX4.out.cell 4).trans (show _ = some (Value.int .u64 (x.vl : Int)) from rfl)
      have cl := HX4.out.lt
      have d0 := (HY4.out.cell 0).trans (show _ = some (Value.int .i64 y.th) from rfl)
      have d1 := (HY4.out.cell 1).trans (show _ = some (Value.int .i64 y.kd) from rfl)
      have d2 := (HY4.out.cell 2).trans (show _ = some (Value.int .i64 y.rg) from rfl)
      have d3 := (HY4.out.cell 3).trans (show _ = some (Value.int .u64 (y.tk : Int)) from rfl)
      have d4 := (HY4.out.cell 4).trans (show _ = some (Value.int .u64 (y.vl : Int)) from rfl)
      have dl := HY4.out.lt
      go_wp2_with fail
      refine (HLX.out _ (HEN.out _ HB4.out)).mono ?_
      rintro e wa ⟨rfl, hbm⟩
      replace HB4 := Lib.hid (HB4.out.trans (hbm.mono HB4.out.size))
      replace HX4 := Lib.hid (HX4.out.below hbm HX4.out.lt)
      replace HY4 := Lib.hid (HY4.out.below hbm HY4.out.lt)
      clear hbm HLX c0 c1 c2 c3 c4 cl d0 d1 d2 d3 d4 dl
      have c0 := (HX4.out.cell 0).trans (show _ = some (Value.int .i64 x.th) from rfl)
      have c1 := (HX4.out.cell 1).trans (show _ = some (Value.int .i64 x.kd) from rfl)
      have c2 := (HX4.out.cell 2).trans (show _ = some (Value.int .i64 x.rg) from rfl)
      have c3 := (HX4.out.cell 3).trans (show _ = some (Value.int .u64 (x.tk : Int)) from rfl)
      have c4 := (HX4.out.cell 4).trans (show _ = some (Value.int .u64 (x.vl : Int)) from rfl)
      have cl := HX4.out.lt
      have d0 := (HY4.out.cell 0).trans (show _ = some (Value.int .i64 y.th) from rfl)
      have d1 := (HY4.out.cell 1).trans (show _ = some (Value.int .i64 y.kd) from rfl)
      have d2 := (HY4.out.cell 2).trans (show _ = some (Value.int .i64 y.rg) from rfl)
      have d3 := (HY4.out.cell 3).trans (show _ = some (Value.int .u64 (y.tk : Int)) from rfl)
      have d4 := (HY4.out.cell 4).trans (show _ = some (Value.int .u64 (y.vl : Int)) from rfl)
      have dl := HY4.out.lt
      go_wp2_with fail
      refine (HLY.out _ (HEN.out _ HB4.out)).mono ?_
      rintro e wb ⟨rfl, hbm⟩
      replace HB4 := Lib.hid (HB4.out.trans (hbm.mono HB4.out.size))
      replace HX4 := Lib.hid (HX4.out.below hbm HX4.out.lt)
      replace HY4 := Lib.hid (HY4.out.below hbm HY4.out.lt)
      clear hbm HLY c0 c1 c2 c3 c4 cl d0 d1 d2 d3 d4 dl
      have c0 := (HX4.out.cell 0).trans (show _ = some (Value.int .i64 x.th) from rfl)
      have c1 := (HX4.out.cell 1).trans (show _ = some (Value.int .i64 x.kd) from rfl)
      have c2 := (HX4.out.cell 2).trans (show _ = some (Value.int .i64 x.rg) from rfl)
      have c3 := (HX4.out.cell 3).trans (show _ = some (Value.int .u64 (x.tk : Int)) from rfl)
      have c4 := (HX4.out.cell 4).trans (show _ = some (Value.int .u64 (x.vl : Int)) from rfl)
      have cl := HX4.out.lt
      have d0 := (HY4.out.cell 0).trans (show _ = some (Value.int .i64 y.th) from rfl)
      have d1 := (HY4.out.cell 1).trans (show _ = some (Value.int .i64 y.kd) from rfl)
      have d2 := (HY4.out.cell 2).trans (show _ = some (Value.int .i64 y.rg) from rfl)
      have d3 := (HY4.out.cell 3).trans (show _ = some (Value.int .u64 (y.tk : Int)) from rfl)
      have d4 := (HY4.out.cell 4).trans (show _ = some (Value.int .u64 (y.vl : Int)) from rfl)
      have dl := HY4.out.lt
      have heq := HEQ.out
      cases rx with
      | false =>
        rw [if_neg (by decide)] at HSX HMX
        rw [HMX.out]
        clear HSM
        go_wp2
        go_ret
        exact ⟨rfl, HB4.out⟩
      | true =>
        rw [if_pos rfl] at HSX HMX
        rw [HMX.out]
        cases ry with
        | false =>
          rw [if_neg (by decide)] at HSY HMY
          rw [HMY.out]
          clear HSM
          go_wp2
          go_ret
          exact ⟨rfl, HB4.out⟩
        | true =>
          rw [if_pos rfl] at HSY HMY
          rw [HMY.out]
          have hsm := HSM.out rfl rfl
          rw [← HSX.out, ← HSY.out] at hsm
          clear HSM HSX HSY HMX HMY
          cases D
          all_goals
            go_wp2
            go_ret
            exact ⟨rfl, HB4.out⟩
end Go.Proofs.YtndcnflboikodaaDoor
