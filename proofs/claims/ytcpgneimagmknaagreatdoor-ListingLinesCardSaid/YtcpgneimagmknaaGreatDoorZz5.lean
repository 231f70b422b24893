import Derived.Test.YtcpgneimagmknaaGreatDoorZz4
namespace Go.Proofs.YtcpgneimagmknaaGreatDoor
open Go.RowKit
set_option linter.unusedVariables false
set_option linter.unusedSimpArgs false
theorem infoThA : (Tryz.prog.info? 47).map (fun i => (i.zero, i.size, i.bytes)) = some (some (.slice none 0 0), 1, 24) := by kernel_rfl
theorem infoInA : (Tryz.prog.info? 28).map (fun i => (i.zero, i.size, i.bytes)) = some (some (.agg #[.int .i64 0, .int .i64 0, .int .i64 0, .int .i64 0, .int .i64 0, .int .u64 0]), 6, 48) := by kernel_rfl
theorem infoRiA : (Tryz.prog.info? 51).map (fun i => (i.zero, i.size, i.bytes)) = some (some (.agg #[.int .i64 0, .int .i64 0, .int .i64 0]), 3, 24) := by kernel_rfl
def AdPost (B g : Nat) (w : World) (y : Pg × Bool) (e : Ending) (w' : World) : Prop := ∃ vr vt vs BL, e = .returned (.bool y.2) ∧ BdAt B w' g vr vt vs BL y.1 ∧ Below B w w'
theorem ad_isring {p : Pg} {w0 : List UInt8} {rs : List (List UInt8)} (h : w0 = quW ∨ w0 = caW) : adS p w0 rs = (⟨p.rs ++ [(rrR w0 rs).1], p.ts⟩, (rrR w0 rs).2 && (decide (p.ts.length = 0) && decide (p.rs.length + 1 ≤ 8))) := if_pos h
theorem ad_isthread {p : Pg} {rs : List (List UInt8)} : adS p thW rs = (⟨p.rs, p.ts ++ [[]]⟩, decide (rs.length = 0) && decide (p.ts.length + 1 ≤ 8)) := by
 unfold adS
 rw [if_neg (by decide), if_pos rfl]
theorem ad_isinstr {p : Pg} {w0 : List UInt8} {rs : List (List UInt8)} (h : ¬ (w0 = quW ∨ w0 = caW)) (h2 : w0 ≠ thW) : adS p w0 rs = if (rlR (w0 :: rs)).2 = true ∧ 0 < p.ts.length then (⟨p.rs, putI p.ts (rlR (w0 :: rs)).1⟩, decide ((p.ts.getLast?.getD []).length + 1 ≤ 256)) else (p, false) := by
 unfold adS
 rw [if_neg h, if_neg h2]
theorem seq_lies {w : World} {g sz : Nat} {T : TypeId} {cs : List Value} (h : Lies w g T cs.toArray) (hl : cs.length = sz) (hz : 0 < sz) : SeqS w sz (.slice (some ⟨g, 0, none⟩) 1 1) 1 cs :=
 ⟨by rw [hl, Nat.one_mul], _, _, rfl, Nat.le_refl _, by unfold maxLen; omega, (fun h => by cases h), fun k u hu => ⟨g, 0, rfl, by rw [Nat.zero_add, h.cell]; simpa using hu⟩⟩
theorem snoc_of {ts : List (List In)} (h : 0 < ts.length) : ∃ T l, ts = T ++ [l] := by
 rcases List.eq_nil_or_concat ts with rfl | ⟨T, l, rfl⟩
 ·simp at h
 ·exact ⟨T, l, by simp⟩
set_option maxHeartbeats 16000000 in
set_option maxRecDepth 100000 in
theorem add10 (bs : List UInt8) (p : Pg) (B g : Nat) (vr vt : Value) (vs : List Value) (BL : Nat) (m : Int) (w : World) (h : BdAt B w g vr vt vs BL p) (hls : lsB p = true) (hbs : bs.length ≤ 9000000)
  (hm : w.cell? ⟨1, 0, none⟩ = some (.int .i64 m)) (hn : NamesAt w) (hE : ErrAt w) (hp : PowAt w) :
  Calls Tryz.prog 37 #[.pointer (some ⟨g, 0, none⟩), .string (textB bs)] w (AdPost B g w (adL p bs)) := by
 have hB : B ≤ w.heap.size := Nat.le_trans h.le.1 h.le.2
 obtain ⟨r8, t8, _, hts⟩ := ls_iff.1 hls
 have HTS := Lib.hid (fun t ht => (hts t ht).1)
 have HS := Lib.hid (split10 bs m w (by omega) hm)
 have HH := Lib.hid h
 have HN := Lib.hid hn
 have HE := Lib.hid hE
 have HP := Lib.hid hp
 have HG := Lib.hid hn.lt
 clear h hn hE hp hm hts hls
 go_enter Tryz.func37, Tryz.ntmps37
 go_wp2_with fail
 refine HS.out.mono ?_
 rintro e w1 ⟨ws, hw, rfl, hw1⟩
 obtain ⟨w0, rs, rfl⟩ : ∃ a l, ws = a :: l := by
  cases hws : ws with
  | nil => exact absurd hws hw.ne
  | cons a l => exact ⟨a, l, rfl⟩
 have hA := adL_eq (p := p) hw
 have hwn := hw.length
 have HWL := Lib.hid (words_short hw hbs)
 have hl1 := Lies.made w 9 (cellsW (w0 :: rs)).toArray
 rw [← hw1] at hl1
 have hb1 : Below w.heap.size w w1 := by rw [hw1]; exact (Below.refl _ _).alloc (Nat.le_refl _) _
 have HCE : Hid (∀ (k : Nat) (b : List UInt8), (w0 :: rs)[k]? = some b → w1.cell? ⟨w.heap.size, 0 + k, none⟩ = some (.string (textB b))) := by
  intro k b hb
  rw [Nat.zero_add, hl1.cell, List.getElem?_toArray]
  unfold cellsW
  rw [List.getElem?_map, hb]; rfl
 have HB1 := Lib.hid hb1
 have HH1 := Lib.hid (HH.out.later hb1)
 have HN1 := Lib.hid (HN.out.later hb1 HG.out)
 have HE1 := Lib.hid (HE.out.later hb1)
 have HP1 := Lib.hid (HP.out.later hb1)
 have HG1 := Lib.hid HN1.out.lt
 have hBw1 := Nat.le_trans hB hb1.size
 have HBL : Hid (Below B w w1) := hb1.mono hB
 have HA := Lib.hid hA
 rw [List.length_cons] at hwn ⊢
 clear hA hw hb1 hw1 hl1 HS HN HE HP HG
 obtain ⟨wb, hwb⟩ : ∃ k, k = w.heap.size := ⟨_, rfl⟩
 rw [← hwb] at HCE ⊢
 clear hwb
 have d0 := HCE.out 0 w0 rfl
 rw [Nat.add_zero] at d0
 have dl := World.block_lt_of_cell? _ _ d0
 by_cases hq : w0 = quW
 ·subst hq
  rw [show textB quW = (⟨#[113, 117, 101, 117, 101]⟩ : ByteArray) from rfl] at d0
  have HAR : Hid (adL p bs = _) := HA.out.trans (ad_isring (.inl rfl))
  have HRR := Lib.hid (readRing10 quW rs wb 0 (rs.length + 1) w1 (by omega) (fun b hb => HWL.out b (List.mem_cons_of_mem _ hb)) (Nat.le_refl _) (by omega) HCE.out HE1.out HP1.out)
  obtain ⟨Y, hY⟩ : ∃ Y, Y = rrR quW rs := ⟨_, rfl⟩
  rw [← hY] at HRR HAR
  clear hY HA HN1 HE1 HP1 HG1
  obtain ⟨x, ok⟩ := Y
  go_wp2_with fail
  refine HRR.out.mono ?_
  rintro e w2 ⟨rfl, hb2⟩
  clear HRR d0 dl HCE
  go_upto_region 6 with (fail)
  have hbx : Below w2.heap.size w2 (w2.alloc (.cells (riC x) 51)) := (Below.refl _ _).alloc (Nat.le_refl _) _
  have HX := Lib.hid (Lies.made w2 51 (riC x))
  have HH3 := Lib.hid (HH1.out.later (then_ hb2 hbx))
  have HN6 : Hid (¬ vr.ownBlock = some w2.heap.size) := fun e => by have := (own_range (HH1.out.later hb2).rr e).2; omega
  have HBL3 := Lib.hid (HBL.out.trans ((then_ hb2 hbx).mono hBw1))
  have hB3 := HBL3.out.size
  replace hB3 := Nat.le_trans hB hB3
  obtain ⟨b6, hb6⟩ : ∃ k, k = w2.heap.size := ⟨_, rfl⟩
  rw [← hb6] at HX HN6
  simp only [← hb6]
  clear hbx hb2 HH1 HBL HB1 hb6
  generalize w2.alloc (.cells (riC x) 51) = w3 at *
  refine wp_region_relyx (PuS w3 vr g 0 7 10 [0, 1, 2, 3, 4, 5, 6, 7, 9] [6] (fun v q => q.ownsRow B 51 3 v (p.rs.length + 1) (rowsOf riF (p.rs ++ [x])))) (bfV [.eq (.pointer (some ⟨g, 0, none⟩)), .eq (.pointer (some ⟨g, 0, none⟩)), .eq (.pointer (some ⟨g, 0, none⟩)), .eq (.pointer (some ⟨g, 0, none⟩)), .eq vr, .eq (.agg (riC x)), .of (fun v q => ∃ G, v = Value.slice (some ⟨G, 0, none⟩) 1 1 ∧ Lies q G 51 (riC x)) (fun _ _ _ hb ⟨G, e, h1⟩ => ⟨G, e, h1.below hb h1.lt⟩), .any, .eq (.pointer (some ⟨g, 0, none⟩)), .eq (.pointer (some ⟨g, 0, none⟩)), .any]) [some 24, some 25, some 26, some 27, some 28, some 29, some 30, some 31, some 32, some 33, none] [[], [], [1], [2], [3], [], [5], [4, 6], [0], [8], [9, 7]] [[], [], [1], [1, 2], [2, 3], [], [5], [3, 4, 5, 6], [0, 1, 2, 3, 4, 5, 6], [0, 1, 2, 3, 4, 5, 6, 8], [1, 2, 3, 4, 5, 6, 8, 9]] [[1, 2, 3, 4, 5, 6, 7], [0, 3, 4, 5, 6, 7], [0, 4, 5, 6, 7], [0, 5, 6, 7], [0, 5, 6], [0, 1, 2, 3, 4, 7], [0, 1, 2, 3, 4], [0, 1], [7, 10], [7], [7]] [0, 1, 2, 3, 4, 5, 6, 7, 8, 9, 10] 11 (by kernel_rfl) (by kernel_rfl) (by kernel_rfl) (by kernel_rfl) ?rS (fun j h1 h2 => absurd (Nat.lt_of_lt_of_le h1 (Nat.le_trans (by decide) h2)) (Nat.lt_irrefl _)) ?rT ?rE
  case rS => exact pu_start
  case rT =>
   refine RelyStepsX.cons (RelyStepX.mk [] [1, 2, 3, 4, 5, 6, 7] rfl rfl rfl (fun xv Lv wS hS hL hLd hV bq hb K hK => ?_)) ?_
   ·clear hV
    simp only [putsOf, List.foldl_cons, List.foldl_nil, List.getD_cons_zero, List.getD_cons_succ, List.getD_nil, cond_true, cond_false, Act.put, List.setIfInBounds_toArray, List.set_cons_zero, List.set_cons_succ] at hb
    subst hb
    rw [if_pos (by rfl)]
    go_wp2_with fail
    exact hK.out _ _ ⟨_, rfl, pu_op (i := 0) rfl hS, rfl, AllPX.same _⟩
   refine RelyStepsX.cons (RelyStepX.mk [] [0, 3, 4, 5, 6, 7] rfl rfl rfl (fun xv Lv wS hS hL hLd hV bq hb K hK => ?_)) ?_
   ·clear hV
    simp only [putsOf, List.foldl_cons, List.foldl_nil, List.getD_cons_zero, List.getD_cons_succ, List.getD_nil, cond_true, cond_false, Act.put, List.setIfInBounds_toArray, List.set_cons_zero, List.set_cons_succ] at hb
    subst hb
    rw [if_pos (by rfl)]
    go_wp2_with fail
    exact hK.out _ _ ⟨_, rfl, pu_op (i := 1) rfl hS, rfl, AllPX.same _⟩
   refine RelyStepsX.cons (RelyStepX.mk [1] [0, 4, 5, 6, 7] rfl rfl rfl (fun xv Lv wS hS hL hLd hV bq hb K hK => ?_)) ?_
   ·obtain ⟨h1, _⟩ := hV
    have h1 : xv 1 = _ := h1
    simp only [putsOf, List.foldl_cons, List.foldl_nil, List.getD_cons_zero, List.getD_cons_succ, List.getD_nil, cond_true, cond_false, Act.put, List.setIfInBounds_toArray, List.set_cons_zero, List.set_cons_succ, h1] at hb
    clear h1
    subst hb
    rw [if_pos (by rfl)]
    go_wp2_with fail
    exact hK.out _ _ ⟨_, rfl, pu_op (i := 2) rfl hS, rfl, AllPX.same _⟩
   refine RelyStepsX.cons (RelyStepX.mk [2] [0, 5, 6, 7] rfl rfl rfl (fun xv Lv wS hS hL hLd hV bq hb K hK => ?_)) ?_
   ·obtain ⟨h2, _⟩ := hV
    have h2 : xv 2 = _ := h2
    simp only [putsOf, List.foldl_cons, List.foldl_nil, List.getD_cons_zero, List.getD_cons_succ, List.getD_nil, cond_true, cond_false, Act.put, List.setIfInBounds_toArray, List.set_cons_zero, List.set_cons_succ, h2] at hb
    clear h2
    subst hb
    rw [if_pos (by rfl)]
    go_wp2_with fail
    exact hK.out _ _ ⟨_, rfl, pu_op (i := 3) rfl hS, rfl, AllPX.same _⟩
   refine RelyStepsX.cons (RelyStepX.mk [3] [0, 5, 6] rfl rfl rfl (fun xv Lv wS hS hL hLd hV bq hb K hK => ?_)) ?_
   ·obtain ⟨h3, _⟩ := hV
    have h3 : xv 3 = _ := h3
    simp only [putsOf, List.foldl_cons, List.foldl_nil, List.getD_cons_zero, List.getD_cons_succ, List.getD_nil, cond_true, cond_false, Act.put, List.setIfInBounds_toArray, List.set_cons_zero, List.set_cons_succ, h3] at hb
    clear h3
    subst hb
    rw [if_pos (by rfl)]
    (have k1 := HH3.out.box.kept (pu_at hS hL (by decide)) (own_ne HH3.out.rr HH3.out.box (by decide)); have c1 := (k1.cell 0).trans (show _ = some vr from rfl); have c2 := k1.lt; clear k1)
    go_wp2_with fail
    exact hK.out _ _ ⟨_, rfl, pu_op (i := 4) rfl hS, rfl, AllPX.same _⟩
   refine RelyStepsX.cons (RelyStepX.mk [] [0, 1, 2, 3, 4, 7] rfl rfl rfl (fun xv Lv wS hS hL hLd hV bq hb K hK => ?_)) ?_
   ·clear hV
    simp only [putsOf, List.foldl_cons, List.foldl_nil, List.getD_cons_zero, List.getD_cons_succ, List.getD_nil, cond_true, cond_false, Act.put, List.setIfInBounds_toArray, List.set_cons_zero, List.set_cons_succ] at hb
    subst hb
    rw [if_pos (by rfl)]
    (have k1 := HX.out.kept (pu_at hS hL (by decide)) HN6.out; have c0 := (k1.cell 0).trans (show _ = some (Value.int .i64 x.k) from rfl); have c1 := (k1.cell 1).trans (show _ = some (Value.int .i64 x.c) from rfl); have c2 := (k1.cell 2).trans (show _ = some (Value.int .i64 x.r) from rfl); have c3 := k1.lt; clear k1)
    go_wp2_with fail
    exact hK.out _ _ ⟨_, rfl, pu_op (i := 5) rfl hS, rfl, AllPX.same _⟩
   refine RelyStepsX.cons (RelyStepX.mk [5] [0, 1, 2, 3, 4] rfl rfl rfl (fun xv Lv wS hS hL hLd hV bq hb K hK => ?_)) ?_
   ·obtain ⟨h5, _⟩ := hV
    have h5 : xv 5 = _ := h5
    simp only [putsOf, List.foldl_cons, List.foldl_nil, List.getD_cons_zero, List.getD_cons_succ, List.getD_nil, cond_true, cond_false, Act.put, List.setIfInBounds_toArray, List.set_cons_zero, List.set_cons_succ, h5] at hb
    clear h5
    subst hb
    rw [if_pos (by rfl)]
    have HSS := Lib.hid hS
    clear hS
    go_wp2_with fail
    have hb : Below wS.heap.size wS (wS.alloc (.cells (riC x) 51)) := (Below.refl _ _).alloc (Nat.le_refl _) _
    exact hK.out _ _ ⟨_, rfl, pu_more rfl HSS.out hb, ⟨wS.heap.size, rfl, Lies.made _ _ _⟩, AllPX.of _ (fun j _ _ h => bfV_below hb h)⟩
   refine RelyStepsX.cons (RelyStepX.mk [4, 6] [0, 1] rfl rfl rfl (fun xv Lv wS hS hL hLd hV bq hb K hK => ?_)) ?_
   ·obtain ⟨h4, h6, _⟩ := hV
    have h4 : xv 4 = _ := h4
    simp only [putsOf, List.foldl_cons, List.foldl_nil, List.getD_cons_zero, List.getD_cons_succ, List.getD_nil, cond_true, cond_false, Act.put, List.setIfInBounds_toArray, List.set_cons_zero, List.set_cons_succ, h4] at hb
    clear h4
    generalize hy6 : xv 6 = y6 at *
    subst hb
    rw [if_pos (by rfl)]
    have hb9 := pu_bel hS hL (by decide)
    have HSS := Lib.hid hS
    obtain ⟨G, rfl, hl9⟩ := h6
    clear hS
    refine step_list (ops := #[]) (by rfl) (append_argS wS 3 rfl (.tmp 28) (.tmp 30) 22 rfl B 51 _ 24 Tryz.underlying22 infoRiA rfl (by decide) vr p.rs.length (rowsOf riF p.rs) rfl (HH3.out.later hb9).rr (some ⟨G, 0, none⟩) 1 1 rfl (riF x) (seq_lies hl9 rfl (by decide)) (by intro u hu; simp [riF] at hu; rcases hu with rfl | rfl | rfl <;> rfl) (by unfold maxLen; omega) (by omega) (Nat.le_trans hB3 hb9.size) ?_)
    intro v' w' ho hb hgr
    have hk := Kept.of_grown hgr
    exact hK.out _ _ ⟨_, rfl, pu_app rfl HSS.out hk (by rw [rowsOf_append, rowsOf_one]; exact ho) (fun j hj => hLd j (by revert hj; revert j; decide +kernel)), trivial, AllPX.of _ (fun j hj _ h => bfV_lit (by rfl) hj h)⟩
   refine RelyStepsX.cons (RelyStepX.mk [0] [7, 10] rfl rfl rfl (fun xv Lv wS hS hL hLd hV bq hb K hK => ?_)) ?_
   ·obtain ⟨h0, _⟩ := hV
    have h0 : xv 0 = _ := h0
    simp only [putsOf, List.foldl_cons, List.foldl_nil, List.getD_cons_zero, List.getD_cons_succ, List.getD_nil, cond_true, cond_false, Act.put, List.setIfInBounds_toArray, List.set_cons_zero, List.set_cons_succ, h0] at hb
    clear h0
    subst hb
    rw [if_pos (by rfl)]
    go_wp2_with fail
    exact hK.out _ _ ⟨_, rfl, pu_op (i := 8) rfl hS, rfl, AllPX.same _⟩
   refine RelyStepsX.cons (RelyStepX.mk [8] [7] rfl rfl rfl (fun xv Lv wS hS hL hLd hV bq hb K hK => ?_)) ?_
   ·obtain ⟨h8, _⟩ := hV
    have h8 : xv 8 = _ := h8
    simp only [putsOf, List.foldl_cons, List.foldl_nil, List.getD_cons_zero, List.getD_cons_succ, List.getD_nil, cond_true, cond_false, Act.put, List.setIfInBounds_toArray, List.set_cons_zero, List.set_cons_succ, h8] at hb
    clear h8
    subst hb
    rw [if_pos (by rfl)]
    go_wp2_with fail
    exact hK.out _ _ ⟨_, rfl, pu_op (i := 9) rfl hS, rfl, AllPX.same _⟩
   refine RelyStepsX.cons (RelyStepX.mk [9, 7] [7] rfl rfl rfl (fun xv Lv wS hS hL hLd hV bq hb K hK => ?_)) ?_
   ·obtain ⟨h9, h7, _⟩ := hV
    have h9 : xv 9 = _ := h9
    simp only [putsOf, List.foldl_cons, List.foldl_nil, List.getD_cons_zero, List.getD_cons_succ, List.getD_nil, cond_true, cond_false, Act.put, List.setIfInBounds_toArray, List.set_cons_zero, List.set_cons_succ, h9] at hb
    clear h9
    generalize hy7 : xv 7 = y7 at *
    subst hb
    rw [if_pos (by rfl)]
    obtain ⟨k1, ho⟩ := pu_st hS hL (hLd 7 (by decide +kernel))
    have hl3 := HH3.out.box.kept k1 (own_ne HH3.out.rr HH3.out.box (by decide))
    have q1 := (hl3.cell 0).trans (show _ = some vr from rfl)
    have f1 := hl3.free 0
    have qt := hl3.lt
    rw [hy7] at ho
    obtain ⟨A8, c8, rfl, _, _, _⟩ := (SeqS.of_owns ho).form
    have HSS := Lib.hid hS
    clear hS ho k1 hl3
    go_wp2_with fail
    refine hK.out _ _ ⟨undef, rfl, ?_, trivial, AllPX.of _ (fun j hj _ h => bfV_lit (by rfl) hj h)⟩
    have := pu_store (v := undef) rfl HSS.out (fun j hj => hLd j (by revert hj; revert j; decide +kernel))
    rwa [hy7] at this
   exact RelyStepsX.nil
  case rE =>
   intro xv Lv wE hS hLall hV
   have h7 := hV 7 (by decide) (by decide)
   have h10 := hV 10 (by decide) (by decide)
   clear hV
   obtain ⟨q1, e1, k1, ho⟩ := pu_end hS (hLall 7 (by decide +kernel)) (hLall 10 (by decide +kernel))
   simp only [putsOf, List.foldl_cons, List.foldl_nil, List.getD_cons_zero, List.getD_cons_succ, List.getD_nil, cond_true, cond_false, Act.put, List.setIfInBounds_toArray, List.set_cons_zero, List.set_cons_succ]
   generalize xv 0 = y0 at *
   generalize xv 1 = y1 at *
   generalize xv 2 = y2 at *
   generalize xv 3 = y3 at *
   generalize xv 4 = y4 at *
   generalize xv 5 = y5 at *
   generalize xv 6 = y6 at *
   generalize xv 7 = y7 at *
   generalize xv 8 = y8 at *
   generalize xv 9 = y9 at *
   generalize xv 10 = y10 at *
   obtain ⟨hbd, hbw⟩ := HH3.out.ring k1 x ho
   rw [← e1] at hbd hbw
   obtain ⟨A8, c8, rfl, hn8, hm8, _⟩ := (SeqS.of_owns hbd.rr).form
   obtain ⟨Q8, d8, rfl, _, hm9, _⟩ := (SeqS.of_owns hbd.tr).form
   have HH4 := Lib.hid hbd
   have HBL4 := Lib.hid (HBL3.out.trans hbw)
   have hrl : (p.rs ++ [x]).length = p.rs.length + 1 := by simp
   have c0 := (hbd.box.cell 0).trans (show _ = some (Value.slice A8 (p.rs ++ [x]).length c8) from rfl)
   have c1 := (hbd.box.cell 1).trans (show _ = some (Value.slice Q8 p.ts.length d8) from rfl)
   have c2 := hbd.box.lt
   clear hbd hbw e1 k1 ho hS HH3 HX HBL3 hLall hn8 hm8 hm9
   rw [hrl] at c0
   cases ok
   ·go_wp2_with fail
    go_ret
    exact ⟨_, _, _, _, by rw [HAR.out]; rfl, by rw [HAR.out]; exact HH4.out, HBL4.out⟩
   by_cases ht0 : p.ts.length = 0
   ·have e1 : ((p.ts.length : Int) == 0) = true := by rw [beq_iff_eq]; omega
    have HT := Lib.hid (decide_eq_true ht0)
    by_cases h8 : p.rs.length + 1 ≤ 8
    ·have e2 : decide ((p.rs.length : Int) + 1 ≤ 8) = true := decide_eq_true (by omega)
     have e3 : decide (((p.rs.length + 1 : Nat) : Int) ≤ 8) = true := decide_eq_true (by omega)
     have HE8 := Lib.hid (decide_eq_true h8)
     clear ht0 h8
     go_wp2_with fail
     go_ret
     exact ⟨_, _, _, _, by rw [HAR.out, HT.out, HE8.out]; rfl, by rw [HAR.out]; exact HH4.out, HBL4.out⟩
    ·have e2 : decide ((p.rs.length : Int) + 1 ≤ 8) = false := decide_eq_false (by omega)
     have e3 : decide (((p.rs.length + 1 : Nat) : Int) ≤ 8) = false := decide_eq_false (by omega)
     have HE8 := Lib.hid (decide_eq_false h8)
     clear ht0 h8
     go_wp2_with fail
     go_ret
     exact ⟨_, _, _, _, by rw [HAR.out, HT.out, HE8.out]; rfl, by rw [HAR.out]; exact HH4.out, HBL4.out⟩
   ·have e1 : ((p.ts.length : Int) == 0) = false := by rw [beq_eq_false_iff_ne]; omega
    have HT := Lib.hid (decide_eq_false ht0)
    clear ht0
    go_wp2_with fail
    go_ret
    exact ⟨_, _, _, _, by rw [HAR.out, HT.out]; rfl, by rw [HAR.out]; exact HH4.out, HBL4.out⟩
 by_cases hc : w0 = caW
 ·subst hc
  rw [show textB caW = (⟨#[99, 97, 115, 116]⟩ : ByteArray) from rfl] at d0
  have HAR : Hid (adL p bs = _) := HA.out.trans (ad_isring (.inr rfl))
  have HRR := Lib.hid (readRing10 caW rs wb 0 (rs.length + 1) w1 (by omega) (fun b hb => HWL.out b (List.mem_cons_of_mem _ hb)) (Nat.le_refl _) (by omega) HCE.out HE1.out HP1.out)
  obtain ⟨Y, hY⟩ : ∃ Y, Y = rrR caW rs := ⟨_, rfl⟩
  rw [← hY] at HRR HAR
  clear hY HA HN1 HE1 HP1 HG1
  obtain ⟨x, ok⟩ := Y
  go_wp2_with fail
  refine HRR.out.mono ?_
  rintro e w2 ⟨rfl, hb2⟩
  clear HRR d0 dl HCE
  go_upto_region 6 with (fail)
  have hbx : Below w2.heap.size w2 (w2.alloc (.cells (riC x) 51)) := (Below.refl _ _).alloc (Nat.le_refl _) _
  have HX := Lib.hid (Lies.made w2 51 (riC x))
  have HH3 := Lib.hid (HH1.out.later (then_ hb2 hbx))
  have HN6 : Hid (¬ vr.ownBlock = some w2.heap.size) := fun e => by have := (own_range (HH1.out.later hb2).rr e).2; omega
  have HBL3 := Lib.hid (HBL.out.trans ((then_ hb2 hbx).mono hBw1))
  have hB3 := HBL3.out.size
  replace hB3 := Nat.le_trans hB hB3
  obtain ⟨b6, hb6⟩ : ∃ k, k = w2.heap.size := ⟨_, rfl⟩
  rw [← hb6] at HX HN6
  simp only [← hb6]
  clear hbx hb2 HH1 HBL HB1 hb6
  generalize w2.alloc (.cells (riC x) 51) = w3 at *
  refine wp_region_relyx (PuS w3 vr g 0 7 10 [0, 1, 2, 3, 4, 5, 6, 7, 9] [6] (fun v q => q.ownsRow B 51 3 v (p.rs.length + 1) (rowsOf riF (p.rs ++ [x])))) (bfV [.eq (.pointer (some ⟨g, 0, none⟩)), .eq (.pointer (some ⟨g, 0, none⟩)), .eq (.pointer (some ⟨g, 0, none⟩)), .eq (.pointer (some ⟨g, 0, none⟩)), .eq vr, .eq (.agg (riC x)), .of (fun v q => ∃ G, v = Value.slice (some ⟨G, 0, none⟩) 1 1 ∧ Lies q G 51 (riC x)) (fun _ _ _ hb ⟨G, e, h1⟩ => ⟨G, e, h1.below hb h1.lt⟩), .any, .eq (.pointer (some ⟨g, 0, none⟩)), .eq (.pointer (some ⟨g, 0, none⟩)), .any]) [some 24, some 25, some 26, some 27, some 28, some 29, some 30, some 31, some 32, some 33, none] [[], [], [1], [2], [3], [], [5], [4, 6], [0], [8], [9, 7]] [[], [], [1], [1, 2], [2, 3], [], [5], [3, 4, 5, 6], [0, 1, 2, 3, 4, 5, 6], [0, 1, 2, 3, 4, 5, 6, 8], [1, 2, 3, 4, 5, 6, 8, 9]] [[1, 2, 3, 4, 5, 6, 7], [0, 3, 4, 5, 6, 7], [0, 4, 5, 6, 7], [0, 5, 6, 7], [0, 5, 6], [0, 1, 2, 3, 4, 7], [0, 1, 2, 3, 4], [0, 1], [7, 10], [7], [7]] [0, 1, 2, 3, 4, 5, 6, 7, 8, 9, 10] 11 (by kernel_rfl) (by kernel_rfl) (by kernel_rfl) (by kernel_rfl) ?rS (fun j h1 h2 => absurd (Nat.lt_of_lt_of_le h1 (Nat.le_trans (by decide) h2)) (Nat.lt_irrefl _)) ?rT ?rE
  case rS => exact pu_start
  case rT =>
   refine RelyStepsX.cons (RelyStepX.mk [] [1, 2, 3, 4, 5, 6, 7] rfl rfl rfl (fun xv Lv wS hS hL hLd hV bq hb K hK => ?_)) ?_
   ·clear hV
    simp only [putsOf, List.foldl_cons, List.foldl_nil, List.getD_cons_zero, List.getD_cons_succ, List.getD_nil, cond_true, cond_false, Act.put, List.setIfInBounds_toArray, List.set_cons_zero, List.set_cons_succ] at hb
    subst hb
    rw [if_pos (by rfl)]
    go_wp2_with fail
    exact hK.out _ _ ⟨_, rfl, pu_op (i := 0) rfl hS, rfl, AllPX.same _⟩
   refine RelyStepsX.cons (RelyStepX.mk [] [0, 3, 4, 5, 6, 7] rfl rfl rfl (fun xv Lv wS hS hL hLd hV bq hb K hK => ?_)) ?_
   ·clear hV
    simp only [putsOf, List.foldl_cons, List.foldl_nil, List.getD_cons_zero, List.getD_cons_succ, List.getD_nil, cond_true, cond_false, Act.put, List.setIfInBounds_toArray, List.set_cons_zero, List.set_cons_succ] at hb
    subst hb
    rw [if_pos (by rfl)]
    go_wp2_with fail
    exact hK.out _ _ ⟨_, rfl, pu_op (i := 1) rfl hS, rfl, AllPX.same _⟩
   refine RelyStepsX.cons (RelyStepX.mk [1] [0, 4, 5, 6, 7] rfl rfl rfl (fun xv Lv wS hS hL hLd hV bq hb K hK => ?_)) ?_
   ·obtain ⟨h1, _⟩ := hV
    have h1 : xv 1 = _ := h1
    simp only [putsOf, List.foldl_cons, List.foldl_nil, List.getD_cons_zero, List.getD_cons_succ, List.getD_nil, cond_true, cond_false, Act.put, List.setIfInBounds_toArray, List.set_cons_zero, List.set_cons_succ, h1] at hb
    clear h1
    subst hb
    rw [if_pos (by rfl)]
    go_wp2_with fail
    exact hK.out _ _ ⟨_, rfl, pu_op (i := 2) rfl hS, rfl, AllPX.same _⟩
   refine RelyStepsX.cons (RelyStepX.mk [2] [0, 5, 6, 7] rfl rfl rfl (fun xv Lv wS hS hL hLd hV bq hb K hK => ?_)) ?_
   ·obtain ⟨h2, _⟩ := hV
    have h2 : xv 2 = _ := h2
    simp only [putsOf, List.foldl_cons, List.foldl_nil, List.getD_cons_zero, List.getD_cons_succ, List.getD_nil, cond_true, cond_false, Act.put, List.setIfInBounds_toArray, List.set_cons_zero, List.set_cons_succ, h2] at hb
    clear h2
    subst hb
    rw [if_pos (by rfl)]
    go_wp2_with fail
    exact hK.out _ _ ⟨_, rfl, pu_op (i := 3) rfl hS, rfl, AllPX.same _⟩
   refine RelyStepsX.cons (RelyStepX.mk [3] [0, 5, 6] rfl rfl rfl (fun xv Lv wS hS hL hLd hV bq hb K hK => ?_)) ?_
   ·obtain ⟨h3, _⟩ := hV
    have h3 : xv 3 = _ := h3
    simp only [putsOf, List.foldl_cons, List.foldl_nil, List.getD_cons_zero, List.getD_cons_succ, List.getD_nil, cond_true, cond_false, Act.put, List.setIfInBounds_toArray, List.set_cons_zero, List.set_cons_succ, h3] at hb
    clear h3
    subst hb
    rw [if_pos (by rfl)]
    (have k1 := HH3.out.box.kept (pu_at hS hL (by decide)) (own_ne HH3.out.rr HH3.out.box (by decide)); have c1 := (k1.cell 0).trans (show _ = some vr from rfl); have c2 := k1.lt; clear k1)
    go_wp2_with fail
    exact hK.out _ _ ⟨_, rfl, pu_op (i := 4) rfl hS, rfl, AllPX.same _⟩
   refine RelyStepsX.cons (RelyStepX.mk [] [0, 1, 2, 3, 4, 7] rfl rfl rfl (fun xv Lv wS hS hL hLd hV bq hb K hK => ?_)) ?_
   ·clear hV
    simp only [putsOf, List.foldl_cons, List.foldl_nil, List.getD_cons_zero, List.getD_cons_succ, List.getD_nil, cond_true, cond_false, Act.put, List.setIfInBounds_toArray, List.set_cons_zero, List.set_cons_succ] at hb
    subst hb
    rw [if_pos (by rfl)]
    (have k1 := HX.out.kept (pu_at hS hL (by decide)) HN6.out; have c0 := (k1.cell 0).trans (show _ = some (Value.int .i64 x.k) from rfl); have c1 := (k1.cell 1).trans (show _ = some (Value.int .i64 x.c) from rfl); have c2 := (k1.cell 2).trans (show _ = some (Value.int .i64 x.r) from rfl); have c3 := k1.lt; clear k1)
    go_wp2_with fail
    exact hK.out _ _ ⟨_, rfl, pu_op (i := 5) rfl hS, rfl, AllPX.same _⟩
   refine RelyStepsX.cons (RelyStepX.mk [5] [0, 1, 2, 3, 4] rfl rfl rfl (fun xv Lv wS hS hL hLd hV bq hb K hK => ?_)) ?_
   ·obtain ⟨h5, _⟩ := hV
    have h5 : xv 5 = _ := h5
    simp only [putsOf, List.foldl_cons, List.foldl_nil, List.getD_cons_zero, List.getD_cons_succ, List.getD_nil, cond_true, cond_false, Act.put, List.setIfInBounds_toArray, List.set_cons_zero, List.set_cons_succ, h5] at hb
    clear h5
    subst hb
    rw [if_pos (by rfl)]
    have HSS := Lib.hid hS
    clear hS
    go_wp2_with fail
    have hb : Below wS.heap.size wS (wS.alloc (.cells (riC x) 51)) := (Below.refl _ _).alloc (Nat.le_refl _) _
    exact hK.out _ _ ⟨_, rfl, pu_more rfl HSS.out hb, ⟨wS.heap.size, rfl, Lies.made _ _ _⟩, AllPX.of _ (fun j _ _ h => bfV_below hb h)⟩
   refine RelyStepsX.cons (RelyStepX.mk [4, 6] [0, 1] rfl rfl rfl (fun xv Lv wS hS hL hLd hV bq hb K hK => ?_)) ?_
   ·obtain ⟨h4, h6, _⟩ := hV
    have h4 : xv 4 = _ := h4
    simp only [putsOf, List.foldl_cons, List.foldl_nil, List.getD_cons_zero, List.getD_cons_succ, List.getD_nil, cond_true, cond_false, Act.put, List.setIfInBounds_toArray, List.set_cons_zero, List.set_cons_succ, h4] at hb
    clear h4
    generalize hy6 : xv 6 = y6 at *
    subst hb
    rw [if_pos (by rfl)]
    have hb9 := pu_bel hS hL (by decide)
    have HSS := Lib.hid hS
    obtain ⟨G, rfl, hl9⟩ := h6
    clear hS
    refine step_list (ops := #[]) (by rfl) (append_argS wS 3 rfl (.tmp 28) (.tmp 30) 22 rfl B 51 _ 24 Tryz.underlying22 infoRiA rfl (by decide) vr p.rs.length (rowsOf riF p.rs) rfl (HH3.out.later hb9).rr (some ⟨G, 0, none⟩) 1 1 rfl (riF x) (seq_lies hl9 rfl (by decide)) (by intro u hu; simp [riF] at hu; rcases hu with rfl | rfl | rfl <;> rfl) (by unfold maxLen; omega) (by omega) (Nat.le_trans hB3 hb9.size) ?_)
    intro v' w' ho hb hgr
    have hk := Kept.of_grown hgr
    exact hK.out _ _ ⟨_, rfl, pu_app rfl HSS.out hk (by rw [rowsOf_append, rowsOf_one]; exact ho) (fun j hj => hLd j (by revert hj; revert j; decide +kernel)), trivial, AllPX.of _ (fun j hj _ h => bfV_lit (by rfl) hj h)⟩
   refine RelyStepsX.cons (RelyStepX.mk [0] [7, 10] rfl rfl rfl (fun xv Lv wS hS hL hLd hV bq hb K hK => ?_)) ?_
   ·obtain ⟨h0, _⟩ := hV
    have h0 : xv 0 = _ := h0
    simp only [putsOf, List.foldl_cons, List.foldl_nil, List.getD_cons_zero, List.getD_cons_succ, List.getD_nil, cond_true, cond_false, Act.put, List.setIfInBounds_toArray, List.set_cons_zero, List.set_cons_succ, h0] at hb
    clear h0
    subst hb
    rw [if_pos (by rfl)]
    go_wp2_with fail
    exact hK.out _ _ ⟨_, rfl, pu_op (i := 8) rfl hS, rfl, AllPX.same _⟩
   refine RelyStepsX.cons (RelyStepX.mk [8] [7] rfl rfl rfl (fun xv Lv wS hS hL hLd hV bq hb K hK => ?_)) ?_
   ·obtain ⟨h8, _⟩ := hV
    have h8 : xv 8 = _ := h8
    simp only [putsOf, List.foldl_cons, List.foldl_nil, List.getD_cons_zero, List.getD_cons_succ, List.getD_nil, cond_true, cond_false, Act.put, List.setIfInBounds_toArray, List.set_cons_zero, List.set_cons_succ, h8] at hb
    clear h8
    subst hb
    rw [if_pos (by rfl)]
    go_wp2_with fail
    exact hK.out _ _ ⟨_, rfl, pu_op (i := 9) rfl hS, rfl, AllPX.same _⟩
   refine RelyStepsX.cons (RelyStepX.mk [9, 7] [7] rfl rfl rfl (fun xv Lv wS hS hL hLd hV bq hb K hK => ?_)) ?_
   ·obtain ⟨h9, h7, _⟩ := hV
    have h9 : xv 9 = _ := h9
    simp only [putsOf, List.foldl_cons, List.foldl_nil, List.getD_cons_zero, List.getD_cons_succ, List.getD_nil, cond_true, cond_false, Act.put, List.setIfInBounds_toArray, List.set_cons_zero, List.set_cons_succ, h9] at hb
    clear h9
    generalize hy7 : xv 7 = y7 at *
    subst hb
    rw [if_pos (by rfl)]
    obtain ⟨k1, ho⟩ := pu_st hS hL (hLd 7 (by decide +kernel))
    have hl3 := HH3.out.box.kept k1 (own_ne HH3.out.rr HH3.out.box (by decide))
    have q1 := (hl3.cell 0).trans (show _ = some vr from rfl)
    have f1 := hl3.free 0
    have qt := hl3.lt
    rw [hy7] at ho
    obtain ⟨A8, c8, rfl, _, _, _⟩ := (SeqS.of_owns ho).form
    have HSS := Lib.hid hS
    clear hS ho k1 hl3
    go_wp2_with fail
    refine hK.out _ _ ⟨undef, rfl, ?_, trivial, AllPX.of _ (fun j hj _ h => bfV_lit (by rfl) hj h)⟩
    have := pu_store (v := undef) rfl HSS.out (fun j hj => hLd j (by revert hj; revert j; decide +kernel))
    rwa [hy7] at this
   exact RelyStepsX.nil
  case rE =>
   intro xv Lv wE hS hLall hV
   have h7 := hV 7 (by decide) (by decide)
   have h10 := hV 10 (by decide) (by decide)
   clear hV
   obtain ⟨q1, e1, k1, ho⟩ := pu_end hS (hLall 7 (by decide +kernel)) (hLall 10 (by decide +kernel))
   simp only [putsOf, List.foldl_cons, List.foldl_nil, List.getD_cons_zero, List.getD_cons_succ, List.getD_nil, cond_true, cond_false, Act.put, List.setIfInBounds_toArray, List.set_cons_zero, List.set_cons_succ]
   generalize xv 0 = y0 at *
   generalize xv 1 = y1 at *
   generalize xv 2 = y2 at *
   generalize xv 3 = y3 at *
   generalize xv 4 = y4 at *
   generalize xv 5 = y5 at *
   generalize xv 6 = y6 at *
   generalize xv 7 = y7 at *
   generalize xv 8 = y8 at *
   generalize xv 9 = y9 at *
   generalize xv 10 = y10 at *
   obtain ⟨hbd, hbw⟩ := HH3.out.ring k1 x ho
   rw [← e1] at hbd hbw
   obtain ⟨A8, c8, rfl, hn8, hm8, _⟩ := (SeqS.of_owns hbd.rr).form
   obtain ⟨Q8, d8, rfl, _, hm9, _⟩ := (SeqS.of_owns hbd.tr).form
   have HH4 := Lib.hid hbd
   have HBL4 := Lib.hid (HBL3.out.trans hbw)
   have hrl : (p.rs ++ [x]).length = p.rs.length + 1 := by simp
   have c0 := (hbd.box.cell 0).trans (show _ = some (Value.slice A8 (p.rs ++ [x]).length c8) from rfl)
   have c1 := (hbd.box.cell 1).trans (show _ = some (Value.slice Q8 p.ts.length d8) from rfl)
   have c2 := hbd.box.lt
   clear hbd hbw e1 k1 ho hS HH3 HX HBL3 hLall hn8 hm8 hm9
   rw [hrl] at c0
   cases ok
   ·go_wp2_with fail
    go_ret
    exact ⟨_, _, _, _, by rw [HAR.out]; rfl, by rw [HAR.out]; exact HH4.out, HBL4.out⟩
   by_cases ht0 : p.ts.length = 0
   ·have e1 : ((p.ts.length : Int) == 0) = true := by rw [beq_iff_eq]; omega
    have HT := Lib.hid (decide_eq_true ht0)
    by_cases h8 : p.rs.length + 1 ≤ 8
    ·have e2 : decide ((p.rs.length : Int) + 1 ≤ 8) = true := decide_eq_true (by omega)
     have e3 : decide (((p.rs.length + 1 : Nat) : Int) ≤ 8) = true := decide_eq_true (by omega)
     have HE8 := Lib.hid (decide_eq_true h8)
     clear ht0 h8
     go_wp2_with fail
     go_ret
     exact ⟨_, _, _, _, by rw [HAR.out, HT.out, HE8.out]; rfl, by rw [HAR.out]; exact HH4.out, HBL4.out⟩
    ·have e2 : decide ((p.rs.length : Int) + 1 ≤ 8) = false := decide_eq_false (by omega)
     have e3 : decide (((p.rs.length + 1 : Nat) : Int) ≤ 8) = false := decide_eq_false (by omega)
     have HE8 := Lib.hid (decide_eq_false h8)
     clear ht0 h8
     go_wp2_with fail
     go_ret
     exact ⟨_, _, _, _, by rw [HAR.out, HT.out, HE8.out]; rfl, by rw [HAR.out]; exact HH4.out, HBL4.out⟩
   ·have e1 : ((p.ts.length : Int) == 0) = false := by rw [beq_eq_false_iff_ne]; omega
    have HT := Lib.hid (decide_eq_false ht0)
    clear ht0
    go_wp2_with fail
    go_ret
    exact ⟨_, _, _, _, by rw [HAR.out, HT.out]; rfl, by rw [HAR.out]; exact HH4.out, HBL4.out⟩
 by_cases ht : w0 = thW
 ·subst ht
  rw [show textB thW = (⟨#[116, 104, 114, 101, 97, 100]⟩ : ByteArray) from rfl] at d0
  have HAR : Hid (adL p bs = _) := HA.out.trans ad_isthread
  clear HCE HA HN1 HE1 HP1 HG1
  have HT1 := Lib.hid HH1.out.tr
  have HX1 := Lib.hid HH1.out.box
  have c1 := (HX1.out.cell 1).trans (show _ = some vt from rfl)
  have c2 := HX1.out.lt
  have f1 := HX1.out.free 1
  go_wp2_with (at_builtin; refine append_one _ (.slice none 0 0) rfl (.tmp 57) (.tmp 58) 23 rfl B 47 _ 24 Tryz.underlying23 infoThA rfl rfl _ _ _ rfl HT1.out rfl (by unfold maxLen; omega) (by omega) hBw1 ?_)
  intro v' w' ho hb hgr
  have hk := kept_grown hgr
  have hl2 := HX1.out.kept hk (own_ne HT1.out HX1.out (by decide))
  obtain ⟨hbd, hbw⟩ := HH1.out.thread hk ho
  have c1 := (hl2.cell 1).trans (show _ = some vt from rfl)
  have c2 := hl2.lt
  have f1 := hl2.free 1
  have HH4 := Lib.hid hbd
  have HBL4 := Lib.hid (HBL.out.trans hbw)
  obtain ⟨Q8, d8, hv8, _, _, _⟩ := (SeqS.of_owns ho).form
  subst hv8
  clear hbd hbw hk ho hb hgr hl2
  go_upto_region 10 with (fail)
  generalize World.setCell w' ⟨g, 1, none⟩ (.slice Q8 (p.ts.length + 1) d8) = w4 at *
  clear c1 c2 f1
  have c1 := (HH4.out.box.cell 1).trans (show _ = some (Value.slice Q8 (p.ts.length + 1) d8) from rfl)
  have c2 := HH4.out.box.lt
  by_cases h1 : rs.length = 0
  ·have e1 : (((rs.length : Int) + 1) == 1) = true := by rw [beq_iff_eq]; omega
   have e1b : (((rs.length + 1 : Nat) : Int) == 1) = true := by rw [beq_iff_eq]; omega
   have HT := Lib.hid (decide_eq_true h1)
   by_cases h8 : p.ts.length + 1 ≤ 8
   ·have e2 : decide ((p.ts.length : Int) + 1 ≤ 8) = true := decide_eq_true (by omega)
    have e3 : decide (((p.ts.length + 1 : Nat) : Int) ≤ 8) = true := decide_eq_true (by omega)
    have HE8 := Lib.hid (decide_eq_true h8)
    clear h1 h8
    go_wp2_with fail
    go_ret
    exact ⟨_, _, _, _, by rw [HAR.out, HT.out, HE8.out]; rfl, by rw [HAR.out]; exact HH4.out, HBL4.out⟩
   ·have e2 : decide ((p.ts.length : Int) + 1 ≤ 8) = false := decide_eq_false (by omega)
    have e3 : decide (((p.ts.length + 1 : Nat) : Int) ≤ 8) = false := decide_eq_false (by omega)
    have HE8 := Lib.hid (decide_eq_false h8)
    clear h1 h8
    go_wp2_with fail
    go_ret
    exact ⟨_, _, _, _, by rw [HAR.out, HT.out, HE8.out]; rfl, by rw [HAR.out]; exact HH4.out, HBL4.out⟩
  ·have e1 : (((rs.length : Int) + 1) == 1) = false := by rw [beq_eq_false_iff_ne]; omega
   have e1b : (((rs.length + 1 : Nat) : Int) == 1) = false := by rw [beq_eq_false_iff_ne]; omega
   have HT := Lib.hid (decide_eq_false h1)
   clear h1
   go_wp2_with fail
   go_ret
   exact ⟨_, _, _, _, by rw [HAR.out, HT.out]; rfl, by rw [HAR.out]; exact HH4.out, HBL4.out⟩
 have hne1 : ((textB w0).toList == ([113, 117, 101, 117, 101] : List UInt8)) = false := by rw [text_toList, beq_eq_false_iff_ne]; exact hq
 have hne2 : ((textB w0).toList == ([99, 97, 115, 116] : List UInt8)) = false := by rw [text_toList, beq_eq_false_iff_ne]; exact hc
 have hne3 : ((textB w0).toList == ([116, 104, 114, 101, 97, 100] : List UInt8)) = false := by rw [text_toList, beq_eq_false_iff_ne]; exact ht
 have HAR : Hid (adL p bs = _) := HA.out.trans (ad_isinstr (fun h => h.elim hq hc) ht)
 have HRL := Lib.hid (readLine10 (w0 :: rs) wb 0 (rs.length + 1) w1 (by simp) (by rw [List.length_cons]; omega) HWL.out (by rw [List.length_cons]; omega) (by omega) HCE.out HN1.out HE1.out HP1.out)
 obtain ⟨Y, hY⟩ : ∃ Y, Y = rlR (w0 :: rs) := ⟨_, rfl⟩
 rw [← hY] at HRL HAR
 rw [List.length_cons] at HRL
 obtain ⟨T0, hT0⟩ : ∃ T, T = textB w0 := ⟨_, rfl⟩
 rw [← hT0] at d0 hne1 hne2 hne3
 clear hT0 hY hq hc ht HA HN1 HE1 HP1 HG1
 obtain ⟨x, ok⟩ := Y
 go_wp2_with fail
 refine HRL.out.mono ?_
 rintro e w2 ⟨rfl, hb2⟩
 clear HRL d0 dl hne1 hne2 hne3 HCE
 go_upto_region 12 with (fail)
 have hbx : Below w2.heap.size w2 (w2.alloc (.cells (inC x) 28)) := (Below.refl _ _).alloc (Nat.le_refl _) _
 have HX := Lib.hid (Lies.made w2 28 (inC x))
 have HH2 := Lib.hid (HH1.out.later hb2)
 have HH3 := Lib.hid (HH2.out.later hbx)
 have HN8 : Hid (∀ (T : List (List In)) (l : List In) (u : Value), p.ts = T ++ [l] → vs[T.length]? = some u → ¬ u.ownBlock = some w2.heap.size) := by
  intro T l u hp hu e
  obtain ⟨u2, rt, cap, h1, h2, _⟩ := HH2.out.last_ hp
  obtain rfl : u = u2 := Option.some.inj (hu.symm.trans h1)
  have := (own_range h2 e).2
  omega
 have HBL3 := Lib.hid (HBL.out.trans ((then_ hb2 hbx).mono hBw1))
 have hB3 := HBL3.out.size
 replace hB3 := Nat.le_trans hB hB3
 obtain ⟨b8, hb8⟩ : ∃ k, k = w2.heap.size := ⟨_, rfl⟩
 rw [← hb8] at HX HN8
 simp only [← hb8]
 clear hbx hb2 HH1 HH2 HBL HB1 hb8
 generalize w2.alloc (.cells (inC x) 28) = w3 at *
 by_cases hgo : ok = true ∧ 0 < p.ts.length
 case neg =>
  have HAR2 : Hid (adL p bs = (p, false)) := HAR.out.trans (if_neg hgo)
  obtain ⟨Q8, d8, hv8, _, _, _⟩ := (SeqS.of_owns HH3.out.tr).form
  subst hv8
  have c1 := (HH3.out.box.cell 1).trans (show _ = some (Value.slice Q8 p.ts.length d8) from rfl)
  have c2 := HH3.out.box.lt
  cases ok
  ·clear hgo
   go_wp2_with fail
   go_ret
   exact ⟨_, _, _, _, by rw [HAR2.out]; rfl, by rw [HAR2.out]; exact HH3.out, HBL3.out⟩
  ·have h0 : p.ts.length = 0 := by
    rcases Nat.eq_zero_or_pos p.ts.length with h | h
    ·exact h
    ·exact absurd ⟨rfl, h⟩ hgo
   rw [h0] at c1
   clear hgo
   go_wp2_with fail
   go_ret
   exact ⟨_, _, _, _, by rw [HAR2.out]; rfl, by rw [HAR2.out]; exact HH3.out, HBL3.out⟩
 obtain ⟨rfl, hpos⟩ := hgo
 obtain ⟨T, l, hp⟩ := snoc_of hpos
 have HAR3 : Hid (adL p bs = (⟨p.rs, T ++ [l ++ [x]]⟩, decide (l.length + 1 ≤ 256))) := by
  refine HAR.out.trans ((if_pos ⟨rfl, hpos⟩).trans ?_)
  rw [hp, putI_snoc]
  simp
 have hl256 := HTS.out l (by rw [hp]; simp)
 obtain ⟨u, rt, cap, hu, hown, hvt, hrt, hcp, hcm, cur, hlr, hcu⟩ := HH3.out.last_ hp
 have hN8 := HN8.out T l u hp hu
 have hpl : p.ts.length = T.length + 1 := by rw [hp]; simp
 subst hvt
 rw [hpl] at hcp
 have HPP := Lib.hid hp
 have HPL := Lib.hid hpl
 have HU := Lib.hid hu
 have HOW := Lib.hid hown
 have HLR := Lib.hid hlr
 have HCU := Lib.hid hcu
 have HNX := Lib.hid hN8
 have c1 := (HH3.out.box.cell 1).trans (show _ = some (Value.slice (some ⟨rt, 0, none⟩) p.ts.length cap) from rfl)
 rw [hpl] at c1
 have HC1 := Lib.hid c1
 have c2 := HH3.out.box.lt
 have hle := HH3.out.le.2
 clear hN8 hu hown hlr hcu HAR HN8
 go_upto_region 15 with (fail)
 refine wp_region_relyx (PuS w3 u rt T.length 14 16 [0, 1, 2, 3, 4, 5, 6, 7, 8, 9, 10, 11, 12, 13, 14, 15] [13] (fun v q => q.ownsRow BL 28 6 v (l.length + 1) (rowsOf inF (l ++ [x])))) (bfV [.eq (.pointer (some ⟨g, 0, none⟩)), .eq (.pointer (some ⟨g, 0, none⟩)), .eq (.pointer (some ⟨g, 1, none⟩)), .eq (.slice (some ⟨rt, 0, none⟩) (T.length + 1) cap), .eq (.int .i64 (T.length : Int)), .eq (.pointer (some ⟨g, 0, none⟩)), .eq (.pointer (some ⟨g, 0, none⟩)), .eq (.pointer (some ⟨g, 1, none⟩)), .eq (.slice (some ⟨rt, 0, none⟩) (T.length + 1) cap), .eq (.int .i64 (T.length : Int)), .eq (.pointer (some ⟨rt, T.length, none⟩)), .eq u, .eq (.agg (inC x)), .of (fun v q => ∃ G, v = Value.slice (some ⟨G, 0, none⟩) 1 1 ∧ Lies q G 28 (inC x)) (fun _ _ _ hb ⟨G, e, h1⟩ => ⟨G, e, h1.below hb h1.lt⟩), .any, .eq (.pointer (some ⟨rt, T.length, none⟩)), .any]) [some 90, some 91, some 92, some 93, some 94, some 95, some 96, some 97, some 98, some 99, some 100, some 101, some 102, some 103, some 104, some 105, none] [[], [0], [1], [2], [], [], [5], [6], [7], [], [8, 9], [10], [], [12], [11, 13], [3, 4], [15, 14]] [[], [0], [0, 1], [1, 2], [], [], [5], [5, 6], [6, 7], [], [7, 8, 9], [8, 9, 10], [], [12], [10, 11, 12, 13], [0, 1, 2, 3, 4, 5, 6, 7, 8, 9, 10, 11, 12, 13], [0, 1, 2, 3, 4, 5, 6, 7, 8, 9, 10, 11, 12, 13, 15]] [[2, 3, 4, 5, 6, 7, 8, 9, 10, 11, 12, 13, 14], [3, 4, 5, 6, 7, 8, 9, 10, 11, 12, 13, 14], [4, 5, 6, 7, 8, 9, 10, 11, 12, 13, 14], [4, 5, 6, 7, 8, 9, 10, 11, 12, 13, 14], [0, 1, 2, 3, 5, 6, 7, 8, 9, 10, 11, 12, 13, 14], [0, 1, 2, 3, 4, 7, 8, 9, 10, 11, 12, 13, 14], [0, 1, 2, 3, 4, 8, 9, 10, 11, 12, 13, 14], [0, 1, 2, 3, 4, 9, 10, 11, 12, 13, 14], [0, 1, 2, 3, 4, 9, 11, 12, 13, 14], [0, 1, 2, 3, 4, 5, 6, 7, 8, 11, 12, 13, 14], [0, 1, 2, 3, 4, 5, 12, 13, 14], [0, 1, 2, 3, 4, 5, 6, 12, 13], [0, 1, 2, 3, 4, 5, 6, 7, 8, 9, 10, 11, 14], [0, 1, 2, 3, 4, 5, 6, 7, 8, 9, 10, 11], [0, 1, 2, 3, 4, 5, 6, 7], [14], [14]] [0, 1, 2, 3, 4, 5, 6, 7, 8, 9, 10, 11, 12, 13, 14, 15, 16] 17 (by kernel_rfl) (by kernel_rfl) (by kernel_rfl) (by kernel_rfl) ?rS (fun j h1 h2 => absurd (Nat.lt_of_lt_of_le h1 (Nat.le_trans (by decide) h2)) (Nat.lt_irrefl _)) ?rT ?rE
 case rS => exact pu_start
 case rT =>
  refine RelyStepsX.cons (RelyStepX.mk [] [2, 3, 4, 5, 6, 7, 8, 9, 10, 11, 12, 13, 14] rfl rfl rfl (fun xv Lv wS hS hL hLd hV bq hb K hK => ?_)) ?_
  ·clear hV
   simp only [putsOf, List.foldl_cons, List.foldl_nil, List.getD_cons_zero, List.getD_cons_succ, List.getD_nil, cond_true, cond_false, Act.put, List.setIfInBounds_toArray, List.set_cons_zero, List.set_cons_succ] at hb
   subst hb
   rw [if_pos (by rfl)]
   go_wp2_with fail
   exact hK.out _ _ ⟨_, rfl, pu_op (i := 0) rfl hS, rfl, AllPX.same _⟩
  refine RelyStepsX.cons (RelyStepX.mk [0] [3, 4, 5, 6, 7, 8, 9, 10, 11, 12, 13, 14] rfl rfl rfl (fun xv Lv wS hS hL hLd hV bq hb K hK => ?_)) ?_
  ·obtain ⟨h0, _⟩ := hV
   have h0 : xv 0 = _ := h0
   simp only [putsOf, List.foldl_cons, List.foldl_nil, List.getD_cons_zero, List.getD_cons_succ, List.getD_nil, cond_true, cond_false, Act.put, List.setIfInBounds_toArray, List.set_cons_zero, List.set_cons_succ, h0] at hb
   clear h0
   subst hb
   rw [if_pos (by rfl)]
   go_wp2_with fail
   exact hK.out _ _ ⟨_, rfl, pu_op (i := 1) rfl hS, rfl, AllPX.same _⟩
  refine RelyStepsX.cons (RelyStepX.mk [1] [4, 5, 6, 7, 8, 9, 10, 11, 12, 13, 14] rfl rfl rfl (fun xv Lv wS hS hL hLd hV bq hb K hK => ?_)) ?_
  ·obtain ⟨h1, _⟩ := hV
   have h1 : xv 1 = _ := h1
   simp only [putsOf, List.foldl_cons, List.foldl_nil, List.getD_cons_zero, List.getD_cons_succ, List.getD_nil, cond_true, cond_false, Act.put, List.setIfInBounds_toArray, List.set_cons_zero, List.set_cons_succ, h1] at hb
   clear h1
   subst hb
   rw [if_pos (by rfl)]
   go_wp2_with fail
   exact hK.out _ _ ⟨_, rfl, pu_op (i := 2) rfl hS, rfl, AllPX.same _⟩
  refine RelyStepsX.cons (RelyStepX.mk [2] [4, 5, 6, 7, 8, 9, 10, 11, 12, 13, 14] rfl rfl rfl (fun xv Lv wS hS hL hLd hV bq hb K hK => ?_)) ?_
  ·obtain ⟨h2, _⟩ := hV
   have h2 : xv 2 = _ := h2
   simp only [putsOf, List.foldl_cons, List.foldl_nil, List.getD_cons_zero, List.getD_cons_succ, List.getD_nil, cond_true, cond_false, Act.put, List.setIfInBounds_toArray, List.set_cons_zero, List.set_cons_succ, h2] at hb
   clear h2
   subst hb
   rw [if_pos (by rfl)]
   (have k1 := HH3.out.box.kept (pu_at hS hL (by decide)) (own_ne HOW.out HH3.out.box (by decide)); have c1 := (k1.cell 1).trans (show _ = some (Value.slice (some ⟨rt, 0, none⟩) p.ts.length cap) from rfl); rw [HPL.out] at c1; have c2 := k1.lt; clear k1)
   go_wp2_with fail
   exact hK.out _ _ ⟨_, rfl, pu_op (i := 3) rfl hS, rfl, AllPX.same _⟩
  refine RelyStepsX.cons (RelyStepX.mk [] [0, 1, 2, 3, 5, 6, 7, 8, 9, 10, 11, 12, 13, 14] rfl rfl rfl (fun xv Lv wS hS hL hLd hV bq hb K hK => ?_)) ?_
  ·clear hV
   simp only [putsOf, List.foldl_cons, List.foldl_nil, List.getD_cons_zero, List.getD_cons_succ, List.getD_nil, cond_true, cond_false, Act.put, List.setIfInBounds_toArray, List.set_cons_zero, List.set_cons_succ] at hb
   subst hb
   rw [if_pos (by rfl)]
   go_wp2_with fail
   exact hK.out _ _ ⟨_, rfl, pu_op (i := 4) rfl hS, rfl, AllPX.same _⟩
  refine RelyStepsX.cons (RelyStepX.mk [] [0, 1, 2, 3, 4, 7, 8, 9, 10, 11, 12, 13, 14] rfl rfl rfl (fun xv Lv wS hS hL hLd hV bq hb K hK => ?_)) ?_
  ·clear hV
   simp only [putsOf, List.foldl_cons, List.foldl_nil, List.getD_cons_zero, List.getD_cons_succ, List.getD_nil, cond_true, cond_false, Act.put, List.setIfInBounds_toArray, List.set_cons_zero, List.set_cons_succ] at hb
   subst hb
   rw [if_pos (by rfl)]
   go_wp2_with fail
   exact hK.out _ _ ⟨_, rfl, pu_op (i := 5) rfl hS, rfl, AllPX.same _⟩
  refine RelyStepsX.cons (RelyStepX.mk [5] [0, 1, 2, 3, 4, 8, 9, 10, 11, 12, 13, 14] rfl rfl rfl (fun xv Lv wS hS hL hLd hV bq hb K hK => ?_)) ?_
  ·obtain ⟨h5, _⟩ := hV
   have h5 : xv 5 = _ := h5
   simp only [putsOf, List.foldl_cons, List.foldl_nil, List.getD_cons_zero, List.getD_cons_succ, List.getD_nil, cond_true, cond_false, Act.put, List.setIfInBounds_toArray, List.set_cons_zero, List.set_cons_succ, h5] at hb
   clear h5
   subst hb
   rw [if_pos (by rfl)]
   go_wp2_with fail
   exact hK.out _ _ ⟨_, rfl, pu_op (i := 6) rfl hS, rfl, AllPX.same _⟩
  refine RelyStepsX.cons (RelyStepX.mk [6] [0, 1, 2, 3, 4, 9, 10, 11, 12, 13, 14] rfl rfl rfl (fun xv Lv wS hS hL hLd hV bq hb K hK => ?_)) ?_
  ·obtain ⟨h6, _⟩ := hV
   have h6 : xv 6 = _ := h6
   simp only [putsOf, List.foldl_cons, List.foldl_nil, List.getD_cons_zero, List.getD_cons_succ, List.getD_nil, cond_true, cond_false, Act.put, List.setIfInBounds_toArray, List.set_cons_zero, List.set_cons_succ, h6] at hb
   clear h6
   subst hb
   rw [if_pos (by rfl)]
   go_wp2_with fail
   exact hK.out _ _ ⟨_, rfl, pu_op (i := 7) rfl hS, rfl, AllPX.same _⟩
  refine RelyStepsX.cons (RelyStepX.mk [7] [0, 1, 2, 3, 4, 9, 11, 12, 13, 14] rfl rfl rfl (fun xv Lv wS hS hL hLd hV bq hb K hK => ?_)) ?_
  ·obtain ⟨h7, _⟩ := hV
   have h7 : xv 7 = _ := h7
   simp only [putsOf, List.foldl_cons, List.foldl_nil, List.getD_cons_zero, List.getD_cons_succ, List.getD_nil, cond_true, cond_false, Act.put, List.setIfInBounds_toArray, List.set_cons_zero, List.set_cons_succ, h7] at hb
   clear h7
   subst hb
   rw [if_pos (by rfl)]
   (have k1 := HH3.out.box.kept (pu_at hS hL (by decide)) (own_ne HOW.out HH3.out.box (by decide)); have c1 := (k1.cell 1).trans (show _ = some (Value.slice (some ⟨rt, 0, none⟩) p.ts.length cap) from rfl); rw [HPL.out] at c1; have c2 := k1.lt; clear k1)
   go_wp2_with fail
   exact hK.out _ _ ⟨_, rfl, pu_op (i := 8) rfl hS, rfl, AllPX.same _⟩
  refine RelyStepsX.cons (RelyStepX.mk [] [0, 1, 2, 3, 4, 5, 6, 7, 8, 11, 12, 13, 14] rfl rfl rfl (fun xv Lv wS hS hL hLd hV bq hb K hK => ?_)) ?_
  ·clear hV
   simp only [putsOf, List.foldl_cons, List.foldl_nil, List.getD_cons_zero, List.getD_cons_succ, List.getD_nil, cond_true, cond_false, Act.put, List.setIfInBounds_toArray, List.set_cons_zero, List.set_cons_succ] at hb
   subst hb
   rw [if_pos (by rfl)]
   go_wp2_with fail
   exact hK.out _ _ ⟨_, rfl, pu_op (i := 9) rfl hS, rfl, AllPX.same _⟩
  refine RelyStepsX.cons (RelyStepX.mk [8, 9] [0, 1, 2, 3, 4, 5, 12, 13, 14] rfl rfl rfl (fun xv Lv wS hS hL hLd hV bq hb K hK => ?_)) ?_
  ·obtain ⟨h8, h9, _⟩ := hV
   have h8 : xv 8 = _ := h8
   have h9 : xv 9 = _ := h9
   simp only [putsOf, List.foldl_cons, List.foldl_nil, List.getD_cons_zero, List.getD_cons_succ, List.getD_nil, cond_true, cond_false, Act.put, List.setIfInBounds_toArray, List.set_cons_zero, List.set_cons_succ, h8, h9] at hb
   clear h8
   clear h9
   subst hb
   rw [if_pos (by rfl)]
   go_wp2_with fail
   exact hK.out _ _ ⟨_, rfl, pu_op (i := 10) rfl hS, rfl, AllPX.same _⟩
  refine RelyStepsX.cons (RelyStepX.mk [10] [0, 1, 2, 3, 4, 5, 6, 12, 13] rfl rfl rfl (fun xv Lv wS hS hL hLd hV bq hb K hK => ?_)) ?_
  ·obtain ⟨h10, _⟩ := hV
   have h10 : xv 10 = _ := h10
   simp only [putsOf, List.foldl_cons, List.foldl_nil, List.getD_cons_zero, List.getD_cons_succ, List.getD_nil, cond_true, cond_false, Act.put, List.setIfInBounds_toArray, List.set_cons_zero, List.set_cons_succ, h10] at hb
   clear h10
   subst hb
   rw [if_pos (by rfl)]
   (have k1 := HLR.out.kept (pu_at hS hL (by decide)) (own_ne HOW.out HLR.out (by decide)); have c1 := (k1.cell T.length).trans HCU.out; have c2 := k1.lt; clear k1)
   go_wp2_with fail
   exact hK.out _ _ ⟨_, rfl, pu_op (i := 11) rfl hS, rfl, AllPX.same _⟩
  refine RelyStepsX.cons (RelyStepX.mk [] [0, 1, 2, 3, 4, 5, 6, 7, 8, 9, 10, 11, 14] rfl rfl rfl (fun xv Lv wS hS hL hLd hV bq hb K hK => ?_)) ?_
  ·clear hV
   simp only [putsOf, List.foldl_cons, List.foldl_nil, List.getD_cons_zero, List.getD_cons_succ, List.getD_nil, cond_true, cond_false, Act.put, List.setIfInBounds_toArray, List.set_cons_zero, List.set_cons_succ] at hb
   subst hb
   rw [if_pos (by rfl)]
   (have k1 := HX.out.kept (pu_at hS hL (by decide)) HNX.out; have c0 := (k1.cell 0).trans (show _ = some (Value.int .i64 x.op) from rfl); have c1 := (k1.cell 1).trans (show _ = some (Value.int .i64 x.a) from rfl); have c2 := (k1.cell 2).trans (show _ = some (Value.int .i64 x.b) from rfl); have c3 := (k1.cell 3).trans (show _ = some (Value.int .i64 x.c) from rfl); have c4 := (k1.cell 4).trans (show _ = some (Value.int .i64 x.d) from rfl); have c5 := (k1.cell 5).trans (show _ = some (Value.int .u64 (x.k : Int)) from rfl); have c6 := k1.lt; clear k1)
   go_wp2_with fail
   exact hK.out _ _ ⟨_, rfl, pu_op (i := 12) rfl hS, rfl, AllPX.same _⟩
  refine RelyStepsX.cons (RelyStepX.mk [12] [0, 1, 2, 3, 4, 5, 6, 7, 8, 9, 10, 11] rfl rfl rfl (fun xv Lv wS hS hL hLd hV bq hb K hK => ?_)) ?_
  ·obtain ⟨h12, _⟩ := hV
   have h12 : xv 12 = _ := h12
   simp only [putsOf, List.foldl_cons, List.foldl_nil, List.getD_cons_zero, List.getD_cons_succ, List.getD_nil, cond_true, cond_false, Act.put, List.setIfInBounds_toArray, List.set_cons_zero, List.set_cons_succ, h12] at hb
   clear h12
   subst hb
   rw [if_pos (by rfl)]
   have HSS := Lib.hid hS
   clear hS
   go_wp2_with fail
   have hb : Below wS.heap.size wS (wS.alloc (.cells (inC x) 28)) := (Below.refl _ _).alloc (Nat.le_refl _) _
   exact hK.out _ _ ⟨_, rfl, pu_more rfl HSS.out hb, ⟨wS.heap.size, rfl, Lies.made _ _ _⟩, AllPX.of _ (fun j _ _ h => bfV_below hb h)⟩
  refine RelyStepsX.cons (RelyStepX.mk [11, 13] [0, 1, 2, 3, 4, 5, 6, 7] rfl rfl rfl (fun xv Lv wS hS hL hLd hV bq hb K hK => ?_)) ?_
  ·obtain ⟨h11, h13, _⟩ := hV
   have h11 : xv 11 = _ := h11
   simp only [putsOf, List.foldl_cons, List.foldl_nil, List.getD_cons_zero, List.getD_cons_succ, List.getD_nil, cond_true, cond_false, Act.put, List.setIfInBounds_toArray, List.set_cons_zero, List.set_cons_succ, h11] at hb
   clear h11
   generalize hy13 : xv 13 = y13 at *
   subst hb
   rw [if_pos (by rfl)]
   have hb9 := pu_bel hS hL (by decide)
   have HSS := Lib.hid hS
   obtain ⟨G, rfl, hl9⟩ := h13
   clear hS
   refine step_list (ops := #[]) (by rfl) (append_argS wS 6 rfl (.tmp 101) (.tmp 103) 47 rfl BL 28 _ 48 Tryz.underlying47 infoInA rfl (by decide) u l.length (rowsOf inF l) rfl (owns_kept HOW.out (Kept.of_below hb9) (fun _ _ _ _ e => e)) (some ⟨G, 0, none⟩) 1 1 rfl (inF x) (seq_lies hl9 rfl (by decide)) (by intro u hu; simp [inF] at hu; rcases hu with rfl | rfl | rfl | rfl | rfl | rfl <;> rfl) (by unfold maxLen; omega) (by omega) (Nat.le_trans hle hb9.size) ?_)
   intro v' w' ho hb hgr
   have hk := Kept.of_grown hgr
   exact hK.out _ _ ⟨_, rfl, pu_app rfl HSS.out hk (by rw [rowsOf_append, rowsOf_one]; exact ho) (fun j hj => hLd j (by revert hj; revert j; decide +kernel)), trivial, AllPX.of _ (fun j hj _ h => bfV_lit (by rfl) hj h)⟩
  refine RelyStepsX.cons (RelyStepX.mk [3, 4] [14] rfl rfl rfl (fun xv Lv wS hS hL hLd hV bq hb K hK => ?_)) ?_
  ·obtain ⟨h3, h4, _⟩ := hV
   have h3 : xv 3 = _ := h3
   have h4 : xv 4 = _ := h4
   simp only [putsOf, List.foldl_cons, List.foldl_nil, List.getD_cons_zero, List.getD_cons_succ, List.getD_nil, cond_true, cond_false, Act.put, List.setIfInBounds_toArray, List.set_cons_zero, List.set_cons_succ, h3, h4] at hb
   clear h3
   clear h4
   subst hb
   rw [if_pos (by rfl)]
   go_wp2_with fail
   exact hK.out _ _ ⟨_, rfl, pu_op (i := 15) rfl hS, rfl, AllPX.same _⟩
  refine RelyStepsX.cons (RelyStepX.mk [15, 14] [14] rfl rfl rfl (fun xv Lv wS hS hL hLd hV bq hb K hK => ?_)) ?_
  ·obtain ⟨h15, h14, _⟩ := hV
   have h15 : xv 15 = _ := h15
   simp only [putsOf, List.foldl_cons, List.foldl_nil, List.getD_cons_zero, List.getD_cons_succ, List.getD_nil, cond_true, cond_false, Act.put, List.setIfInBounds_toArray, List.set_cons_zero, List.set_cons_succ, h15] at hb
   clear h15
   generalize hy14 : xv 14 = y14 at *
   subst hb
   rw [if_pos (by rfl)]
   obtain ⟨k1, ho⟩ := pu_st hS hL (hLd 14 (by decide +kernel))
   have hl3 := HLR.out.kept k1 (own_ne HOW.out HLR.out (by decide))
   have q1 := (hl3.cell T.length).trans HCU.out
   have f1 := hl3.free T.length
   have qt := hl3.lt
   rw [hy14] at ho
   obtain ⟨A8, c8, rfl, _, _, _⟩ := (SeqS.of_owns ho).form
   have HSS := Lib.hid hS
   clear hS ho k1 hl3
   go_wp2_with fail
   refine hK.out _ _ ⟨undef, rfl, ?_, trivial, AllPX.of _ (fun j hj _ h => bfV_lit (by rfl) hj h)⟩
   have := pu_store (v := undef) rfl HSS.out (fun j hj => hLd j (by revert hj; revert j; decide +kernel))
   rwa [hy14] at this
  exact RelyStepsX.nil
 case rE =>
  intro xv Lv wE hS hLall hV
  have h14 := hV 14 (by decide) (by decide)
  have h16 := hV 16 (by decide) (by decide)
  clear hV
  obtain ⟨q1, e1, k1, ho⟩ := pu_end hS (hLall 14 (by decide +kernel)) (hLall 16 (by decide +kernel))
  simp only [putsOf, List.foldl_cons, List.foldl_nil, List.getD_cons_zero, List.getD_cons_succ, List.getD_nil, cond_true, cond_false, Act.put, List.setIfInBounds_toArray, List.set_cons_zero, List.set_cons_succ]
  generalize xv 0 = y0 at *
  generalize xv 1 = y1 at *
  generalize xv 2 = y2 at *
  generalize xv 3 = y3 at *
  generalize xv 4 = y4 at *
  generalize xv 5 = y5 at *
  generalize xv 6 = y6 at *
  generalize xv 7 = y7 at *
  generalize xv 8 = y8 at *
  generalize xv 9 = y9 at *
  generalize xv 10 = y10 at *
  generalize xv 11 = y11 at *
  generalize xv 12 = y12 at *
  generalize xv 13 = y13 at *
  generalize xv 14 = y14 at *
  generalize xv 15 = y15 at *
  generalize xv 16 = y16 at *
  obtain ⟨hbd, hbw⟩ := HH3.out.instr HPP.out HU.out k1 ho
  rw [← e1] at hbd hbw
  obtain ⟨u2, rt2, cap2, hu2, hown2, hvt2, _, _, _, cur2, hlr2, hcu2⟩ := hbd.last_ rfl
  have hlv : T.length < vs.length := (List.getElem?_eq_some_iff.1 HU.out).1
  rw [List.getElem?_set_self hlv] at hu2
  cases hu2
  have hrt2 : rt = rt2 := by
   simp only [Value.slice.injEq, Option.some.injEq, Addr.mk.injEq] at hvt2
   exact hvt2.1.1
  subst hrt2
  obtain ⟨A8, c8, hy8, _, _, _⟩ := (SeqS.of_owns hown2).form
  rw [hy8] at hcu2
  rw [List.length_append, List.length_singleton] at hcu2
  have HH4 := Lib.hid hbd
  have HBL4 := Lib.hid (HBL3.out.trans hbw)
  have g1 := (hbd.box.cell 1).trans (show _ = some (Value.slice (some ⟨rt, 0, none⟩) p.ts.length cap) from rfl)
  rw [HPL.out] at g1
  have g2 := hbd.box.lt
  have g3 := (hlr2.cell T.length).trans hcu2
  have g4 := hlr2.lt
  clear hbd hbw e1 k1 ho hS HH3 HX HBL3 hLall hlr2 hcu2 hown2 hvt2 hy8 hlv c1 c2 hle HU HOW HLR HCU HNX HC1 HPP HPL
  by_cases h256 : l.length + 1 ≤ 256
  ·have e2 : decide ((l.length : Int) + 1 ≤ 256) = true := decide_eq_true (by omega)
   have e3 : decide (((l.length + 1 : Nat) : Int) ≤ 256) = true := decide_eq_true (by omega)
   have HE8 := Lib.hid (decide_eq_true h256)
   clear h256
   go_wp2_with fail
   go_ret
   exact ⟨_, _, _, _, by rw [HAR3.out, HE8.out]; rfl, by rw [HAR3.out]; exact HH4.out, HBL4.out⟩
  ·have e2 : decide ((l.length : Int) + 1 ≤ 256) = false := decide_eq_false (by omega)
   have e3 : decide (((l.length + 1 : Nat) : Int) ≤ 256) = false := decide_eq_false (by omega)
   have HE8 := Lib.hid (decide_eq_false h256)
   clear h256
   go_wp2_with fail
   go_ret
   exact ⟨_, _, _, _, by rw [HAR3.out, HE8.out]; rfl, by rw [HAR3.out]; exact HH4.out, HBL4.out⟩
noncomputable def rdZ : Pg → List (List UInt8) → List UInt8 → Nat → Pg × Nat
 | p, [], t, n => if t = [] then (p, 0) else (⟨[], []⟩, n)
 | p, b :: l, t, n => if (adL p b).2 = true then rdZ (adL p b).1 l t (n + 1) else (⟨[], []⟩, n)
theorem rdZ_nil : ∀ (l : List (List UInt8)) (p : Pg) (n : Nat), rdZ p l [] n = rdA p l n
 | [], p, n => if_pos rfl
 | b :: l, p, n => by
  show (if (adL p b).2 = true then rdZ (adL p b).1 l [] (n + 1) else _) = if (adL p b).2 = true then rdA (adL p b).1 l (n + 1) else _
  rw [rdZ_nil l]
theorem rdZ_go {p p' : Pg} {b : List UInt8} {l : List (List UInt8)} {t : List UInt8} {n : Nat} (h : (adL p b).2 = true) : rdZ p (b :: l) t n = rdZ (adL p b).1 l t (n + 1) := if_pos h
theorem rdZ_no {p : Pg} {b : List UInt8} {l : List (List UInt8)} {t : List UInt8} {n : Nat} (h : (adL p b).2 = false) : rdZ p (b :: l) t n = (⟨[], []⟩, n) := if_neg (by rw [h]; decide)
theorem rdZ_end {p : Pg} {n : Nat} : rdZ p [] [] n = (p, 0) := if_pos rfl
theorem rdZ_cut {p : Pg} {t : List UInt8} {n : Nat} (h : t ≠ []) : rdZ p [] t n = (⟨[], []⟩, n) := if_neg h
theorem adL_sound {p : Pg} {b : List UInt8} (hp : lsB p = true) (h : (adL p b).2 = true) : lsB (adL p b).1 = true := by
 obtain ⟨w0, rs, hw⟩ := wds_cons b
 rw [adL_eq hw] at h ⊢
 exact (ad_sound hp hw (Prod.ext rfl h)).1
theorem text_lines : ∀ bs : List UInt8, ∃ l t, bs = lnsT l ++ t ∧ (∀ b ∈ l, (10 : UInt8) ∉ b) ∧ (10 : UInt8) ∉ t
 | [] => ⟨[], [], rfl, (fun _ h => by cases h), by simp⟩
 | c :: bs => by
  obtain ⟨l, t, h1, h2, h3⟩ := text_lines bs
  by_cases hc : c = 10
  ·subst hc
   refine ⟨[] :: l, t, by rw [h1, lnsT_cons]; rfl, fun b hb => ?_, h3⟩
   rcases List.mem_cons.1 hb with rfl | hb
   ·simp
   ·exact h2 b hb
  ·cases l with
   | nil => exact ⟨[], c :: t, by rw [h1]; rfl, (fun _ h => by cases h), by simp [Ne.symm hc, h3]⟩
   | cons a l =>
    refine ⟨(c :: a) :: l, t, by rw [h1, lnsT_cons, lnsT_cons]; rfl, fun b hb => ?_, h3⟩
    rcases List.mem_cons.1 hb with rfl | hb
    ·simp [Ne.symm hc, h2 a List.mem_cons_self]
    ·exact h2 b (List.mem_cons_of_mem _ hb)
theorem lnsT_ge (l : List (List UInt8)) : l.length ≤ (lnsT l).length := by
 induction l with
 | nil => exact Nat.zero_le _
 | cons a l ih =>
  rw [lnsT_cons, List.length_append, List.length_cons, List.length_cons]; omega
section
variable {B BL N0 : Nat} {w w' : World} {vs : List Value} {g : Nat} {vr vt : Value} {p : Pg} {cs : Array Value}
theorem BdAt.put (h : BdAt B w g vr vt vs BL p) (hl : Lies w N0 25 cs) (hne : N0 ≠ g) (i : Nat) (u : Value) : BdAt B (w.setCell ⟨N0, i, none⟩ u) g vr vt vs BL p :=
 ⟨h.box.far (p := ⟨N0, i, none⟩) (fun e => hne e.symm) u, h.hg, owns_put h.rr hl (by decide) i u, owns_put h.tr hl (by decide) i u,
  h.th.kept (Kept.put w N0 i u) (fun r cur h1 (e : r = N0) => by subst e; exact absurd (h1.same hl).1 (by decide)), h.le.1, Nat.le_trans h.le.2 (Kept.put w N0 i u).size⟩
theorem pg_nothing (w : World) : PgAt w none 0 none 0 ⟨[], []⟩ :=
 ⟨SeqS.of_owns (World.ownsRow_nil w 0 51 3), [], SeqS.of_owns (World.ownsRow_nil w 0 47 1), fun i l hl => by cases hl⟩
end
abbrev pgZ : Array Value := #[.slice none 0 0, .slice none 0 0]
abbrev st2 (w : World) (b : Nat) (a0 a1 : Value) : World := (w.setCell ⟨b, 0, none⟩ a0).setCell ⟨b, 1, none⟩ a1
theorem st2_lies {w : World} {b : Nat} {T : TypeId} {z0 z1 a0 a1 : Value} (h : Lies w b T #[z0, z1]) : Lies (st2 w b a0 a1) b T #[a0, a1] := (h.put 0 a0).put 1 a1
theorem st2_kept (w : World) (b : Nat) (a0 a1 : Value) : Kept (oneRow b) w (st2 w b a0 a1) := (Kept.put w b 0 a0).trans (Kept.put _ b 1 a1) (fun _ _ h => h)
def RdPost (r : Pg × Nat) (w : World) (e : Ending) (w' : World) : Prop := ∃ A c Q d, e = .returned (.tuple #[.agg (pgC A c Q d r.1), .int .i64 (r.2 : Int), .int .i64 (if r.2 = 0 then 0 else 3)]) ∧ PgAt w' A c Q d r.1 ∧ Below w.heap.size w w'
def RfPost (r : Pg × Nat) (w : World) (e : Ending) (w' : World) : Prop := ∃ A c Q d, e = .returned (.tuple #[.agg (pgC A c Q d r.1), .int .i64 (r.2 : Int)]) ∧ PgAt w' A c Q d r.1 ∧ Below w.heap.size w w'
set_option maxHeartbeats 16000000 in
set_option maxRecDepth 100000 in
theorem read10 (l0 : List (List UInt8)) (t : List UInt8) (m : Int) (w : World) (hl : ∀ b ∈ l0, (10 : UInt8) ∉ b) (ht : (10 : UInt8) ∉ t) (hlen : (lnsT l0 ++ t).length ≤ 9000000)
  (hm : w.cell? ⟨1, 0, none⟩ = some (.int .i64 m)) (hn : NamesAt w) (hE : ErrAt w) (hp : PowAt w) :
  Calls Tryz.prog 18 #[.string (textB (lnsT l0 ++ t))] w (RdPost (rdZ ⟨[], []⟩ l0 t 1) w) := by
 have hb0 : Below w.heap.size w ((w.alloc (.cells pgZ 25)).alloc (.cells pgZ 25)) := ((Below.refl _ _).alloc (Nat.le_refl _) _).alloc (by simp) _
 have l1 := Lies.made (w.alloc (.cells pgZ 25)) 25 pgZ
 rw [World.size_alloc] at l1
 have HL1 := Lib.hid ((Lies.made w 25 pgZ).alloc (.cells pgZ 25))
 have HD1 := Lib.hid (BdAt.empty (B := w.heap.size + 1) l1 (Nat.le_refl _) (by simp))
 have HB1 := Lib.hid hb0
 have HN := Lib.hid hn
 have HE := Lib.hid hE
 have HP := Lib.hid hp
 have HG := Lib.hid hn.lt
 have HM := Lib.hid hm
 have HML := Lib.hid (World.block_lt_of_cell? _ _ hm)
 have HT := Lib.hid ht
 have HLL := Lib.hid hl
 have hll := lnsT_ge l0
 rw [List.length_append] at hlen
 obtain ⟨R, hR⟩ : ∃ R, R = rdZ ⟨[], []⟩ l0 t 1 := ⟨_, rfl⟩
 have HR0 := Lib.hid hR.symm
 rw [← hR]
 clear hb0 l1 hn hE hp hm ht hl hR
 go_enter Tryz.func18, Tryz.ntmps18
 go_upto_region 2 with (fail)
 generalize (w.alloc (.cells pgZ 25)).alloc (.cells pgZ 25) = w1 at *
 go_wp2_with fail
 go_loopw [0, 6] (fun s u wr => ∃ (lr : List (List UInt8)) (n : Nat) (p : Pg) (vr vt : Value) (vs : List Value) (BL : Nat), s = .string (textB (lnsT lr ++ t)) ∧ u = .int .i64 n ∧ n + lr.length ≤ 9000002 ∧ 0 < n ∧ (lnsT lr).length + t.length ≤ 9000000 ∧ Hid (∀ b ∈ lr, (10 : UInt8) ∉ b) ∧ Hid (rdZ p lr t n = R) ∧ Hid (lsB p = true) ∧ Hid (BdAt (w.heap.size + 1) wr (w.heap.size + 1) vr vt vs BL p) ∧ Hid (Lies wr w.heap.size 25 pgZ) ∧ Hid (Below w.heap.size w wr)) (fun _ u _ => 9000003 - (intOf u).toNat)
 case atStart => exact ⟨l0, 1, ⟨[], []⟩, .slice none 0 0, .slice none 0 0, [], _, rfl, rfl, by omega, by omega, hlen, HLL, HR0, rfl, HD1, HL1, HB1⟩
 case round =>
  clear HD1 HL1 HB1 HLL HR0
  obtain ⟨lr, n, p, vr, vt, vs, BL, rfl, rfl, hnl, hn0, hsz, HLL, HR, HLS, HD, HL, HB⟩ := hrel
  have HMW := Lib.hid (cell_later HM.out HB.out)
  cases lr with
  | nil =>
   by_cases ht0 : t = []
   ·subst ht0
    rw [show (lnsT [] ++ [] : List UInt8) = [] from rfl]
    have e0 := text_empty
    obtain ⟨T0, hT0⟩ : ∃ T, T = textB [] := ⟨_, rfl⟩
    rw [← hT0] at e0 ⊢
    clear hT0
    obtain ⟨A, c, Q, d, rfl, rfl, hpg⟩ := HD.out.pg
    have c0 := (HD.out.box.cell 0).trans (show _ = some (Value.slice A p.rs.length c) from rfl)
    have c1 := (HD.out.box.cell 1).trans (show _ = some (Value.slice Q p.ts.length d) from rfl)
    have c2 := HD.out.box.lt
    have HRR : Hid (R = (p, 0)) := HR.out.symm.trans rdZ_end
    clear hpg HR
    have zlt := HL.out.lt
    have zf0 := HL.out.free 0
    have zf1 := HL.out.free 1
    have zc0 := (HL.out.cell 0).trans (show _ = some (Value.slice none 0 0) from rfl)
    have zc1 := (HL.out.cell 1).trans (show _ = some (Value.slice none 0 0) from rfl)
    go_wp2_with fail
    have HBZ := Lib.hid (HB.out.trans ((st2_kept wr w.heap.size (.slice A p.rs.length c) (.slice Q p.ts.length d)).below HB.out.size (fun j hj (e : j = w.heap.size) => by omega)))
    have HRZ := Lib.hid (st2_lies (a0 := (.slice A p.rs.length c)) (a1 := (.slice Q p.ts.length d)) HL.out)
    have q0 := (HRZ.out.cell 0).trans (show _ = some ((.slice A p.rs.length c)) from rfl)
    have q1 := (HRZ.out.cell 1).trans (show _ = some ((.slice Q p.ts.length d)) from rfl)
    refine bodyPost_ret (v := .tuple #[.agg (pgC A c Q d p), (.int .i64 0), (.int .i64 0)]) (by simp [results, Tryz.results18, go_sem, q0, q1]) rfl ?_
    rw [HRR.out]
    obtain ⟨A2, c2, Q2, d2, e1, e2, hpg⟩ := ((HD.out.put HL.out (by omega) 0 (.slice A p.rs.length c)).put (HL.out.put 0 (.slice A p.rs.length c)) (by omega) 1 (.slice Q p.ts.length d)).pg
    cases e1
    cases e2
    exact ⟨A, c, Q, d, rfl, hpg, HBZ.out⟩
   ·rw [show (lnsT [] ++ t : List UInt8) = t from rfl]
    have e0 := text_nonempty ht0
    have HC := Lib.hid (cut10no t m wr HT.out (by omega) HMW.out)
    have HRR : Hid (R = (⟨[], []⟩, n)) := HR.out.symm.trans (rdZ_cut ht0)
    obtain ⟨T0, hT0⟩ : ∃ T, T = textB t := ⟨_, rfl⟩
    rw [← hT0] at e0 HC ⊢
    clear hT0 ht0 HR
    go_wp2_with fail
    refine HC.out.mono ?_
    rintro e w2 ⟨rfl, nd, rfl⟩
    have HL2 := Lib.hid (HL.out.drewN nd)
    have HB2 := Lib.hid (below_drewN HB.out nd)
    clear HC HMW HD HL HB e0
    generalize wr.drewN nd = w2 at *
    have HL := HL2
    have HB := HB2
    have zlt := HL.out.lt
    have zf0 := HL.out.free 0
    have zf1 := HL.out.free 1
    have zc0 := (HL.out.cell 0).trans (show _ = some (Value.slice none 0 0) from rfl)
    have zc1 := (HL.out.cell 1).trans (show _ = some (Value.slice none 0 0) from rfl)
    go_wp2_with fail
    have HBZ := Lib.hid (HB.out.trans ((st2_kept w2 w.heap.size (.slice none 0 0) (.slice none 0 0)).below HB.out.size (fun j hj (e : j = w.heap.size) => by omega)))
    have HRZ := Lib.hid (st2_lies (a0 := (.slice none 0 0)) (a1 := (.slice none 0 0)) HL.out)
    have q0 := (HRZ.out.cell 0).trans (show _ = some ((.slice none 0 0)) from rfl)
    have q1 := (HRZ.out.cell 1).trans (show _ = some ((.slice none 0 0)) from rfl)
    refine bodyPost_ret (v := .tuple #[.agg pgZ, (.int .i64 (n : Int)), (.int .i64 3)]) (by simp [results, Tryz.results18, go_sem, q0, q1]) rfl ?_
    rw [HRR.out]
    exact ⟨none, 0, none, 0, by rw [if_neg (by simp only; omega)]; rfl, pg_nothing _, HBZ.out⟩
  | cons b lr =>
   have hx : lnsT (b :: lr) ++ t = b ++ 10 :: (lnsT lr ++ t) := by rw [lnsT_cons, List.append_assoc, List.cons_append]
   rw [hx]
   have hxl := congrArg List.length hx
   rw [List.length_append, List.length_append, List.length_cons, List.length_append] at hxl
   rw [List.length_cons] at hnl
   have e0 := text_nonempty (bs := b ++ 10 :: (lnsT lr ++ t)) (by simp)
   have HC := Lib.hid (cut10 b (lnsT lr ++ t) m wr (HLL.out b List.mem_cons_self) (by rw [List.length_append, List.length_cons, List.length_append]; omega) HMW.out)
   have HLL2 : Hid (∀ b ∈ lr, (10 : UInt8) ∉ b) := fun b hb => HLL.out b (List.mem_cons_of_mem _ hb)
   obtain ⟨T0, hT0⟩ : ∃ T, T = textB (b ++ 10 :: (lnsT lr ++ t)) := ⟨_, rfl⟩
   rw [← hT0] at e0 HC ⊢
   clear hT0 hx
   go_wp2_with fail
   refine HC.out.mono ?_
   rintro e w2 ⟨rfl, nd, rfl⟩
   have hd := below_drewN (Below.refl wr.heap.size wr) nd
   have HB2 := Lib.hid (HB.out.trans (hd.mono HB.out.size))
   have HAD := Lib.hid (add10 b p (w.heap.size + 1) (w.heap.size + 1) vr vt vs BL m (wr.drewN nd) (HD.out.later hd) HLS.out (by omega) (cell_later HMW.out hd) (HN.out.later HB2.out HG.out) (HE.out.later HB2.out) (HP.out.later HB2.out))
   have HL2 := Lib.hid (HL.out.drewN nd)
   have HS := Lib.hid (adL_sound (b := b) HLS.out)
   have HR2 : Hid ((if (adL p b).2 = true then rdZ (adL p b).1 lr t (n + 1) else (⟨[], []⟩, n)) = R) := HR.out
   clear HC HMW HD HL HB e0 hd HLL HR HLS
   generalize wr.drewN nd = w2 at *
   obtain ⟨Y, hY⟩ : ∃ Y, Y = adL p b := ⟨_, rfl⟩
   rw [← hY] at HAD HS HR2
   clear hY
   obtain ⟨p2, ok⟩ := Y
   go_wp2_with fail
   refine HAD.out.mono ?_
   rintro e w3 ⟨vr2, vt2, vs2, BL2, rfl, hbd, hbw⟩
   have HL3 := Lib.hid (HL2.out.below hbw (by omega))
   have HB3 := Lib.hid (HB2.out.trans (hbw.mono (by omega)))
   have HD3 := Lib.hid hbd
   clear HAD HL2 HB2 hbd hbw
   dsimp only at *
   cases ok
   ·have HRR : Hid (R = (⟨[], []⟩, n)) := HR2.out.symm
    have HL := HL3
    have HB := HB3
    clear HR2 HS
    have zlt := HL.out.lt
    have zf0 := HL.out.free 0
    have zf1 := HL.out.free 1
    have zc0 := (HL.out.cell 0).trans (show _ = some (Value.slice none 0 0) from rfl)
    have zc1 := (HL.out.cell 1).trans (show _ = some (Value.slice none 0 0) from rfl)
    go_wp2_with fail
    have HBZ := Lib.hid (HB.out.trans ((st2_kept w3 w.heap.size (.slice none 0 0) (.slice none 0 0)).below HB.out.size (fun j hj (e : j = w.heap.size) => by omega)))
    have HRZ := Lib.hid (st2_lies (a0 := (.slice none 0 0)) (a1 := (.slice none 0 0)) HL.out)
    have q0 := (HRZ.out.cell 0).trans (show _ = some ((.slice none 0 0)) from rfl)
    have q1 := (HRZ.out.cell 1).trans (show _ = some ((.slice none 0 0)) from rfl)
    refine bodyPost_ret (v := .tuple #[.agg pgZ, (.int .i64 (n : Int)), (.int .i64 3)]) (by simp [results, Tryz.results18, go_sem, q0, q1]) rfl ?_
    rw [HRR.out]
    exact ⟨none, 0, none, 0, by rw [if_neg (by simp only; omega)]; rfl, pg_nothing _, HBZ.out⟩
   ·have HR3 : Hid (rdZ p2 lr t (n + 1) = R) := HR2.out
    have HS3 : Hid (lsB p2 = true) := HS.out rfl
    clear HR2 HS
    go_wp2
    go_roundw
    case rel => exact ⟨lr, n + 1, p2, vr2, vt2, vs2, BL2, rfl, by go_num, by omega, by omega, by omega, HLL2, HR3, HS3, HD3, HL3, HB3⟩
    case measure => simp [intOf]; omega
theorem ret_text9 {a b : ByteArray} (h : b = a) : Ending.returned (.string a) = .returned (.string b) := by rw [h]
theorem pow20 {n : Nat} (h : n < 18446744073709551616) : n < 10 ^ (19 + 1) := Nat.lt_trans h (by decide)
theorem digit_small {m : Nat} (h : m < 10) : ((UInt8.ofNat (48 + m)).toNat : Int) = 48 + (m : Int) := by
 rw [UInt8.toNat_ofNat', Nat.mod_eq_of_lt (by omega)]; omega
theorem decF_small {f m : Nat} (h : m < 10) : decF f m = [UInt8.ofNat (48 + m)] := by
 cases f with
 | zero => rw [decF, Nat.mod_eq_of_lt h]
 | succ f => rw [decF, if_pos h]
theorem lit_text (w : World) (b : UInt8) (z : Int) (hz : (b.toNat : Int) = z) : (convert 74 9 (.slice (some ⟨w.heap.size, 0, none⟩) 1 1)).run Tryz.prog (w.alloc (.cells #[.int .u8 z] 5)) = .ok (.string (textB [b])) (w.alloc (.cells #[.int .u8 z] 5)) := by
 subst hz
 have h := World.ownsRow_lit (base := w.heap.size) (e := 5) (size := 1) w #[.int .u8 (b.toNat : Int)] 1 (Nat.le_refl _) (by unfold maxLen; omega) (by simp)
 exact convert_owned _ w.heap.size _ [b] 1 rfl h
set_option maxHeartbeats 4000000 in
theorem rfNumber (n : Nat) (w : World) (h64 : n < 18446744073709551616) : Calls Tryz.prog 32 #[.int .u64 (n : Int)] w fun e w' => e = .returned (.string (textB (decE n))) ∧ Below w.heap.size w w' := by
 have HB := Lib.hid (Below.refl w.heap.size w)
 go_enter Tryz.func32, Tryz.ntmps32
 go_wp2_with fail
 go_loopw [0, 3] (fun u v wr => ∃ (f m : Nat) (o : List UInt8), f ≤ 19 ∧ m < 10 ^ (f + 1) ∧ Hid (m < 18446744073709551616) ∧ o.length + f ≤ 19 ∧ u = .int .u64 (m : Int) ∧ v = .string (textB o) ∧ Hid (decE n = decF f m ++ o) ∧ Hid (Below w.heap.size w wr)) (fun u _ _ => (intOf u).toNat)
 case atStart => exact ⟨19, n, [], by omega, pow20 h64, h64, by simp, rfl, rfl, (by show decE n = _; rw [List.append_nil]; rfl), HB⟩
 case round =>
  clear HB h64
  obtain ⟨f, m, o, hf, hm, H64, ho, rfl, rfl, HD, HB⟩ := hrel
  by_cases h10 : m < 10
  ·have hm9 : (m : Int) ≤ 9 := by omega
   have e1 : decide ((9 : Int) < (m : Int)) = false := decide_eq_false (by omega)
   have e2 : decide (9 < m) = false := decide_eq_false (by omega)
   have hd := digit_small h10
   have hx : decE n = UInt8.ofNat (48 + m) :: o := by
    rw [HD.out, decF_small h10]; rfl
   generalize UInt8.ofNat (48 + m) = bt at *
   have HX := Lib.hid hx
   clear hx
   have hcv := lit_text wr bt (48 + (m : Int)) hd
   have HB2 := Lib.hid (HB.out.alloc HB.out.size (.cells #[.int .u8 (48 + (m : Int))] 5))
   have htx : textB [bt] ++ textB o = textB (bt :: o) := text_append _ _
   have hw1 : IntKind.u8.wrap (48 + (m : Int)) = 48 + (m : Int) := by rw [IntKind.wrap_u8]; omega
   have hsz : (textB [bt]).size + (textB o).size ≤ 9223372036854775807 := by rw [textB_size, textB_size]; simp; omega
   have hsz9 : ¬ 9223372036854775807 < (textB [bt]).size + (textB o).size := by omega
   clear hsz
   clear HD HB hd hm
   go_wp2
   go_ret
   exact ⟨ret_text9 (by first | (rw [HX.out]; done) | (rw [HX.out]; exact htx)), HB2.out⟩
  ·cases f with
   | zero => exact absurd (show m < 10 from by simpa using hm) h10
   | succ f =>
   have hmi : ¬ (m : Int) < 10 := by omega
   have e1 : decide ((9 : Int) < (m : Int)) = true := decide_eq_true (by omega)
   have hs1 : (m : Int) ≤ 18446744073709551615 := by have := H64.out; omega
   have hd := digit_val m
   have hx : decE n = decF f (m / 10) ++ (UInt8.ofNat (48 + m % 10) :: o) := by
    rw [HD.out, decF, if_neg h10, List.append_assoc]; rfl
   generalize UInt8.ofNat (48 + m % 10) = bt at *
   have HX := Lib.hid hx
   clear hx
   have hcv := lit_text wr bt (48 + (m : Int) % 10) hd
   have HB2 := Lib.hid (HB.out.alloc HB.out.size (.cells #[.int .u8 (48 + (m : Int) % 10)] 5))
   have htx : textB [bt] ++ textB o = textB (bt :: o) := text_append _ _
   have hw1 : IntKind.u8.wrap (48 + (m : Int) % 10) = 48 + (m : Int) % 10 := by rw [IntKind.wrap_u8]; omega
   have hdv : (m : Int) / 10 = ((m / 10 : Nat) : Int) := by omega
   have H64' : Hid (m / 10 < 18446744073709551616) := by have := H64.out; show _ < _; omega
   have hm' : m / 10 < 10 ^ (f + 1) := by rw [Nat.pow_succ] at hm; omega
   have hlt : m / 10 < m := by omega
   have hsz : (textB [bt]).size + (textB o).size ≤ 9223372036854775807 := by rw [textB_size, textB_size]; simp; omega
   have hsz9 : ¬ 9223372036854775807 < (textB [bt]).size + (textB o).size := by omega
   clear hsz
   clear HD HB hd hm H64
   generalize hS : (m : Int) = S at *
   go_wp2
   go_roundw
   case rel => exact ⟨f, m / 10, bt :: o, by omega, hm', H64', by simp; omega, (by first | rfl | rw [hdv]), (by first | rfl | rw [htx]), HX, HB2⟩
   case measure => simp [intOf]; omega
set_option maxHeartbeats 8000000 in
set_option maxRecDepth 100000 in
theorem rfRingIn (r : Ri) (w : World) (hc : 0 ≤ r.c ∧ r.c ≤ 255) (hr : 0 ≤ r.r ∧ r.r ≤ 255) : Calls Tryz.prog 34 #[.agg (riC r)] w fun e w' => e = .returned (.string (lnrT r)) ∧ Below w.heap.size w w' := by
 have HB := Lib.hid ((Below.refl w.heap.size w).alloc (Nat.le_refl _) (.cells (riC r) 51))
 have HL := Lib.hid (Lies.made w 51 (riC r))
 have HNO := Lib.hid (lnrT_n hc hr)
 obtain ⟨k, c, rd⟩ := r
 simp only at hc hr
 obtain ⟨n, rfl⟩ : ∃ n : Nat, c = (n : Int) := ⟨c.toNat, by omega⟩
 obtain ⟨m, rfl⟩ : ∃ m : Nat, rd = (m : Int) := ⟨rd.toNat, by omega⟩
 have u1 : IntKind.u64.wrap (n : Int) = (n : Int) := by rw [IntKind.wrap_u64]; omega
 have u2 : IntKind.u64.wrap (m : Int) = (m : Int) := by rw [IntKind.wrap_u64]; omega
 have r1 : decide ((n : Int) > 255) = false := decide_eq_false (by omega)
 have r2 : decide (255 < (n : Int)) = false := decide_eq_false (by omega)
 have r3 : decide ((m : Int) > 255) = false := decide_eq_false (by omega)
 have r4 : decide (255 < (m : Int)) = false := decide_eq_false (by omega)
 by_cases h1 : k = 1 ∧ (m : Int) = 1
 ·obtain ⟨rfl, hm⟩ := h1
  obtain rfl : m = 1 := by omega
  obtain ⟨e1, e2⟩ := lnrT_q (n := n) (by omega)
  have HOK := Lib.hid e1
  have hnl := @decE_len n
  obtain ⟨T, hT⟩ : ∃ T, T = textB (decE n) := ⟨_, rfl⟩
  have HI := Lib.hid (rfNumber n (w.alloc (.cells (riC ⟨1, (n : Int), ((1 : Nat) : Int)⟩) 51)) (by omega))
  have hts : T.size ≤ 20 := by rw [hT, textB_size]; exact hnl
  rw [← hT] at HI e2
  have HE := Lib.hid e2
  clear hT hnl e1 e2 HNO
  have z1 : ¬ 9223372036854775807 < 6 + T.size := by omega
  go_enter Tryz.func34, Tryz.ntmps34
  go_wp2_with fail
  refine HI.out.mono ?_
  rintro e w2 ⟨rfl, hb2⟩
  have HB2 := Lib.hid (HB.out.trans (hb2.mono HB.out.size))
  clear hb2
  go_wp2
  go_ret
  exact ⟨by rw [show lnrT ⟨1, (n : Int), ((1 : Nat) : Int)⟩ = _ from HE.out]; rfl, HB2.out⟩
 by_cases h2 : k = 2
 ·subst h2
  obtain ⟨e1, e2⟩ := lnrT_c (n := n) (m := m) (by omega) (by omega)
  have HOK := Lib.hid e1
  have hnl := @decE_len n
  have hml := @decE_len m
  obtain ⟨T, hT⟩ : ∃ T, T = textB (decE n) := ⟨_, rfl⟩
  obtain ⟨U, hU⟩ : ∃ U, U = textB (decE m) := ⟨_, rfl⟩
  have hts : T.size ≤ 20 := by rw [hT, textB_size]; exact hnl
  have hus : U.size ≤ 20 := by rw [hU, textB_size]; exact hml
  have HI := Lib.hid (fun (q : World) => rfNumber n q (by omega))
  have HJ := Lib.hid (fun (q : World) => rfNumber m q (by omega))
  rw [← hT] at HI e2
  rw [← hU] at HJ e2
  have HE := Lib.hid e2
  clear hT hnl e1 e2 HNO hU hml h1
  have z1 : ¬ 9223372036854775807 < 5 + T.size := by omega
  have z2 : ¬ 9223372036854775807 < 5 + T.size + 1 := by omega
  have z3 : ¬ 9223372036854775807 < 5 + T.size + 1 + U.size := by omega
  go_enter Tryz.func34, Tryz.ntmps34
  go_wp2_with fail
  generalize w.alloc (.cells _ 51) = w1 at *
  refine wp_region_held_drew (S := fun y => Lies y w.heap.size 51 (riC ⟨2, (n : Int), (m : Int)⟩) ∧ Below w.heap.size w y) (by kernel_rfl) ⟨HL.out.drew, below_drewN HB.out 1⟩ (fun hHeld => ?_)
  clear HL HB
  try simp only [Act.put, List.setIfInBounds_toArray, List.set_cons_zero, List.set_cons_succ]
  refine wpAnyH_take (i := 0) (v := (.pointer (some ⟨w.heap.size, 1, none⟩))) rfl (by kernel_rfl) (by kernel_rfl) (by kernel_rfl) (fun _ _ _ h => h) (Or.inl ⟨by rfl, fun w h => by (simp only [List.getElem_toArray, List.getElem_cons_succ, List.getElem_cons_zero]; clear h; go_simp)⟩) (by assumption) ?_
  simp only [Act.put, List.getElem_toArray, List.getElem_cons_succ, List.getElem_cons_zero, List.setIfInBounds_toArray, List.set_cons_zero, List.set_cons_succ]
  refine wpAnyH_take (i := 1) (v := (.int .i64 (n : Int))) rfl (by kernel_rfl) (by kernel_rfl) (by kernel_rfl) (fun _ _ _ h => h) (Or.inl ⟨by rfl, fun w h => by (simp only [List.getElem_toArray, List.getElem_cons_succ, List.getElem_cons_zero]; have h1 := h.1.cell 1; simp at h1; clear h; go_simp)⟩) (by assumption) ?_
  simp only [Act.put, List.getElem_toArray, List.getElem_cons_succ, List.getElem_cons_zero, List.setIfInBounds_toArray, List.set_cons_zero, List.set_cons_succ]
  refine wpAnyH_take (i := 2) (v := (.int .u64 (n : Int))) rfl (by kernel_rfl) (by kernel_rfl) (by kernel_rfl) (fun _ _ _ h => h) (Or.inl ⟨by rfl, fun w h => by (simp only [List.getElem_toArray, List.getElem_cons_succ, List.getElem_cons_zero]; clear h; go_simp)⟩) (by assumption) ?_
  simp only [Act.put, List.getElem_toArray, List.getElem_cons_succ, List.getElem_cons_zero, List.setIfInBounds_toArray, List.set_cons_zero, List.set_cons_succ]
  refine wpAnyH_take (i := 6) (v := (.pointer (some ⟨w.heap.size, 2, none⟩))) rfl (by kernel_rfl) (by kernel_rfl) (by kernel_rfl) (fun _ _ _ h => h) (Or.inl ⟨by rfl, fun w h => by (simp only [List.getElem_toArray, List.getElem_cons_succ, List.getElem_cons_zero]; clear h; go_simp)⟩) (by assumption) ?_
  simp only [Act.put, List.getElem_toArray, List.getElem_cons_succ, List.getElem_cons_zero, List.setIfInBounds_toArray, List.set_cons_zero, List.set_cons_succ]
  refine wpAnyH_take (i := 7) (v := (.int .i64 (m : Int))) rfl (by kernel_rfl) (by kernel_rfl) (by kernel_rfl) (fun _ _ _ h => h) (Or.inl ⟨by rfl, fun w h => by (simp only [List.getElem_toArray, List.getElem_cons_succ, List.getElem_cons_zero]; have h1 := h.1.cell 2; simp at h1; clear h; go_simp)⟩) (by assumption) ?_
  simp only [Act.put, List.getElem_toArray, List.getElem_cons_succ, List.getElem_cons_zero, List.setIfInBounds_toArray, List.set_cons_zero, List.set_cons_succ]
  refine wpAnyH_take (i := 8) (v := (.int .u64 (m : Int))) rfl (by kernel_rfl) (by kernel_rfl) (by kernel_rfl) (fun _ _ _ h => h) (Or.inl ⟨by rfl, fun w h => by (simp only [List.getElem_toArray, List.getElem_cons_succ, List.getElem_cons_zero]; clear h; go_simp)⟩) (by assumption) ?_
  simp only [Act.put, List.getElem_toArray, List.getElem_cons_succ, List.getElem_cons_zero, List.setIfInBounds_toArray, List.set_cons_zero, List.set_cons_succ]
  refine wpAnyH_ready (rs := [3]) (by kernel_rfl) (by simp) ?_
  refine AllReadyH.cons rfl (fun K hK => ?_) AllReadyH.nil
  rw [if_pos (by rfl)]
  go_wp2_with fail
  refine (HI.out _).mono ?_
  rintro e q ⟨rfl, hb⟩
  dsimp only
  refine hK.out _ _ ⟨hHeld.1.below hb hHeld.1.lt, hHeld.2.trans (hb.mono hHeld.2.size)⟩ (fun hHeld1 => ?_)
  clear hK K hHeld hb
  have hHeld := hHeld1
  clear hHeld1
  try simp only [Act.put, List.setIfInBounds_toArray, List.set_cons_zero, List.set_cons_succ]
  refine wpAnyH_take (i := 4) (v := (.string (⟨#[99, 97, 115, 116, 32]⟩ ++ T))) rfl (by kernel_rfl) (by kernel_rfl) (by kernel_rfl) (fun _ _ _ h => h) (Or.inl ⟨by rfl, fun w h => by (simp only [List.getElem_toArray, List.getElem_cons_succ, List.getElem_cons_zero]; clear h; go_simp)⟩) (by assumption) ?_
  simp only [Act.put, List.getElem_toArray, List.getElem_cons_succ, List.getElem_cons_zero, List.setIfInBounds_toArray, List.set_cons_zero, List.set_cons_succ]
  refine wpAnyH_take (i := 5) (v := (.string (⟨#[99, 97, 115, 116, 32]⟩ ++ T ++ ⟨#[32]⟩))) rfl (by kernel_rfl) (by kernel_rfl) (by kernel_rfl) (fun _ _ _ h => h) (Or.inl ⟨by rfl, fun w h => by (simp only [List.getElem_toArray, List.getElem_cons_succ, List.getElem_cons_zero]; clear h; go_simp)⟩) (by assumption) ?_
  simp only [Act.put, List.getElem_toArray, List.getElem_cons_succ, List.getElem_cons_zero, List.setIfInBounds_toArray, List.set_cons_zero, List.set_cons_succ]
  refine wpAnyH_ready (rs := [9]) (by kernel_rfl) (by simp) ?_
  refine AllReadyH.cons rfl (fun K hK => ?_) AllReadyH.nil
  rw [if_pos (by rfl)]
  go_wp2_with fail
  refine (HJ.out _).mono ?_
  rintro e q ⟨rfl, hb⟩
  dsimp only
  refine hK.out _ _ ⟨hHeld.1.below hb hHeld.1.lt, hHeld.2.trans (hb.mono hHeld.2.size)⟩ (fun hHeld1 => ?_)
  clear hK K hHeld hb
  have hHeld := hHeld1
  clear hHeld1
  try simp only [Act.put, List.setIfInBounds_toArray, List.set_cons_zero, List.set_cons_succ]
  refine wpAnyH_take (i := 10) (v := (.string (⟨#[99, 97, 115, 116, 32]⟩ ++ T ++ ⟨#[32]⟩ ++ U))) rfl (by kernel_rfl) (by kernel_rfl) (by kernel_rfl) (fun _ _ _ h => h) (Or.inl ⟨by rfl, fun w h => by (simp only [List.getElem_toArray, List.getElem_cons_succ, List.getElem_cons_zero]; clear h; go_simp)⟩) (by assumption) ?_
  simp only [Act.put, List.getElem_toArray, List.getElem_cons_succ, List.getElem_cons_zero, List.setIfInBounds_toArray, List.set_cons_zero, List.set_cons_succ]
  refine wpAnyH_take (i := 11) (v := (.string (⟨#[99, 97, 115, 116, 32]⟩ ++ T ++ ⟨#[32]⟩ ++ U))) rfl (by kernel_rfl) (by kernel_rfl) (by kernel_rfl) (fun _ _ _ h => h) (Or.inl ⟨by rfl, fun w h => by (simp only [List.getElem_toArray, List.getElem_cons_succ, List.getElem_cons_zero]; clear h; go_simp)⟩) (by assumption) ?_
  simp only [Act.put, List.getElem_toArray, List.getElem_cons_succ, List.getElem_cons_zero, List.setIfInBounds_toArray, List.set_cons_zero, List.set_cons_succ]
  refine wpAnyH_done (by kernel_rfl) ?_ _
  go_wp2
  go_ret
  exact ⟨by rw [HE.out]; rfl, hHeld.2⟩
 ·have HX := Lib.hid (HNO.out h1 h2)
  clear HNO
  by_cases h3 : k = 1
  ·subst h3
   have g1 : ((m : Int) == 1) = false := by rw [beq_eq_false_iff_ne]; exact fun h => h1 ⟨rfl, h⟩
   go_enter Tryz.func34, Tryz.ntmps34
   go_wp2
   go_ret
   exact ⟨by rw [HX.out.2]; rfl, HB.out⟩
  ·have g1 : (k == 1) = false := by rw [beq_eq_false_iff_ne]; exact h3
   have g2 : (k == 2) = false := by rw [beq_eq_false_iff_ne]; exact h2
   go_enter Tryz.func34, Tryz.ntmps34
   go_wp2
   go_ret
   exact ⟨by rw [HX.out.2]; rfl, HB.out⟩
set_option maxHeartbeats 8000000 in
theorem rfRing10 (r : Ri) (w : World) : Calls Tryz.prog 34 #[.agg (riC r)] w fun e w' => e = .returned (.string (lnrT r)) ∧ Below w.heap.size w w' := by
 by_cases h : (0 ≤ r.c ∧ r.c ≤ 255) ∧ (0 ≤ r.r ∧ r.r ≤ 255)
 ·exact rfRingIn r w h.1 h.2
 have HB := Lib.hid ((Below.refl w.heap.size w).alloc (Nat.le_refl _) (.cells (riC r) 51))
 have hno : rilOk r = false := by
  cases hb : rilOk r with
  | false => rfl
  | true =>
   unfold rilOk at hb
   simp only [Bool.and_eq_true, decide_eq_true_eq] at hb
   exact absurd ⟨⟨hb.1.1, hb.1.2.1⟩, hb.1.2.2⟩ h
 have HE : Hid (lnrT r = ⟨#[]⟩) := by show _ = _; unfold lnrT; rw [hno, if_neg (by decide)]
 obtain ⟨k, c, rd⟩ := r
 simp only at h
 clear hno
 by_cases h1 : c < 0
 ·have g1 : decide (c < 0) = true := decide_eq_true h1
  go_enter Tryz.func34, Tryz.ntmps34
  go_wp2
  go_ret
  exact ⟨by rw [HE.out]; rfl, HB.out⟩
 have g1 : decide (c < 0) = false := decide_eq_false h1
 by_cases h2 : 255 < c
 ·have g2 : decide (c > 255) = true := decide_eq_true h2
  have g3 : decide (255 < c) = true := decide_eq_true h2
  go_enter Tryz.func34, Tryz.ntmps34
  go_wp2
  go_ret
  exact ⟨by rw [HE.out]; rfl, HB.out⟩
 have g2 : decide (c > 255) = false := decide_eq_false h2
 have g3 : decide (255 < c) = false := decide_eq_false h2
 by_cases h3 : rd < 0
 ·have g4 : decide (rd < 0) = true := decide_eq_true h3
  go_enter Tryz.func34, Tryz.ntmps34
  go_wp2
  go_ret
  exact ⟨by rw [HE.out]; rfl, HB.out⟩
 have g4 : decide (rd < 0) = false := decide_eq_false h3
 have g5 : decide (rd > 255) = true := decide_eq_true (by omega)
 have g6 : decide (255 < rd) = true := decide_eq_true (by omega)
 go_enter Tryz.func34, Tryz.ntmps34
 go_wp2
 go_ret
 exact ⟨by rw [HE.out]; rfl, HB.out⟩
end Go.Proofs.YtcpgneimagmknaaGreatDoor
