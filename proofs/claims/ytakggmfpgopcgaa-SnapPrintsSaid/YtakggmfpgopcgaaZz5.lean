import Derived.Test.YtakggmfpgopcgaaZz4
namespace Go.Proofs.Ytakggmfpgopcgaa
open Go.RowKit
set_option linter.unusedVariables false
set_option linter.unusedSimpArgs false
def stC1 (w : World) (g R g3 : Nat) (s : ByteArray) (v : Value) (p : Nat × Bool) (q : World) : Prop := BxAt w g R g3 s 26 stZ2 (stC v (.slice none 0 0) 0 0 false) p.1 p.2 q
def stC2 (w : World) (g R g3 : Nat) (s : ByteArray) (tv : Value) (l : List Th) (v : Value) (p : Nat × Bool) (q : World) : Prop := BxAt w g R g3 s 26 stZ2 (stC tv v 0 0 false) p.1 p.2 q ∧ OwT q w.heap.size tv l
section
variable {w q q' : World} {g R g3 k i B : Nat} {s : ByteArray} {tv vt v u : Value} {l : List Th} {m : List Rs} {p p2 : Nat × Bool} {pos : Nat → Nat × Bool} {pre : List (List Nat)} {x : Nat → Value} {L : Nat → Bool} {y : Th} {z : Rs}
theorem owT_later (hb : Below q.heap.size q q') (h : OwT q B v l) : OwT q' B v l := owT_kept h (Kept.of_below hb) (fun _ _ _ _ _ hf => hf)
theorem owR_later (hb : Below q.heap.size q q') (h : OwR q B v m) : OwR q' B v m := owR_kept h (Kept.of_below hb) (fun _ _ _ _ _ hf => hf)
theorem src_no {f : Bool} (hs : SrcAt q g R s i f) {r : Nat} {e : TypeId} {c : Array Value} (hl : Lies q r e c) (h1 : e ≠ 78) (h2 : e ≠ 94) : ¬ srcR g R r := by
 rintro (rfl | rfl)
 ·exact h1 (hl.same hs.1).1
 ·exact h2 (hl.same hs.2.1).1
theorem owT_src {f : Bool} (h : OwT q B v l) (hs : SrcAt q g R s i f) (k : Kept (srcR g R) q q') : OwT q' B v l :=
 owT_kept h k (fun r e c hl he => src_no hs hl (by rcases he with rfl | rfl <;> decide) (by rcases he with rfl | rfl <;> decide))
theorem owR_src {f : Bool} (h : OwR q B v m) (hs : SrcAt q g R s i f) (k : Kept (srcR g R) q q') : OwR q' B v m :=
 owR_kept h k (fun r e c hl he => src_no hs hl (by rcases he with rfl | rfl | rfl <;> decide) (by rcases he with rfl | rfl | rfl <;> decide))
theorem owT_box {c : Array Value} (h : OwT q B v l) (hl : Lies q g3 26 c) (k : Kept (oneRow g3) q q') : OwT q' B v l :=
 owT_kept h k (fun r e c2 h2 he (e3 : r = g3) => by subst e3; rcases he with rfl | rfl <;> exact absurd (h2.same hl).1 (by decide))
theorem owR_box {c : Array Value} (h : OwR q B v m) (hl : Lies q g3 26 c) (k : Kept (oneRow g3) q q') : OwR q' B v m :=
 owR_kept h k (fun r e c2 h2 he (e3 : r = g3) => by subst e3; rcases he with rfl | rfl | rfl <;> exact absurd (h2.same hl).1 (by decide))
theorem stC2_later (hb : Below q.heap.size q q') (h : stC2 w g R g3 s tv l v p q) : stC2 w g R g3 s tv l v p q' := ⟨h.1.later hb, owT_later hb h.2⟩
theorem st1_pha : Pha [3, 5, 7] (apP 1 5 (stC1 w g R g3 s) (fun q => OwT q w.heap.size vt l) (fun v q => OwT q w.heap.size v (l ++ [y])) vt pos) :=
 apP_pha rfl (fun _ _ _ _ hb h => BxAt.later h hb) (fun _ _ hb h => owT_later hb h) (fun _ _ _ hb h => owT_later hb h)
theorem st1_op (hi : [3, 5, 7].contains i = false) (h : PhS [3, 5, 7] pre (apP 1 5 (stC1 w g R g3 s) (fun q => OwT q w.heap.size vt l) (fun v q => OwT q w.heap.size v (l ++ [y])) vt pos) x L q) :
  PhS [3, 5, 7] pre (apP 1 5 (stC1 w g R g3 s) (fun q => OwT q w.heap.size vt l) (fun v q => OwT q w.heap.size v (l ++ [y])) vt pos) (updX x i v) (updL L i) q := ph_op st1_pha hi h
theorem st2_pha : Pha [3, 5, 7] (apP 1 5 (stC2 w g R g3 s tv l) (fun q => OwR q w.heap.size vt m) (fun v q => OwR q w.heap.size v (m ++ [z])) vt pos) :=
 apP_pha rfl (fun _ _ _ _ hb h => stC2_later hb h) (fun _ _ hb h => owR_later hb h) (fun _ _ _ hb h => owR_later hb h)
theorem st2_op (hi : [3, 5, 7].contains i = false) (h : PhS [3, 5, 7] pre (apP 1 5 (stC2 w g R g3 s tv l) (fun q => OwR q w.heap.size vt m) (fun v q => OwR q w.heap.size v (m ++ [z])) vt pos) x L q) :
  PhS [3, 5, 7] pre (apP 1 5 (stC2 w g R g3 s tv l) (fun q => OwR q w.heap.size vt m) (fun v q => OwR q w.heap.size v (m ++ [z])) vt pos) (updX x i v) (updL L i) q := ph_op st2_pha hi h
theorem owT_app {ps : List (Th × Value)} (h1 : ps.map (·.1) = l) (h2 : q.ownsRow B 40 14 vt l.length (rowsOf thP ps)) (h3 : ∀ p ∈ ps, OwL q B 24 1 p.1.sn.length (cells64 p.1.sn) p.2) (k : Kept (fun k => vt.ownBlock = some k) q q')
  (ho : q'.ownsRow B 40 14 v (l.length + 1) (rowsOf thP ps ++ thP (y, u))) (hu : OwL q B 24 1 y.sn.length (cells64 y.sn) u) : OwT q' B v (l ++ [y]) := by
 have no : ∀ r c, Lies q r 24 c → ¬ vt.ownBlock = some r := fun r c hl e => absurd (own_same2 h2 hl e) (by decide)
 refine ⟨ps ++ [(y, u)], by rw [List.map_append, h1]; rfl, ?_, fun p hp => ?_⟩
 ·rw [rowsOf_append, rowsOf_one, List.length_append]; exact ho
 ·rcases List.mem_append.1 hp with hp | hp
  ·exact (h3 p hp).kept k no
  ·rw [List.mem_singleton.1 hp]; exact hu.kept k no
theorem owR_app {qs : List (Rs × Value × Value)} {u2 : Value} (h1 : qs.map (·.1) = m) (h2 : q.ownsRow B 54 4 vt m.length (rowsOf rgP qs)) (h3 : ∀ r ∈ qs, OwL q B 24 1 r.1.hs.length (cells64 r.1.hs) r.2.1 ∧ OwL q B 64 3 r.1.sl.length (rowsOf slF r.1.sl) r.2.2) (k : Kept (fun k => vt.ownBlock = some k) q q')
  (ho : q'.ownsRow B 54 4 v (m.length + 1) (rowsOf rgP qs ++ rgP (z, u, u2))) (hu : OwL q B 24 1 z.hs.length (cells64 z.hs) u) (hw : OwL q B 64 3 z.sl.length (rowsOf slF z.sl) u2) : OwR q' B v (m ++ [z]) := by
 have no : ∀ r t c, Lies q r t c → t ≠ 54 → ¬ vt.ownBlock = some r := fun r t c hl hn e => hn (own_same2 h2 hl e)
 refine ⟨qs ++ [(z, u, u2)], by rw [List.map_append, h1]; rfl, ?_, fun p hp => ?_⟩
 ·rw [rowsOf_append, rowsOf_one, List.length_append]; exact ho
 ·rcases List.mem_append.1 hp with hp | hp
  ·exact ⟨(h3 p hp).1.kept k (fun r c hl => no r _ c hl (by decide)), (h3 p hp).2.kept k (fun r c hl => no r _ c hl (by decide))⟩
  ·rw [List.mem_singleton.1 hp]; exact ⟨hu.kept k (fun r c hl => no r _ c hl (by decide)), hw.kept k (fun r c hl => no r _ c hl (by decide))⟩
theorem stBx_app {T : TypeId} {sz n : Nat} {e : TypeId} {z cs : Array Value} {ys : List Value} {f : Bool} (h : BxAt w g R g3 s T z cs i f q) (h2 : q.ownsRow w.heap.size e sz vt n ys) (k : Kept (fun k => vt.ownBlock = some k) q q') (he : e ≠ T ∧ e ≠ 78 ∧ e ≠ 94) : BxAt w g R g3 s T z cs i f q' :=
 h.grown k (fun r e => (own_lies2 h2 e).1) (fun r t c hl ht e3 => by
  have := own_same2 h2 hl e3
  rcases ht with rfl | rfl | rfl
  ·exact he.1 this.symm
  ·exact he.2.1 this.symm
  ·exact he.2.2 this.symm)
end
set_option maxHeartbeats 8000000 in
set_option maxRecDepth 100000 in
theorem srcState (g R : Nat) (s : ByteArray) (i : Nat) (f : Bool) (w : World) (h : SrcAt w g R s i f) (hs : s.size ≤ 1099511627776) : Calls Try.prog 30 #[.pointer (some ⟨g, 0, none⟩)] w fun e w' =>
  ∃ tv rv, e = .returned (.agg (stC tv rv (rdSt s i f).1.now (rdSt s i f).1.rds (rdSt s i f).1.en)) ∧ OwT w' w.heap.size tv (rdSt s i f).1.th ∧ OwR w' w.heap.size rv (rdSt s i f).1.rg ∧ SrcAt w' g R s (rdSt s i f).2.1 (rdSt s i f).2.2 ∧ Kept (srcR g R) w w' := by
 obtain ⟨zc, ec⟩ : ∃ z, rdS 8 s i f = z := ⟨_, rfl⟩
 obtain ⟨zt, et⟩ : ∃ z, repR rdT zc.1 s zc.2.1 zc.2.2 = z := ⟨_, rfl⟩
 obtain ⟨zd, ed⟩ : ∃ z, rdS 8 s zt.2.1 zt.2.2 = z := ⟨_, rfl⟩
 obtain ⟨zr, er⟩ : ∃ z, repR rdR zd.1 s zd.2.1 zd.2.2 = z := ⟨_, rfl⟩
 obtain ⟨z3, e3⟩ : ∃ z, rdN s zr.2.1 zr.2.2 = z := ⟨_, rfl⟩
 obtain ⟨z4, e4⟩ : ∃ z, rdN s z3.2.1 z3.2.2 = z := ⟨_, rfl⟩
 obtain ⟨z5, e5⟩ : ∃ z, rdB s z4.2.1 z4.2.2 = z := ⟨_, rfl⟩
 have hzc : zc.1 ≤ 8 := by rw [← ec]; exact rdS_le _ _ _ _
 have hzd : zd.1 ≤ 8 := by rw [← ed]; exact rdS_le _ _ _ _
 have HT : Hid (rdSt s i f = (⟨zt.1, zr.1, z3.1, z4.1, z5.1⟩, z5.2)) := by
  show rdSt s i f = _
  unfold rdSt
  simp only [mapR_eq, andR_eq, rowR_eq, ec, et, ed, er, e3, e4, e5]
 have hb0 : Below w.heap.size w ((w.alloc (.cells stZ2 26)).alloc (.cells stZ2 26)) := ((Below.refl _ _).alloc (Nat.le_refl _) _).alloc (by simp) _
 have l0 := (Lies.made w 26 stZ2).alloc (.cells stZ2 26)
 have l1 := Lies.made (w.alloc (.cells stZ2 26)) 26 stZ2
 rw [World.size_alloc] at l1
 have hn0 : ((w.alloc (.cells stZ2 26)).alloc (.cells stZ2 26)).heap.size = w.heap.size + 1 + 1 := by rw [World.size_alloc, World.size_alloc]
 have HI : Hid (stC1 w g R (w.heap.size + 1) s (.slice none 0 0) (i, f) ((w.alloc (.cells stZ2 26)).alloc (.cells stZ2 26))) :=
  ⟨(Kept.of_below hb0).mono (fun _ _ hf => hf.elim), h.kept (Kept.of_below hb0) (fun hf => hf) (fun hf => hf), l0, l1, by omega, by decide, by decide⟩
 obtain ⟨g3, hg3⟩ : ∃ n, w.heap.size + 1 = n := ⟨_, rfl⟩
 rw [hg3] at HI
 have HC := Lib.hid (srcSm 8 8 rfl g R s i f _ HI.out.src (by decide))
 rw [ec] at HC
 clear h hb0 l0 l1 ec
 go_enter Try.func30, Try.ntmps30
 go_wp2_with fail
 generalize (w.alloc (.cells stZ2 26)).alloc (.cells stZ2 26) = w0 at *
 refine HC.out.mono ?_
 rintro e w5 ⟨rfl, h5, k5⟩
 have HI5 : Hid (stC1 w g R g3 s (.slice none 0 0) zc.2 w5) := HI.out.src1 k5 h5
 clear HC HI h5 k5 hn0
 go_wp2_with fail
 go_loopw [6] (fun u wr => ∃ k : Nat, k ≤ zc.1 ∧ u = .int .i64 k ∧ Hid (∃ vt, stC1 w g R g3 s vt (repR rdT k s zc.2.1 zc.2.2).2 wr ∧ OwT wr w.heap.size vt (repR rdT k s zc.2.1 zc.2.2).1)) (fun u _ => zc.1 - (intOf u).toNat)
 case atStart => exact ⟨0, by omega, rfl, _, HI5.out, owT_nil⟩
 case round =>
  clear HI5
  obtain ⟨k, hk, rfl, HJ⟩ := hrel
  by_cases hlt : k < zc.1
  ·have hki : (k : Int) < (zc.1 : Int) := by omega
   have HLN : Hid ((repR rdT k s zc.2.1 zc.2.2).1.length = k) := repR_length rdT k s zc.2.1 zc.2.2
   have HSU := Lib.hid (repR_succ rdT k s zc.2.1 zc.2.2)
   generalize repR rdT k s zc.2.1 zc.2.2 = zk at *
   obtain ⟨a, ea⟩ : ∃ z, rdT s zk.2.1 zk.2.2 = z := ⟨_, rfl⟩
   rw [ea] at HSU
   obtain ⟨vt, hc, ps, hr1, hr2, hr3⟩ := HJ.out
   rw [HLN.out] at hr2
   obtain ⟨At, ct, rfl, hct⟩ := own_form2 hr2
   have HRC := Lib.hid hc
   have HRR : Hid (OwT wr w.heap.size (.slice At k ct) zk.1) := ⟨ps, hr1, by rw [HLN.out]; exact hr2, hr3⟩
   clear HJ hc hr1 hr2 hr3
   go_wp2_with fail
   refine wp_region_relyx (PhS [3, 5, 7] [[], [], [0, 1, 2, 3, 4, 5, 6]] (apP 1 5 (stC1 w g R g3 s) (fun q => OwT q w.heap.size (.slice At k ct) zk.1) (fun v q => OwT q w.heap.size v (zk.1 ++ [a.1])) (.slice At k ct) (fun m => if m = 0 then zk.2 else a.2))) (bfV [.eq (.pointer (some ⟨g3, 0, none⟩)), .eq (.slice At k ct), .eq (.pointer (some ⟨g, 0, none⟩)), .of (fun v q => ∃ u, v = Value.agg (thC a.1 u) ∧ OwL q w.heap.size 24 1 a.1.sn.length (cells64 a.1.sn) u) (fun _ _ _ hb ⟨u, h1, h2⟩ => ⟨u, h1, h2.kept (Kept.of_below hb) (fun _ _ _ hf => hf)⟩), .of (fun v q => ∃ b u, v = Value.slice (some ⟨b, 0, none⟩) 1 1 ∧ Lies q b 40 (thP (a.1, u)).toArray ∧ OwL q w.heap.size 24 1 a.1.sn.length (cells64 a.1.sn) u) (fun _ _ _ hb ⟨b, u, h1, h2, h3⟩ => ⟨b, u, h1, h2.below hb h2.lt, h3.kept (Kept.of_below hb) (fun _ _ _ hf => hf)⟩), .any, .eq (.pointer (some ⟨g3, 0, none⟩)), .any]) [some 8, some 9, some 10, some 11, some 12, some 13, some 14, none] [[], [0], [], [2], [3], [1, 4], [], [6, 5]] [[], [0], [], [2], [2, 3], [0, 1, 2, 3, 4], [0, 1, 2, 3, 4], [0, 1, 2, 3, 4, 6]] [[2, 3, 4, 5], [2, 3, 4], [0, 1, 4, 5], [0, 1], [0, 1], [], [5], [5]] [0, 1, 2, 3, 4, 5, 6, 7] 8 (by kernel_rfl) (by kernel_rfl) (by kernel_rfl) (by kernel_rfl) ?rS (fun j h1 h2 => absurd (Nat.lt_of_lt_of_le h1 (Nat.le_trans (by decide) h2)) (Nat.lt_irrefl _)) ?rT ?rE
   case rS => exact ph_start (apP_mk (by decide) ⟨BxAt.later HRC.out (below_drewN (Below.refl _ _) 1), owT_later (below_drewN (Below.refl _ _) 1) HRR.out⟩)
   case rT =>
    refine RelyStepsX.cons (RelyStepX.mk [] [2, 3, 4, 5] rfl rfl rfl (fun xv Lv wS hS hL hLd hV bq hb K hK => ?_)) ?_
    ·clear hV
     simp only [putsOf, List.foldl_cons, List.foldl_nil, List.getD_cons_zero, List.getD_cons_succ, List.getD_nil, cond_true, cond_false, Act.put, List.setIfInBounds_toArray, List.set_cons_zero, List.set_cons_succ] at hb
     subst hb
     rw [if_pos (by rfl)]
     go_wp2_with fail
     exact hK.out _ _ ⟨_, rfl, st1_op (i := 0) rfl hS, rfl, AllPX.same _⟩
    refine RelyStepsX.cons (RelyStepX.mk [0] [2, 3, 4] rfl rfl rfl (fun xv Lv wS hS hL hLd hV bq hb K hK => ?_)) ?_
    ·obtain ⟨h0, _⟩ := hV
     have h0 : xv 0 = _ := h0
     simp only [putsOf, List.foldl_cons, List.foldl_nil, List.getD_cons_zero, List.getD_cons_succ, List.getD_nil, cond_true, cond_false, Act.put, List.setIfInBounds_toArray, List.set_cons_zero, List.set_cons_succ, h0] at hb
     clear h0
     subst hb
     rw [if_pos (by rfl)]
     (obtain ⟨m9, hm9, hp9⟩ := ph_before (K := 2) rfl hS hL; obtain ⟨p9, hc9⟩ := apP_vt hm9 hp9; have c1 := (hc9.box.cell 0).trans (show _ = some (Value.slice At k ct) from rfl); have c2 := hc9.box.lt; clear hp9 hc9)
     go_wp2_with fail
     exact hK.out _ _ ⟨_, rfl, st1_op (i := 1) rfl hS, rfl, AllPX.same _⟩
    refine RelyStepsX.cons (RelyStepX.mk [] [0, 1, 4, 5] rfl rfl rfl (fun xv Lv wS hS hL hLd hV bq hb K hK => ?_)) ?_
    ·clear hV
     simp only [putsOf, List.foldl_cons, List.foldl_nil, List.getD_cons_zero, List.getD_cons_succ, List.getD_nil, cond_true, cond_false, Act.put, List.setIfInBounds_toArray, List.set_cons_zero, List.set_cons_succ] at hb
     subst hb
     rw [if_pos (by rfl)]
     go_wp2_with fail
     exact hK.out _ _ ⟨_, rfl, st1_op (i := 2) rfl hS, rfl, AllPX.same _⟩
    refine RelyStepsX.cons (RelyStepX.mk [2] [0, 1] rfl rfl rfl (fun xv Lv wS hS hL hLd hV bq hb K hK => ?_)) ?_
    ·obtain ⟨h2, _⟩ := hV
     have h2 : xv 2 = _ := h2
     simp only [putsOf, List.foldl_cons, List.foldl_nil, List.getD_cons_zero, List.getD_cons_succ, List.getD_nil, cond_true, cond_false, Act.put, List.setIfInBounds_toArray, List.set_cons_zero, List.set_cons_succ, h2] at hb
     clear h2
     subst hb
     rw [if_pos (by rfl)]
     have hp : stC1 w g R g3 s (.slice At k ct) zk.2 wS ∧ OwT wS w.heap.size (.slice At k ct) zk.1 := apP_low (by decide) (ph_get (m := 0) (j0 := 0) hS (by decide) hL (.inl rfl))
     have HP := Lib.hid hp
     have HSS := Lib.hid hS
     have HCN := Lib.hid (srcThread g R s _ _ wS hp.1.src hs)
     rw [ea] at HCN
     clear hS hp
     go_wp2_with fail
     refine HCN.out.mono ?_
     rintro e w7 ⟨u, rfl, hu, h7, k7⟩
     exact hK.out _ _ ⟨_, rfl, ph_put (by decide) HSS.out (m := 0) (by decide) rfl hL 0 (.inl rfl) (fun j hj => by cases hj) (apP_mk (by decide) ⟨HP.out.1.src1 (i2 := a.2.1) (f2 := a.2.2) k7 h7, owT_src HP.out.2 HP.out.1.src k7⟩), ⟨u, rfl, hu.mono HP.out.1.kp.size⟩, AllPX.of _ (fun j hj _ h => by
      by_cases e : j = 4
      ·subst e; obtain ⟨b, u2, h1, h2, A3, c3, e3, h3⟩ := h; exact ⟨b, u2, h1, lies_kept_src h2 HP.out.1.src k7 (by decide) (by decide), A3, c3, e3, own_kept_src h3 HP.out.1.src k7 (by decide) (by decide)⟩
      ·exact bfV_but 4 (by rfl) hj e h)⟩
    refine RelyStepsX.cons (RelyStepX.mk [3] [0, 1] rfl rfl rfl (fun xv Lv wS hS hL hLd hV bq hb K hK => ?_)) ?_
    ·obtain ⟨h3, _⟩ := hV
     simp only [putsOf, List.foldl_cons, List.foldl_nil, List.getD_cons_zero, List.getD_cons_succ, List.getD_nil, cond_true, cond_false, Act.put, List.setIfInBounds_toArray, List.set_cons_zero, List.set_cons_succ] at hb
     generalize hy3 : xv 3 = y3 at *
     subst hb
     rw [if_pos (by rfl)]
     have HSS := Lib.hid hS
     obtain ⟨u, rfl, hu⟩ := h3
     have HU := Lib.hid hu
     clear hS hu
     refine step_list (ops := #[]) (by rfl) (wpList_lit1_known rfl _ 40 _ rfl (thP (a.1, u)) 14 _ _ rfl Try.underlying22 infoThT2 (by decide) (by decide) (thP_length _) ?_)
     have hb : Below wS.heap.size wS (wS.alloc (.cells (thP (a.1, u)).toArray 40)) := (Below.refl _ _).alloc (Nat.le_refl _) _
     exact hK.out _ _ ⟨_, rfl, ph_more st1_pha rfl HSS.out hb, ⟨wS.heap.size, u, rfl, Lies.made _ _ _, HU.out.kept (Kept.of_below hb) (fun _ _ _ hf => hf)⟩, AllPX.of _ (fun j _ _ h => bfV_below hb h)⟩
    refine RelyStepsX.cons (RelyStepX.mk [1, 4] [] rfl rfl rfl (fun xv Lv wS hS hL hLd hV bq hb K hK => ?_)) ?_
    ·obtain ⟨h1, h4, _⟩ := hV
     have h1 : xv 1 = _ := h1
     simp only [putsOf, List.foldl_cons, List.foldl_nil, List.getD_cons_zero, List.getD_cons_succ, List.getD_nil, cond_true, cond_false, Act.put, List.setIfInBounds_toArray, List.set_cons_zero, List.set_cons_succ, h1] at hb
     clear h1
     generalize hy4 : xv 4 = y4 at *
     subst hb
     rw [if_pos (by rfl)]
     have hp : stC1 w g R g3 s (.slice At k ct) a.2 wS ∧ OwT wS w.heap.size (.slice At k ct) zk.1 := apP_low (by decide) (ph_get (m := 1) (j0 := 0) hS (by decide) hL (.inr ⟨rfl, hLd 3 (by decide +kernel)⟩))
     have HSS := Lib.hid hS
     obtain ⟨b9, u9, rfl, hl9, hu9⟩ := h4
     obtain ⟨hp1, ps, hq1, hq2, hq3⟩ := hp
     have hq4 := hq2
     rw [HLN.out] at hq4
     clear hS
     refine step_list (ops := #[]) (by rfl) (append_argS wS 14 rfl (.tmp 9) (.tmp 12) 22 rfl w.heap.size 40 _ 128 Try.underlying22 infoThT2 rfl (by decide) (.slice At k ct) k (rowsOf thP ps) rfl hq4 (some ⟨b9, 0, none⟩) 1 1 rfl (thP (a.1, u9)) (seq_one2 hl9 (thP_length _)) (thP_one2 _ hu9.one) (by unfold maxLen; omega) (by omega) hp1.kp.size ?_)
     intro v' w' ho hb hgr
     have hk := Kept.of_grown hgr
     refine hK.out _ _ ⟨_, rfl, ph_put (by decide) HSS.out (m := 1) (by decide) rfl hL 0 (.inr ⟨rfl, hLd 3 (by decide +kernel)⟩) (fun j hj => by cases hj) (apP_mkApp ⟨stBx_app hp1 hq4 hk (by decide), ?_⟩), trivial, AllPX.of _ (fun j hj _ h => bfV_lit (by rfl) hj h)⟩
     rw [pupdX_self]; exact owT_app hq1 hq2 hq3 hk (by rw [HLN.out]; exact ho) hu9
    refine RelyStepsX.cons (RelyStepX.mk [] [5] rfl rfl rfl (fun xv Lv wS hS hL hLd hV bq hb K hK => ?_)) ?_
    ·clear hV
     simp only [putsOf, List.foldl_cons, List.foldl_nil, List.getD_cons_zero, List.getD_cons_succ, List.getD_nil, cond_true, cond_false, Act.put, List.setIfInBounds_toArray, List.set_cons_zero, List.set_cons_succ] at hb
     subst hb
     rw [if_pos (by rfl)]
     go_wp2_with fail
     exact hK.out _ _ ⟨_, rfl, st1_op (i := 6) rfl hS, rfl, AllPX.same _⟩
    refine RelyStepsX.cons (RelyStepX.mk [6, 5] [5] rfl rfl rfl (fun xv Lv wS hS hL hLd hV bq hb K hK => ?_)) ?_
    ·obtain ⟨h6, h5, _⟩ := hV
     have h6 : xv 6 = _ := h6
     simp only [putsOf, List.foldl_cons, List.foldl_nil, List.getD_cons_zero, List.getD_cons_succ, List.getD_nil, cond_true, cond_false, Act.put, List.setIfInBounds_toArray, List.set_cons_zero, List.set_cons_succ, h6] at hb
     clear h6
     generalize hy5 : xv 5 = y5 at *
     subst hb
     rw [if_pos (by rfl)]
     have hp := apP_app (ph_get (m := 2) (j0 := 1) hS (by decide) hL (.inr ⟨rfl, hLd 5 (by decide +kernel)⟩))
     rw [hy5] at hp
     have HP := Lib.hid hp
     have HSS := Lib.hid hS
     obtain ⟨A8, c8, e8, _⟩ := (owT_read hp.2).form
     obtain ⟨n8, hn8⟩ : ∃ n, (zk.1 ++ [a.1]).length = n := ⟨_, rfl⟩
     rw [hn8] at e8
     clear hn8
     have q1 := (hp.1.box.cell 0).trans (show _ = some (Value.slice At k ct) from rfl)
     have f1 := hp.1.box.free 0
     have qt := hp.1.box.lt
     subst e8
     clear hS hp
     go_wp2_with fail
     refine hK.out _ _ ⟨undef, rfl, ph_put (by decide) HSS.out (m := 2) (by decide) rfl hL 1 (.inr ⟨rfl, hLd 5 (by decide +kernel)⟩) (fun j hj => hLd j (by revert hj; revert j; decide +kernel)) (apP_mkEnd ?_), trivial, AllPX.of _ (fun j hj _ h => bfV_lit (by rfl) hj h)⟩
     rw [pupdX_ne (by decide), hy5]
     exact ⟨HP.out.1.put 0 _, owT_box HP.out.2 HP.out.1.box (Kept.put _ _ _ _)⟩
    exact RelyStepsX.nil
   case rE =>
    intro xv Lv wE hS hLall hV
    have h5 := hV 5 (by decide) (by decide)
    have h7 := hV 7 (by decide) (by decide)
    clear hV
    have hp := apP_end (ph_end hS 2 rfl (hLall 7 (by decide +kernel)))
    simp only [putsOf, List.foldl_cons, List.foldl_nil, List.getD_cons_zero, List.getD_cons_succ, List.getD_nil, cond_true, cond_false, Act.put, List.setIfInBounds_toArray, List.set_cons_zero, List.set_cons_succ]
    generalize xv 0 = y0 at *
    generalize xv 1 = y1 at *
    generalize xv 2 = y2 at *
    generalize xv 3 = y3 at *
    generalize xv 4 = y4 at *
    generalize xv 5 = y5 at *
    generalize xv 6 = y6 at *
    generalize xv 7 = y7 at *
    have HN : Hid (stC1 w g R g3 s y5 a.2 wE ∧ OwT wE w.heap.size y5 (zk.1 ++ [a.1])) := hp
    have HQ : Hid (repR rdT (k + 1) s zc.2.1 zc.2.2 = (zk.1 ++ [a.1], a.2)) := HSU.out
    clear hS hp h5 h7 hLall HSU HRC HRR
    generalize wE = w9 at *
    go_wp2_with fail
    go_roundw
    case rel =>
     refine ⟨k + 1, by omega, by go_num, y5, ?_⟩
     rw [HQ.out]; exact HN.out
    case measure => simp [intOf]; omega
  ·obtain rfl : k = zc.1 := by omega
   rw [et] at HJ
   obtain ⟨tv, hc, ht⟩ := HJ.out
   obtain ⟨Av, cv, rfl, _⟩ := (owT_read ht).form
   have HC := Lib.hid (srcSm 8 8 rfl g R s _ _ wr hc.src (by decide))
   rw [ed] at HC
   have HTT : Hid (zt.1.length = zc.1) := by rw [← et]; exact repR_length rdT _ _ _ _
   have HI := Lib.hid hc
   have HO := Lib.hid ht
   clear HJ hc ht et ed hk
   go_wp2_with fail
   refine HC.out.mono ?_
   rintro e w5 ⟨rfl, h5, k5⟩
   have HI5 : Hid (stC2 w g R g3 s (.slice Av zt.1.length cv) zt.1 (.slice none 0 0) zd.2 w5) := ⟨HI.out.src1 k5 h5, owT_src HO.out HI.out.src k5⟩
   clear HC HI h5 k5 HO
   go_wp2_with fail
   go_loopw [18] (fun u wr => ∃ k : Nat, k ≤ zd.1 ∧ u = .int .i64 k ∧ Hid (∃ vt, stC2 w g R g3 s (.slice Av zt.1.length cv) zt.1 vt (repR rdR k s zd.2.1 zd.2.2).2 wr ∧ OwR wr w.heap.size vt (repR rdR k s zd.2.1 zd.2.2).1)) (fun u _ => zd.1 - (intOf u).toNat)
   case atStart => exact ⟨0, by omega, rfl, _, HI5.out, owR_nil⟩
   case round =>
    clear HI5
    obtain ⟨k, hk, rfl, HJ⟩ := hrel
    by_cases hlt : k < zd.1
    ·have hki : (k : Int) < (zd.1 : Int) := by omega
     have HLN : Hid ((repR rdR k s zd.2.1 zd.2.2).1.length = k) := repR_length rdR k s zd.2.1 zd.2.2
     have HSU := Lib.hid (repR_succ rdR k s zd.2.1 zd.2.2)
     generalize repR rdR k s zd.2.1 zd.2.2 = zk at *
     obtain ⟨a, ea⟩ : ∃ z, rdR s zk.2.1 zk.2.2 = z := ⟨_, rfl⟩
     rw [ea] at HSU
     obtain ⟨vt, hc, ps, hr1, hr2, hr3⟩ := HJ.out
     rw [HLN.out] at hr2
     obtain ⟨At, ct, rfl, hct⟩ := own_form2 hr2
     have HRC := Lib.hid hc
     have HRR : Hid (OwR wr w.heap.size (.slice At k ct) zk.1) := ⟨ps, hr1, by rw [HLN.out]; exact hr2, hr3⟩
     clear HJ hc hr1 hr2 hr3
     go_wp2_with fail
     refine wp_region_relyx (PhS [3, 5, 7] [[], [], [0, 1, 2, 3, 4, 5, 6]] (apP 1 5 (stC2 w g R g3 s (.slice Av zt.1.length cv) zt.1) (fun q => OwR q w.heap.size (.slice At k ct) zk.1) (fun v q => OwR q w.heap.size v (zk.1 ++ [a.1])) (.slice At k ct) (fun m => if m = 0 then zk.2 else a.2))) (bfV [.eq (.pointer (some ⟨g3, 1, none⟩)), .eq (.slice At k ct), .eq (.pointer (some ⟨g, 0, none⟩)), .of (fun v q => ∃ u u2, v = Value.agg (rgC2 a.1.tl u a.1.cl u2) ∧ OwL q w.heap.size 24 1 a.1.hs.length (cells64 a.1.hs) u ∧ OwL q w.heap.size 64 3 a.1.sl.length (rowsOf slF a.1.sl) u2) (fun _ _ _ hb ⟨u, u2, h1, h2, h3⟩ => ⟨u, u2, h1, h2.kept (Kept.of_below hb) (fun _ _ _ hf => hf), h3.kept (Kept.of_below hb) (fun _ _ _ hf => hf)⟩), .of (fun v q => ∃ b u u2, v = Value.slice (some ⟨b, 0, none⟩) 1 1 ∧ Lies q b 54 (rgP (a.1, u, u2)).toArray ∧ OwL q w.heap.size 24 1 a.1.hs.length (cells64 a.1.hs) u ∧ OwL q w.heap.size 64 3 a.1.sl.length (rowsOf slF a.1.sl) u2) (fun _ _ _ hb ⟨b, u, u2, h1, h2, h3, h4⟩ => ⟨b, u, u2, h1, h2.below hb h2.lt, h3.kept (Kept.of_below hb) (fun _ _ _ hf => hf), h4.kept (Kept.of_below hb) (fun _ _ _ hf => hf)⟩), .any, .eq (.pointer (some ⟨g3, 1, none⟩)), .any]) [some 20, some 21, some 22, some 23, some 24, some 25, some 26, none] [[], [0], [], [2], [3], [1, 4], [], [6, 5]] [[], [0], [], [2], [2, 3], [0, 1, 2, 3, 4], [0, 1, 2, 3, 4], [0, 1, 2, 3, 4, 6]] [[2, 3, 4, 5], [2, 3, 4], [0, 1, 4, 5], [0, 1], [0, 1], [], [5], [5]] [0, 1, 2, 3, 4, 5, 6, 7] 8 (by kernel_rfl) (by kernel_rfl) (by kernel_rfl) (by kernel_rfl) ?rS (fun j h1 h2 => absurd (Nat.lt_of_lt_of_le h1 (Nat.le_trans (by decide) h2)) (Nat.lt_irrefl _)) ?rT ?rE
     case rS => exact ph_start (apP_mk (by decide) ⟨stC2_later (below_drewN (Below.refl _ _) 1) HRC.out, owR_later (below_drewN (Below.refl _ _) 1) HRR.out⟩)
     case rT =>
      refine RelyStepsX.cons (RelyStepX.mk [] [2, 3, 4, 5] rfl rfl rfl (fun xv Lv wS hS hL hLd hV bq hb K hK => ?_)) ?_
      ·clear hV
       simp only [putsOf, List.foldl_cons, List.foldl_nil, List.getD_cons_zero, List.getD_cons_succ, List.getD_nil, cond_true, cond_false, Act.put, List.setIfInBounds_toArray, List.set_cons_zero, List.set_cons_succ] at hb
       subst hb
       rw [if_pos (by rfl)]
       go_wp2_with fail
       exact hK.out _ _ ⟨_, rfl, st2_op (i := 0) rfl hS, rfl, AllPX.same _⟩
      refine RelyStepsX.cons (RelyStepX.mk [0] [2, 3, 4] rfl rfl rfl (fun xv Lv wS hS hL hLd hV bq hb K hK => ?_)) ?_
      ·obtain ⟨h0, _⟩ := hV
       have h0 : xv 0 = _ := h0
       simp only [putsOf, List.foldl_cons, List.foldl_nil, List.getD_cons_zero, List.getD_cons_succ, List.getD_nil, cond_true, cond_false, Act.put, List.setIfInBounds_toArray, List.set_cons_zero, List.set_cons_succ, h0] at hb
       clear h0
       subst hb
       rw [if_pos (by rfl)]
       (obtain ⟨m9, hm9, hp9⟩ := ph_before (K := 2) rfl hS hL; obtain ⟨p9, hc9⟩ := apP_vt hm9 hp9; have c1 := (hc9.1.box.cell 1).trans (show _ = some (Value.slice At k ct) from rfl); have c2 := hc9.1.box.lt; clear hp9 hc9)
       go_wp2_with fail
       exact hK.out _ _ ⟨_, rfl, st2_op (i := 1) rfl hS, rfl, AllPX.same _⟩
      refine RelyStepsX.cons (RelyStepX.mk [] [0, 1, 4, 5] rfl rfl rfl (fun xv Lv wS hS hL hLd hV bq hb K hK => ?_)) ?_
      ·clear hV
       simp only [putsOf, List.foldl_cons, List.foldl_nil, List.getD_cons_zero, List.getD_cons_succ, List.getD_nil, cond_true, cond_false, Act.put, List.setIfInBounds_toArray, List.set_cons_zero, List.set_cons_succ] at hb
       subst hb
       rw [if_pos (by rfl)]
       go_wp2_with fail
       exact hK.out _ _ ⟨_, rfl, st2_op (i := 2) rfl hS, rfl, AllPX.same _⟩
      refine RelyStepsX.cons (RelyStepX.mk [2] [0, 1] rfl rfl rfl (fun xv Lv wS hS hL hLd hV bq hb K hK => ?_)) ?_
      ·obtain ⟨h2, _⟩ := hV
       have h2 : xv 2 = _ := h2
       simp only [putsOf, List.foldl_cons, List.foldl_nil, List.getD_cons_zero, List.getD_cons_succ, List.getD_nil, cond_true, cond_false, Act.put, List.setIfInBounds_toArray, List.set_cons_zero, List.set_cons_succ, h2] at hb
       clear h2
       subst hb
       rw [if_pos (by rfl)]
       have hp : stC2 w g R g3 s (.slice Av zt.1.length cv) zt.1 (.slice At k ct) zk.2 wS ∧ OwR wS w.heap.size (.slice At k ct) zk.1 := apP_low (by decide) (ph_get (m := 0) (j0 := 0) hS (by decide) hL (.inl rfl))
       have HP := Lib.hid hp
       have HSS := Lib.hid hS
       have HCN := Lib.hid (srcRing g R s _ _ wS hp.1.1.src hs)
       rw [ea] at HCN
       clear hS hp
       go_wp2_with fail
       refine HCN.out.mono ?_
       rintro e w7 ⟨u, u2, rfl, hu, hu2, h7, k7⟩
       exact hK.out _ _ ⟨_, rfl, ph_put (by decide) HSS.out (m := 0) (by decide) rfl hL 0 (.inl rfl) (fun j hj => by cases hj) (apP_mk (by decide) ⟨⟨HP.out.1.1.src1 (i2 := a.2.1) (f2 := a.2.2) k7 h7, owT_src HP.out.1.2 HP.out.1.1.src k7⟩, owR_src HP.out.2 HP.out.1.1.src k7⟩), ⟨u, u2, rfl, hu.mono HP.out.1.1.kp.size, hu2.mono HP.out.1.1.kp.size⟩, AllPX.of _ (fun j hj _ h => by
        by_cases e : j = 4
        ·subst e; obtain ⟨b, u3, u4, h1, h2, ⟨A3, c3, e3, h3⟩, A4, c4, e4, h4⟩ := h; exact ⟨b, u3, u4, h1, lies_kept_src h2 HP.out.1.1.src k7 (by decide) (by decide), ⟨A3, c3, e3, own_kept_src h3 HP.out.1.1.src k7 (by decide) (by decide)⟩, A4, c4, e4, own_kept_src h4 HP.out.1.1.src k7 (by decide) (by decide)⟩
        ·exact bfV_but 4 (by rfl) hj e h)⟩
      refine RelyStepsX.cons (RelyStepX.mk [3] [0, 1] rfl rfl rfl (fun xv Lv wS hS hL hLd hV bq hb K hK => ?_)) ?_
      ·obtain ⟨h3, _⟩ := hV
       simp only [putsOf, List.foldl_cons, List.foldl_nil, List.getD_cons_zero, List.getD_cons_succ, List.getD_nil, cond_true, cond_false, Act.put, List.setIfInBounds_toArray, List.set_cons_zero, List.set_cons_succ] at hb
       generalize hy3 : xv 3 = y3 at *
       subst hb
       rw [if_pos (by rfl)]
       have HSS := Lib.hid hS
       obtain ⟨u, u2, rfl, hu, hu2⟩ := h3
       have HU := Lib.hid hu
       have HU2 := Lib.hid hu2
       clear hS hu hu2
       refine step_list (ops := #[]) (by rfl) (wpList_lit1_known rfl _ 54 _ rfl (rgP (a.1, u, u2)) 4 _ _ rfl Try.underlying23 infoRgT2 (by decide) (by decide) (rgP_length _) ?_)
       have hb : Below wS.heap.size wS (wS.alloc (.cells (rgP (a.1, u, u2)).toArray 54)) := (Below.refl _ _).alloc (Nat.le_refl _) _
       exact hK.out _ _ ⟨_, rfl, ph_more st2_pha rfl HSS.out hb, ⟨wS.heap.size, u, u2, rfl, Lies.made _ _ _, HU.out.kept (Kept.of_below hb) (fun _ _ _ hf => hf), HU2.out.kept (Kept.of_below hb) (fun _ _ _ hf => hf)⟩, AllPX.of _ (fun j _ _ h => bfV_below hb h)⟩
      refine RelyStepsX.cons (RelyStepX.mk [1, 4] [] rfl rfl rfl (fun xv Lv wS hS hL hLd hV bq hb K hK => ?_)) ?_
      ·obtain ⟨h1, h4, _⟩ := hV
       have h1 : xv 1 = _ := h1
       simp only [putsOf, List.foldl_cons, List.foldl_nil, List.getD_cons_zero, List.getD_cons_succ, List.getD_nil, cond_true, cond_false, Act.put, List.setIfInBounds_toArray, List.set_cons_zero, List.set_cons_succ, h1] at hb
       clear h1
       generalize hy4 : xv 4 = y4 at *
       subst hb
       rw [if_pos (by rfl)]
       have hp : stC2 w g R g3 s (.slice Av zt.1.length cv) zt.1 (.slice At k ct) a.2 wS ∧ OwR wS w.heap.size (.slice At k ct) zk.1 := apP_low (by decide) (ph_get (m := 1) (j0 := 0) hS (by decide) hL (.inr ⟨rfl, hLd 3 (by decide +kernel)⟩))
       have HSS := Lib.hid hS
       obtain ⟨b9, u9, u8, rfl, hl9, hu9, hu8⟩ := h4
       obtain ⟨hp1, ps, hq1, hq2, hq3⟩ := hp
       have hq4 := hq2
       rw [HLN.out] at hq4
       clear hS
       refine step_list (ops := #[]) (by rfl) (append_argS wS 4 rfl (.tmp 21) (.tmp 24) 23 rfl w.heap.size 54 _ 64 Try.underlying23 infoRgT2 rfl (by decide) (.slice At k ct) k (rowsOf rgP ps) rfl hq4 (some ⟨b9, 0, none⟩) 1 1 rfl (rgP (a.1, u9, u8)) (seq_one2 hl9 (rgP_length _)) (rgP_one2 _ hu9.one hu8.one) (by unfold maxLen; omega) (by omega) hp1.1.kp.size ?_)
       intro v' w' ho hb hgr
       have hk := Kept.of_grown hgr
       refine hK.out _ _ ⟨_, rfl, ph_put (by decide) HSS.out (m := 1) (by decide) rfl hL 0 (.inr ⟨rfl, hLd 3 (by decide +kernel)⟩) (fun j hj => by cases hj) (apP_mkApp ⟨⟨stBx_app hp1.1 hq4 hk (by decide), owT_kept hp1.2 hk (fun r e c hl he e3 => by have := own_same2 hq4 hl e3; subst this; rcases he with he | he <;> exact absurd he (by decide))⟩, ?_⟩), trivial, AllPX.of _ (fun j hj _ h => bfV_lit (by rfl) hj h)⟩
       rw [pupdX_self]; exact owR_app hq1 hq2 hq3 hk (by rw [HLN.out]; exact ho) hu9 hu8
      refine RelyStepsX.cons (RelyStepX.mk [] [5] rfl rfl rfl (fun xv Lv wS hS hL hLd hV bq hb K hK => ?_)) ?_
      ·clear hV
       simp only [putsOf, List.foldl_cons, List.foldl_nil, List.getD_cons_zero, List.getD_cons_succ, List.getD_nil, cond_true, cond_false, Act.put, List.setIfInBounds_toArray, List.set_cons_zero, List.set_cons_succ] at hb
       subst hb
       rw [if_pos (by rfl)]
       go_wp2_with fail
       exact hK.out _ _ ⟨_, rfl, st2_op (i := 6) rfl hS, rfl, AllPX.same _⟩
      refine RelyStepsX.cons (RelyStepX.mk [6, 5] [5] rfl rfl rfl (fun xv Lv wS hS hL hLd hV bq hb K hK => ?_)) ?_
      ·obtain ⟨h6, h5, _⟩ := hV
       have h6 : xv 6 = _ := h6
       simp only [putsOf, List.foldl_cons, List.foldl_nil, List.getD_cons_zero, List.getD_cons_succ, List.getD_nil, cond_true, cond_false, Act.put, List.setIfInBounds_toArray, List.set_cons_zero, List.set_cons_succ, h6] at hb
       clear h6
       generalize hy5 : xv 5 = y5 at *
       subst hb
       rw [if_pos (by rfl)]
       have hp := apP_app (ph_get (m := 2) (j0 := 1) hS (by decide) hL (.inr ⟨rfl, hLd 5 (by decide +kernel)⟩))
       rw [hy5] at hp
       have HP := Lib.hid hp
       have HSS := Lib.hid hS
       obtain ⟨A8, c8, e8, _⟩ := (owR_read hp.2).form
       obtain ⟨n8, hn8⟩ : ∃ n, (zk.1 ++ [a.1]).length = n := ⟨_, rfl⟩
       rw [hn8] at e8
       clear hn8
       have q1 := (hp.1.1.box.cell 1).trans (show _ = some (Value.slice At k ct) from rfl)
       have f1 := hp.1.1.box.free 1
       have qt := hp.1.1.box.lt
       subst e8
       clear hS hp
       go_wp2_with fail
       refine hK.out _ _ ⟨undef, rfl, ph_put (by decide) HSS.out (m := 2) (by decide) rfl hL 1 (.inr ⟨rfl, hLd 5 (by decide +kernel)⟩) (fun j hj => hLd j (by revert hj; revert j; decide +kernel)) (apP_mkEnd ?_), trivial, AllPX.of _ (fun j hj _ h => bfV_lit (by rfl) hj h)⟩
       rw [pupdX_ne (by decide), hy5]
       exact ⟨⟨HP.out.1.1.put 1 _, owT_box HP.out.1.2 HP.out.1.1.box (Kept.put _ _ _ _)⟩, owR_box HP.out.2 HP.out.1.1.box (Kept.put _ _ _ _)⟩
      exact RelyStepsX.nil
     case rE =>
      intro xv Lv wE hS hLall hV
      have h5 := hV 5 (by decide) (by decide)
      have h7 := hV 7 (by decide) (by decide)
      clear hV
      have hp := apP_end (ph_end hS 2 rfl (hLall 7 (by decide +kernel)))
      simp only [putsOf, List.foldl_cons, List.foldl_nil, List.getD_cons_zero, List.getD_cons_succ, List.getD_nil, cond_true, cond_false, Act.put, List.setIfInBounds_toArray, List.set_cons_zero, List.set_cons_succ]
      generalize xv 0 = y0 at *
      generalize xv 1 = y1 at *
      generalize xv 2 = y2 at *
      generalize xv 3 = y3 at *
      generalize xv 4 = y4 at *
      generalize xv 5 = y5 at *
      generalize xv 6 = y6 at *
      generalize xv 7 = y7 at *
      have HN : Hid (stC2 w g R g3 s (.slice Av zt.1.length cv) zt.1 y5 a.2 wE ∧ OwR wE w.heap.size y5 (zk.1 ++ [a.1])) := hp
      have HQ : Hid (repR rdR (k + 1) s zd.2.1 zd.2.2 = (zk.1 ++ [a.1], a.2)) := HSU.out
      clear hS hp h5 h7 hLall HSU HRC HRR
      generalize wE = w9 at *
      go_wp2_with fail
      go_roundw
      case rel =>
       refine ⟨k + 1, by omega, by go_num, y5, ?_⟩
       rw [HQ.out]; exact HN.out
      case measure => simp [intOf]; omega
    ·obtain rfl : k = zd.1 := by omega
     rw [er] at HJ
     obtain ⟨rv, hc, ht⟩ := HJ.out
     obtain ⟨Ar, cr, rfl, _⟩ := (owR_read ht).form
     have HC := Lib.hid (srcNumber g R s _ _ wr hc.1.src)
     rw [e3] at HC
     have HI := Lib.hid hc
     have HO := Lib.hid ht
     clear HJ hc ht er e3 hk
     go_wp2_with fail
     refine HC.out.mono ?_
     rintro e w5 ⟨rfl, h5, k5⟩
     have HB5 := Lib.hid (HI.out.1.src1 k5 h5)
     have HT5 := Lib.hid (owT_src HI.out.2 HI.out.1.src k5)
     have HR5 := Lib.hid (owR_src HO.out HI.out.1.src k5)
     have c2 := (HB5.out.box.cell 2).trans (show _ = some (Value.int .u64 0) from rfl)
     have f2 := HB5.out.box.free 2
     have cl := HB5.out.box.lt
     clear HC HI HO h5 k5
     go_upto_region 11 with (fail)
     have HB6 := Lib.hid (HB5.out.put 2 (.int .u64 (z3.1 : Int)))
     have HT6 := Lib.hid (owT_box HT5.out HB5.out.box (Kept.put w5 g3 2 (.int .u64 (z3.1 : Int))))
     have HR6 := Lib.hid (owR_box HR5.out HB5.out.box (Kept.put w5 g3 2 (.int .u64 (z3.1 : Int))))
     generalize w5.setCell ⟨g3, 2, none⟩ (.int .u64 (z3.1 : Int)) = w6 at *
     clear HB5 HT5 HR5 c2 f2 cl
     have HC := Lib.hid (srcNumber g R s _ _ w6 HB6.out.src)
     rw [e4] at HC
     clear e4
     go_wp2_with fail
     refine HC.out.mono ?_
     rintro e w5 ⟨rfl, h5, k5⟩
     have HB5 := Lib.hid (HB6.out.src1 k5 h5)
     have HT5 := Lib.hid (owT_src HT6.out HB6.out.src k5)
     have HR5 := Lib.hid (owR_src HR6.out HB6.out.src k5)
     have c2 := (HB5.out.box.cell 3).trans (show _ = some (Value.int .u64 0) from rfl)
     have f2 := HB5.out.box.free 3
     have cl := HB5.out.box.lt
     clear HC HB6 HT6 HR6 h5 k5
     go_upto_region 12 with (fail)
     have HB6 := Lib.hid (HB5.out.put 3 (.int .u64 (z4.1 : Int)))
     have HT6 := Lib.hid (owT_box HT5.out HB5.out.box (Kept.put w5 g3 3 (.int .u64 (z4.1 : Int))))
     have HR6 := Lib.hid (owR_box HR5.out HB5.out.box (Kept.put w5 g3 3 (.int .u64 (z4.1 : Int))))
     generalize w5.setCell ⟨g3, 3, none⟩ (.int .u64 (z4.1 : Int)) = w7 at *
     clear HB5 HT5 HR5 c2 f2 cl
     have HC := Lib.hid (srcTruth g R s _ _ w7 HB6.out.src)
     rw [e5] at HC
     clear e5
     go_wp2_with fail
     refine HC.out.mono ?_
     rintro e w5 ⟨rfl, h5, k5⟩
     have HB5 := Lib.hid (HB6.out.src1 k5 h5)
     have HT5 := Lib.hid (owT_src HT6.out HB6.out.src k5)
     have HR5 := Lib.hid (owR_src HR6.out HB6.out.src k5)
     have c2 := (HB5.out.box.cell 4).trans (show _ = some (Value.bool false) from rfl)
     have f2 := HB5.out.box.free 4
     have cl := HB5.out.box.lt
     clear HC HB6 HT6 HR6 h5 k5
     go_upto_region 13 with (fail)
     have HB6 : Hid (BxAt w g R g3 s 26 stZ2 (stC (.slice Av zt.1.length cv) (.slice Ar zr.1.length cr) z3.1 z4.1 z5.1) z5.2.1 z5.2.2 _) := HB5.out.put 4 (.bool z5.1)
     have HT6 := Lib.hid (owT_box HT5.out HB5.out.box (Kept.put w5 g3 4 (.bool z5.1)))
     have HR6 := Lib.hid (owR_box HR5.out HB5.out.box (Kept.put w5 g3 4 (.bool z5.1)))
     generalize w5.setCell ⟨g3, 4, none⟩ (.bool z5.1) = w8 at *
     clear HB5 HT5 HR5 c2 f2 cl
     have hld := st_loadL2 HB6.out.box
     have hf := HB6.out.fin
     have HE := Lib.hid hf
     have HT9 := Lib.hid (owT_box HT6.out HB6.out.res hf.2.2.2)
     have HR9 := Lib.hid (owR_box HR6.out HB6.out.res hf.2.2.2)
     clear hf HT6 HR6
     refine wp_region_lit ?_
     refine wpList_load_known rfl _ _ rfl g3 0 rfl _ hld ?_
     refine wpList_store_row rfl 26 _ _ rfl w.heap.size (stC (.slice Av zt.1.length cv) (.slice Ar zr.1.length cr) z3.1 z4.1 z5.1) rfl rfl 26 stZ2 HB6.out.res infoSt2 rfl (stC_one2 rfl rfl) ?_
     have hl9 := st_loadL2 HE.out.2.2.1
     clear hld HB6
     generalize w8.setRow w.heap.size (stC (.slice Av zt.1.length cv) (.slice Ar zr.1.length cr) z3.1 z4.1 z5.1) = w9 at *
     go_wp2_with fail
     refine bodyPost_ret (v := .agg (stC (.slice Av zt.1.length cv) (.slice Ar zr.1.length cr) z3.1 z4.1 z5.1)) (res_cell1 rfl rfl hl9) rfl ⟨.slice Av zt.1.length cv, .slice Ar zr.1.length cr, ?_, ?_, ?_, ?_, HE.out.1⟩
     ·rw [HT.out]
     ·rw [HT.out]; exact HT9.out
     ·rw [HT.out]; exact HR9.out
     ·rw [HT.out]; exact HE.out.2.1
def sta0 : Sta := ⟨[], [], 0, 0, false⟩
def rdYes (s : ByteArray) : Bool := !(rdSt s 0 false).2.2 && !decide ((rdSt s 0 false).2.1 < s.size)
def rdX (s : ByteArray) : Sta := if rdYes s then (rdSt s 0 false).1 else sta0
def rdE (s : ByteArray) : Int := if rdYes s then 0 else 3
def RdPost (w : World) (S : Sta) (k : Int) (e : Ending) (w' : World) : Prop := ∃ tv rv, e = .returned (.tuple #[.agg (stC tv rv S.now S.rds S.en), .int .i64 k]) ∧ OwT w' w.heap.size tv S.th ∧ OwR w' w.heap.size rv S.rg ∧ Below w.heap.size w w'
theorem run_build_st (w : World) : (Instr.build 26 #[]).run Try.prog w = .ok (.agg stZ2) w := by kernel_rfl
set_option maxHeartbeats 8000000 in
set_option maxRecDepth 100000 in
theorem snapRead (s : ByteArray) (w : World) (hs : s.size ≤ 1099511627776) : Calls Try.prog 12 #[.string s] w (RdPost w (rdX s) (rdE s)) := by
 have HY : Hid (rdYes s = (!(rdSt s 0 false).2.2 && !decide ((rdSt s 0 false).2.1 < s.size)) ∧ rdX s = (if rdYes s then (rdSt s 0 false).1 else sta0) ∧ rdE s = (if rdYes s then 0 else 3)) := ⟨rfl, rfl, rfl⟩
 have hpos := good_St.bnd s 0 false (Nat.zero_le _)
 obtain ⟨z, ez⟩ : ∃ z, rdSt s 0 false = z := ⟨_, rfl⟩
 rw [ez] at HY hpos
 have b0 : Below w.heap.size w (w.alloc (.cells stZ2 26)) := (Below.refl _ _).alloc (Nat.le_refl _) _
 have HL0 := Lib.hid (Lies.made w 26 stZ2)
 have HB0 := Lib.hid b0
 have HC := Lib.hid (octetNew s (w.alloc (.cells stZ2 26)) (by unfold maxLen; omega))
 obtain ⟨R, hR⟩ : ∃ n, (w.alloc (.cells stZ2 26)).heap.size = n := ⟨_, rfl⟩
 have hRw : w.heap.size < R := by rw [← hR, World.size_alloc]; omega
 rw [hR] at HC
 clear b0
 go_enter Try.func12, Try.ntmps12
 go_wp2_with fail
 generalize w.alloc (.cells stZ2 26) = w0 at *
 refine HC.out.mono ?_
 rintro e w1 ⟨rfl, hr1, k1⟩
 have HL1 := Lib.hid (HL0.out.kept k1 (fun hf => hf))
 have HB1 := Lib.hid (HB0.out.trans (k1.below HB0.out.size (fun _ _ hf => hf)))
 have hRl := hr1.1.lt
 have HR1 := Lib.hid hr1
 clear HC HL0 HB0 hr1 k1 hR
 obtain ⟨g, hg⟩ : ∃ n, w1.heap.size = n := ⟨_, rfl⟩
 have hgw : w.heap.size < g := by rw [← hg]; exact HL1.out.lt
 rw [hg] at hRl
 have hl1 : Lies (w1.alloc (.cells #[.pointer (some ⟨R, 0, none⟩), .bool false] 78)) g 78 #[.pointer (some ⟨R, 0, none⟩), .bool false] := by rw [← hg]; exact Lies.made _ _ _
 have hs2 : SrcAt (w1.alloc (.cells #[.pointer (some ⟨R, 0, none⟩), .bool false] 78)) g R s 0 false := ⟨hl1, HR1.out.kept (Kept.alloc noRow _ _) (fun hf => hf)⟩
 have HL2 := Lib.hid (HL1.out.alloc (.cells #[.pointer (some ⟨R, 0, none⟩), .bool false] 78))
 have HB2 := Lib.hid (HB1.out.alloc HB1.out.size (.cells #[.pointer (some ⟨R, 0, none⟩), .bool false] 78))
 have HC := Lib.hid (srcState g R s 0 false _ hs2 hs)
 rw [ez] at HC
 have HS2 := Lib.hid hs2
 clear hl1 hs2 HL1 HB1 HR1 ez
 go_wp2_with fail
 generalize w1.alloc (.cells #[.pointer (some ⟨R, 0, none⟩), .bool false] 78) = w2 at *
 refine HC.out.mono ?_
 rintro e w3 ⟨tv, rv, rfl, ht, hr, h3, k3⟩
 have hkr : ∀ r, r < w.heap.size → ¬ srcR g R r := fun r hr e => by rcases e with e | e <;> omega
 have HB3 := Lib.hid (HB2.out.trans (k3.below HB2.out.size hkr))
 have HL3 := Lib.hid (lies_kept_src HL2.out HS2.out k3 (by decide) (by decide))
 obtain ⟨At, ct, rfl, _⟩ := (owT_read ht).form
 obtain ⟨Ar, cr, rfl, _⟩ := (owR_read hr).form
 have hN := HB2.out.size
 obtain ⟨ps, ht1, ht2, ht3⟩ := ht
 obtain ⟨qs, hr1, hr2, hr3⟩ := hr
 have HT3 : Hid (OwT w3 w.heap.size (.slice At z.1.th.length ct) z.1.th) := ⟨ps, ht1, owns_mono ht2 hN, fun p hp => (ht3 p hp).mono hN⟩
 have HR3 : Hid (OwR w3 w.heap.size (.slice Ar z.1.rg.length cr) z.1.rg) := ⟨qs, hr1, owns_mono hr2 hN, fun p hp => ⟨(hr3 p hp).1.mono hN, (hr3 p hp).2.mono hN⟩⟩
 have HS3 := Lib.hid h3
 clear HC HL2 HB2 HS2 ht1 ht2 ht3 hr1 hr2 hr3 h3 k3 hg
 obtain ⟨g5, hg5⟩ : ∃ n, w3.heap.size = n := ⟨_, rfl⟩
 have hg5w : w.heap.size < g5 := by rw [← hg5]; exact HL3.out.lt
 have LB : Hid (Lies (w3.alloc (.cells stZ2 26)) g5 26 stZ2) := by rw [← hg5]; exact Lies.made _ _ _
 have HQ : Hid (OwT (w3.alloc (.cells stZ2 26)) w.heap.size (.slice At z.1.th.length ct) z.1.th ∧ OwR (w3.alloc (.cells stZ2 26)) w.heap.size (.slice Ar z.1.rg.length cr) z.1.rg ∧ SrcAt (w3.alloc (.cells stZ2 26)) g R s z.2.1 z.2.2 ∧ Below w.heap.size w (w3.alloc (.cells stZ2 26)) ∧ Lies (w3.alloc (.cells stZ2 26)) w.heap.size 26 stZ2) :=
  ⟨owT_later ((Below.refl _ _).alloc (Nat.le_refl _) _) HT3.out, owR_later ((Below.refl _ _).alloc (Nat.le_refl _) _) HR3.out, HS3.out.kept (Kept.alloc noRow _ _) (fun hf => hf) (fun hf => hf), HB3.out.alloc HB3.out.size _, HL3.out.alloc _⟩
 clear HT3 HR3 HS3 HB3 HL3
 go_upto_region 3 with (first | refine wpList_store_row rfl 26 _ _ rfl g5 (stC (.slice At z.1.th.length ct) (.slice Ar z.1.rg.length cr) z.1.now z.1.rds z.1.en) rfl rfl 26 stZ2 LB.out infoSt2 rfl (stC_one2 rfl rfl) ?_)
 have k5 := kept_row2 (w := w3.alloc (.cells stZ2 26)) (g := g5) (stC (.slice At z.1.th.length ct) (.slice Ar z.1.rg.length cr) z.1.now z.1.rds z.1.en)
 have HQ5 := Lib.hid (show OwT _ w.heap.size (.slice At z.1.th.length ct) z.1.th ∧ OwR _ w.heap.size (.slice Ar z.1.rg.length cr) z.1.rg ∧ SrcAt _ g R s z.2.1 z.2.2 ∧ Below w.heap.size w _ ∧ Lies _ w.heap.size 26 stZ2 ∧ Lies _ g5 26 (stC (.slice At z.1.th.length ct) (.slice Ar z.1.rg.length cr) z.1.now z.1.rds z.1.en) from
  ⟨owT_box HQ.out.1 LB.out k5, owR_box HQ.out.2.1 LB.out k5, HQ.out.2.2.1.kept k5 (fun (e : g = g5) => by subst e; exact absurd (HQ.out.2.2.1.1.same LB.out).1 (by decide)) (fun (e : R = g5) => by subst e; exact absurd (HQ.out.2.2.1.2.1.same LB.out).1 (by decide)), HQ.out.2.2.2.1.trans (k5.below HQ.out.2.2.2.1.size (fun r hr (e : r = g5) => by omega)), HQ.out.2.2.2.2.kept k5 (fun (e : w.heap.size = g5) => by omega), lies_row2 LB.out _⟩)
 generalize (w3.alloc (.cells stZ2 26)).setRow g5 _ = w5 at *
 clear HQ LB k5 hg5
 have c0 := (HQ5.out.2.2.1.1.cell 0).trans (show _ = some (Value.pointer (some ⟨R, 0, none⟩)) from rfl)
 have c1 := (HQ5.out.2.2.1.1.cell 1).trans (show _ = some (Value.bool z.2.2) from rfl)
 have cl := HQ5.out.2.2.1.1.lt
 obtain ⟨zb, hzb⟩ : ∃ b, z.2.2 = b := ⟨_, rfl⟩
 rw [hzb] at c1 HY HQ5
 have FAIL : rdYes s = false → ∀ q, OwT q w.heap.size (.slice At z.1.th.length ct) z.1.th → Below w.heap.size w q → RdPost w (rdX s) (rdE s) (.returned (.tuple #[.agg stZ2, .int .i64 3])) q := fun hy q _ hb => by
  rw [HY.out.2.1, HY.out.2.2, hy]
  exact ⟨_, _, rfl, owT_nil, owR_nil, hb⟩
 have HFAIL := Lib.hid FAIL
 clear FAIL
 have PASS : rdYes s = true → ∀ q, OwT q w.heap.size (.slice At z.1.th.length ct) z.1.th → OwR q w.heap.size (.slice Ar z.1.rg.length cr) z.1.rg → Below w.heap.size w q → RdPost w (rdX s) (rdE s) (.returned (.tuple #[.agg (stC (.slice At z.1.th.length ct) (.slice Ar z.1.rg.length cr) z.1.now z.1.rds z.1.en), .int .i64 0])) q := fun hy q h1 h2 hb => by
  rw [HY.out.2.1, HY.out.2.2, hy]
  exact ⟨_, _, rfl, h1, h2, hb⟩
 have HPASS := Lib.hid PASS
 clear PASS
 cases zb
 ·have HLE := Lib.hid (octetLeft R s z.2.1 w5 HQ5.out.2.2.1.2)
  go_wp2_with fail
  refine HLE.out.mono ?_
  rintro e w6 ⟨rfl, n6, hw6⟩
  have HQ6 := Lib.hid (show OwT w6 w.heap.size (.slice At z.1.th.length ct) z.1.th ∧ OwR w6 w.heap.size (.slice Ar z.1.rg.length cr) z.1.rg ∧ Below w.heap.size w w6 ∧ Lies w6 w.heap.size 26 stZ2 ∧ Lies w6 g5 26 (stC (.slice At z.1.th.length ct) (.slice Ar z.1.rg.length cr) z.1.now z.1.rds z.1.en) from by
   subst hw6
   have hb : Below w5.heap.size w5 (w5.drewN n6) := below_drewN (Below.refl _ _) n6
   exact ⟨owT_later hb HQ5.out.1, owR_later hb HQ5.out.2.1, below_drewN HQ5.out.2.2.2.1 n6, HQ5.out.2.2.2.2.1.drewN n6, HQ5.out.2.2.2.2.2.drewN n6⟩)
  clear HLE hw6 c0 c1 cl HQ5
  by_cases hlt : z.2.1 < s.size
  ·have q1 : decide ((s.size : Int) - (z.2.1 : Int) > 0) = true := decide_eq_true (by omega)
   have q2 : decide ((0 : Int) < (s.size : Int) - (z.2.1 : Int)) = true := decide_eq_true (by omega)
   have hy : rdYes s = false := by rw [HY.out.1, decide_eq_true hlt]; rfl
   have hres := HQ6.out.2.2.2.1
   have HLR := Lib.hid hres
   clear hres
   have k9 := kept_row2 (w := w6) (g := w.heap.size) stZ2
   have HP := Lib.hid (HFAIL.out hy _ (owT_box HQ6.out.1 HLR.out k9) (HQ6.out.2.2.1.trans (k9.below HQ6.out.2.2.1.size (fun r hr (e : r = w.heap.size) => by omega))))
   have hl9 : (loadVar 26 ⟨w.heap.size, 0, none⟩).run Try.prog (w6.setRow w.heap.size stZ2) = .ok (.agg stZ2) (w6.setRow w.heap.size stZ2) := st_loadL2 (n := 0) (r := 0) (lies_row2 HLR.out stZ2)
   clear k9
   go_upto_region 4 with (fail)
   refine wp_region_lit ?_
   refine wpList_build0_known rfl 26 rfl (.agg stZ2) (run_build_st _) ?_
   refine wpList_store_row rfl 26 _ _ rfl w.heap.size stZ2 rfl rfl 26 stZ2 HLR.out infoSt2 rfl (stC_one2 (n := 0) (r := 0) rfl rfl) ?_
   clear HLR HQ6
   generalize w6.setRow w.heap.size stZ2 = w9 at *
   go_wp2_with fail
   exact bodyPost_ret (res_cell2 rfl rfl rfl hl9) rfl HP.out
  ·have q1 : decide ((s.size : Int) - (z.2.1 : Int) > 0) = false := decide_eq_false (by omega)
   have q2 : decide ((0 : Int) < (s.size : Int) - (z.2.1 : Int)) = false := decide_eq_false (by omega)
   have hy : rdYes s = true := by rw [HY.out.1, decide_eq_false hlt]; rfl
   have HLR := Lib.hid HQ6.out.2.2.2.1
   have hld := st_loadL2 HQ6.out.2.2.2.2
   have k9 := kept_row2 (w := w6) (g := w.heap.size) (stC (.slice At z.1.th.length ct) (.slice Ar z.1.rg.length cr) z.1.now z.1.rds z.1.en)
   have HP := Lib.hid (HPASS.out hy _ (owT_box HQ6.out.1 HLR.out k9) (owR_box HQ6.out.2.1 HLR.out k9) (HQ6.out.2.2.1.trans (k9.below HQ6.out.2.2.1.size (fun r hr (e : r = w.heap.size) => by omega))))
   have hl9 := st_loadL2 (lies_row2 HLR.out (stC (.slice At z.1.th.length ct) (.slice Ar z.1.rg.length cr) z.1.now z.1.rds z.1.en))
   clear k9
   go_upto_region 5 with (fail)
   refine wp_region_lit ?_
   refine wpList_load_known rfl _ _ rfl g5 0 rfl _ hld ?_
   refine wpList_store_row rfl 26 _ _ rfl w.heap.size (stC (.slice At z.1.th.length ct) (.slice Ar z.1.rg.length cr) z.1.now z.1.rds z.1.en) rfl rfl 26 stZ2 HLR.out infoSt2 rfl (stC_one2 rfl rfl) ?_
   clear hld HLR HQ6
   generalize w6.setRow w.heap.size (stC (.slice At z.1.th.length ct) (.slice Ar z.1.rg.length cr) z.1.now z.1.rds z.1.en) = w9 at *
   go_wp2_with fail
   exact bodyPost_ret (res_cell2 rfl rfl rfl hl9) rfl HP.out
 ·have hy : rdYes s = false := by rw [HY.out.1]; rfl
  have HLR := Lib.hid HQ5.out.2.2.2.2.1
  have k9 := kept_row2 (w := w5) (g := w.heap.size) stZ2
  have HP := Lib.hid (HFAIL.out hy _ (owT_box HQ5.out.1 HLR.out k9) (HQ5.out.2.2.2.1.trans (k9.below HQ5.out.2.2.2.1.size (fun r hr (e : r = w.heap.size) => by omega))))
  have hl9 : (loadVar 26 ⟨w.heap.size, 0, none⟩).run Try.prog (w5.setRow w.heap.size stZ2) = .ok (.agg stZ2) (w5.setRow w.heap.size stZ2) := st_loadL2 (n := 0) (r := 0) (lies_row2 HLR.out stZ2)
  clear k9
  go_upto_region 4 with (fail)
  clear c0 c1 cl
  refine wp_region_lit ?_
  refine wpList_build0_known rfl 26 rfl (.agg stZ2) (run_build_st _) ?_
  refine wpList_store_row rfl 26 _ _ rfl w.heap.size stZ2 rfl rfl 26 stZ2 HLR.out infoSt2 rfl (stC_one2 (n := 0) (r := 0) rfl rfl) ?_
  clear HLR HQ5
  generalize w5.setRow w.heap.size stZ2 = w9 at *
  go_wp2_with fail
  exact bodyPost_ret (res_cell2 rfl rfl rfl hl9) rfl HP.out
theorem pgE_at (w : World) : PgAt w none 0 none 0 pgE := ⟨SeqS.nil _ _, [], SeqS.nil _ _, fun i l h => by simp [pgE] at h⟩
set_option maxRecDepth 100000 in
theorem snLoadE (s : ByteArray) (w : World) : Calls Try.prog 13 #[.agg #[.slice none 0 0, .slice none 0 0], .string s] w fun e w' => e = .returned (.tuple #[.pointer none, .int .i64 1]) ∧ Below w.heap.size w w' := by
 have HB0 : Hid (Below w.heap.size w (w.alloc (.cells #[.slice none 0 0, .slice none 0 0] 47))) := (Below.refl _ _).alloc (Nat.le_refl _) _
 have HN := Lib.hid (fun (q : World) => (fbNewE none 0 none 0 q (pgE_at q) : Calls Try.prog 32 #[.agg #[.slice none 0 0, .slice none 0 0]] q fun e w' => e = .returned (.tuple #[.pointer none, .int .i64 1]) ∧ Below q.heap.size q w'))
 go_enter Try.func13, Try.ntmps13
 go_wp2_with fail
 refine (HN.out _).mono ?_
 rintro e w2 ⟨rfl, hb2⟩
 have HB2 := Lib.hid (HB0.out.trans (hb2.mono HB0.out.size))
 clear hb2 HN HB0
 go_wp2_with fail
 go_ret2
 exact ⟨rfl, HB2.out⟩
set_option maxHeartbeats 4000000 in
set_option maxRecDepth 100000 in
theorem snLoadG (S : Sta) (now rds : Nat) (en : Bool) (m : Int) (R : Value → World → Prop) (s : ByteArray) (hs : s.size ≤ 1099511627776) (hX : rdX s = S) (hE : rdE s = 0) (hn : S.now = now ∧ S.rds = rds ∧ S.en = en) (A : Option Addr) (c : Nat) (Q : Option Addr) (d : Nat) (w : World) (h : PgAt w A c Q d pg0)
  (HLD : ∀ tv rv q, Below w.heap.size w q → OwT q w.heap.size tv S.th → OwR q w.heap.size rv S.rg → Calls Try.prog 33 #[.agg #[.slice A 0 c, .slice Q 1 d], .agg (stC tv rv now rds en)] q fun e w' => ∃ u, e = .returned (.tuple #[u, .int .i64 m]) ∧ R u w' ∧ Below q.heap.size q w') :
  Calls Try.prog 13 #[.agg #[.slice A 0 c, .slice Q 1 d], .string s] w fun e w' => ∃ u, e = .returned (.tuple #[u, .int .i64 m]) ∧ R u w' ∧ Below w.heap.size w w' := by
 have hb0 : Below w.heap.size w (w.alloc (.cells #[.slice A 0 c, .slice Q 1 d] 47)) := (Below.refl _ _).alloc (Nat.le_refl _) _
 have HL0 := Lib.hid (Lies.made w 47 #[.slice A 0 c, .slice Q 1 d])
 have HNW := Lib.hid (fbNew0 A c Q d _ (h.later hb0))
 have HB0 := Lib.hid hb0
 have HLD := Lib.hid HLD
 have HRD := Lib.hid (fun (q : World) => snapRead s q hs)
 rw [hX, hE] at HRD
 obtain ⟨rfl, rfl, rfl⟩ := hn
 clear h hb0 hX hE
 go_enter Try.func13, Try.ntmps13
 go_wp2_with fail
 generalize w.alloc (.cells #[.slice A 0 c, .slice Q 1 d] 47) = w1 at *
 refine HNW.out.mono ?_
 rintro e w2 ⟨F, z, rfl, hf, hb2⟩
 have HB2 := Lib.hid (HB0.out.trans (hb2.mono HB0.out.size))
 have HL2 := Lib.hid (HL0.out.below hb2 HL0.out.lt)
 clear hf hb2 HNW HB0 HL0
 go_wp2_with fail
 refine (HRD.out _).mono ?_
 rintro e w3 ⟨tv, rv, rfl, ht, hr, hb3⟩
 obtain ⟨T1, T2, rfl⟩ : ∃ A c, tv = .slice A S.th.length c := by obtain ⟨ps, h1, h2, _⟩ := ht; obtain ⟨A, c, e, _⟩ := own_form2 h2; exact ⟨A, c, e⟩
 obtain ⟨U1, U2, rfl⟩ : ∃ A c, rv = .slice A S.rg.length c := by obtain ⟨ps, h1, h2, _⟩ := hr; obtain ⟨A, c, e, _⟩ := own_form2 h2; exact ⟨A, c, e⟩
 have HB3 := Lib.hid (HB2.out.trans (hb3.mono HB2.out.size))
 have HL3 := Lib.hid (HL2.out.below hb3 HL2.out.lt)
 have HZ3 := Lib.hid (Lies.made w3 26 stZ2)
 have HS3 : Hid (w2.heap.size ≤ w3.heap.size ∧ w.heap.size ≤ w2.heap.size) := ⟨hb3.size, HB2.out.size⟩
 have HTR : Hid (OwT w3 w2.heap.size (.slice T1 S.th.length T2) S.th ∧ OwR w3 w2.heap.size (.slice U1 S.rg.length U2) S.rg) := ⟨ht, hr⟩
 clear ht hr hb3 HB2 HL2 HRD
 go_upto_region 5 with (first | fail | refine wpList_store_row rfl 26 _ _ rfl w3.heap.size (stC (.slice T1 S.th.length T2) (.slice U1 S.rg.length U2) S.now S.rds S.en) rfl rfl 26 stZ2 HZ3.out infoSt2 rfl (stC_one2 rfl rfl) ?_)
 have hbx : Below w3.heap.size w3 (w3.alloc (.cells stZ2 26)) := (Below.refl _ _).alloc (Nat.le_refl _) _
 have k9 := kept_row2 (w := w3.alloc (.cells stZ2 26)) (g := w3.heap.size) (stC (.slice T1 S.th.length T2) (.slice U1 S.rg.length U2) S.now S.rds S.en)
 have hb4 : Below w3.heap.size w3 ((w3.alloc (.cells stZ2 26)).setRow w3.heap.size (stC (.slice T1 S.th.length T2) (.slice U1 S.rg.length U2) S.now S.rds S.en)) := hbx.trans (k9.below hbx.size (fun r hr (e : r = w3.heap.size) => by omega))
 have HZ4 := Lib.hid (lies_row2 HZ3.out (stC (.slice T1 S.th.length T2) (.slice U1 S.rg.length U2) S.now S.rds S.en))
 have HB4 := Lib.hid (HB3.out.trans (hb4.mono HB3.out.size))
 have HL4 := Lib.hid (HL3.out.below hb4 HL3.out.lt)
 have HTR4 : Hid (OwT ((w3.alloc (.cells stZ2 26)).setRow w3.heap.size (stC (.slice T1 S.th.length T2) (.slice U1 S.rg.length U2) S.now S.rds S.en)) w2.heap.size (.slice T1 S.th.length T2) S.th ∧ OwR ((w3.alloc (.cells stZ2 26)).setRow w3.heap.size (stC (.slice T1 S.th.length T2) (.slice U1 S.rg.length U2) S.now S.rds S.en)) w2.heap.size (.slice U1 S.rg.length U2) S.rg) :=
  ⟨owT_kept HTR.out.1 (Kept.of_below hb4) (fun _ _ _ _ _ (hx : False) => hx), owR_kept HTR.out.2 (Kept.of_below hb4) (fun _ _ _ _ _ (hx : False) => hx)⟩
 clear hbx k9 hb4 HZ3 HB3 HL3 HTR
 generalize (w3.alloc (.cells stZ2 26)).setRow w3.heap.size (stC (.slice T1 S.th.length T2) (.slice U1 S.rg.length U2) S.now S.rds S.en) = w4 at *
 have hldS := st_loadL2 HZ4.out
 have p0 := (HL4.out.cell 0).trans (show _ = some (Value.slice A 0 c) from rfl)
 have p1 := (HL4.out.cell 1).trans (show _ = some (Value.slice Q 1 d) from rfl)
 have pl := HL4.out.lt
 have zl := HZ4.out.lt
 go_wp2_with (first | refine wpList_load_known rfl _ _ rfl w3.heap.size 0 rfl _ hldS ?_)
 have hT : OwT w4 w.heap.size (.slice T1 S.th.length T2) S.th := by
  obtain ⟨ps, h1, h2, h3⟩ := HTR4.out.1
  exact ⟨ps, h1, owns_mono h2 HS3.out.2, fun p hp => (h3 p hp).mono HS3.out.2⟩
 have hR : OwR w4 w.heap.size (.slice U1 S.rg.length U2) S.rg := by
  obtain ⟨ps, h1, h2, h3⟩ := HTR4.out.2
  exact ⟨ps, h1, owns_mono h2 HS3.out.2, fun p hp => ⟨(h3 p hp).1.mono HS3.out.2, (h3 p hp).2.mono HS3.out.2⟩⟩
 refine (HLD.out _ _ _ HB4.out hT hR).mono ?_
 rintro e w5 ⟨u, rfl, hu, hb5⟩
 have HU : Hid (R u w5 ∧ Below w.heap.size w w5) := ⟨hu, HB4.out.trans (hb5.mono HB4.out.size)⟩
 clear hT hR hu hb5 hldS p0 p1 pl zl HL4 HZ4 HTR4 HB4 HLD
 go_wp2_with fail
 go_ret2
 exact ⟨u, rfl, HU.out⟩
def smB (z : Int) : Bool := decide (0 ≤ z) && decide (z ≤ 65535)
def thEB (x : Th) : Bool := decide (x.sn.length ≤ 65536) && (smB x.at_ && (smB x.ph && (smB x.rg && smB x.st)))
def rgEB (x : Rs) : Bool := decide (x.hs.length ≤ 8) && (decide (x.sl.length ≤ 64) && x.sl.all (fun y => smB y.l))
def encB (S : Sta) : Bool := decide (S.th.length ≤ 8) && (decide (S.rg.length ≤ 8) && (S.th.all thEB && S.rg.all rgEB))
theorem snapSmall (z : Int) (w : World) : Calls Try.prog 34 #[.int .i64 z] w fun e w' => e = .returned (.bool (smB z)) ∧ w = w' := by
 by_cases h : 0 ≤ z
 ·have q1 : decide (z ≥ 0) = true := decide_eq_true h
  have q2 : decide (0 ≤ z) = true := decide_eq_true h
  go_enter Try.func34, Try.ntmps34
  go_wp2
  go_ret
  exact ⟨by unfold smB; rw [decide_eq_true h]; rfl, rfl⟩
 ·have q1 : decide (z ≥ 0) = false := decide_eq_false h
  have q2 : decide (0 ≤ z) = false := decide_eq_false h
  go_enter Try.func34, Try.ntmps34
  go_wp2
  go_ret
  exact ⟨by unfold smB; rw [decide_eq_false (show ¬ 0 ≤ z by omega)]; rfl, rfl⟩
theorem snapTruth (b : Bool) (w : World) : Calls Try.prog 18 #[.bool b] w fun e w' => e = .returned (.int .u64 (tru b : Int)) ∧ w = w' := by
 cases b
 ·go_enter Try.func18, Try.ntmps18
  go_wp2
  go_ret
  exact ⟨rfl, rfl⟩
 ·go_enter Try.func18, Try.ntmps18
  go_wp2
  go_ret
  exact ⟨rfl, rfl⟩
def SxAt (w : World) (cs : Array Value) (q : World) : Prop := Below w.heap.size w q ∧ Lies q w.heap.size 26 cs
theorem SxAt.later {w q q1 : World} {cs : Array Value} (h : SxAt w cs q) (k : Below q.heap.size q q1) : SxAt w cs q1 := ⟨h.1.trans (k.mono h.1.size), h.2.below k h.2.lt⟩
theorem SxAt.start (w : World) (cs : Array Value) : SxAt w cs (w.alloc (.cells cs 26)) := ⟨(Below.refl _ _).alloc (Nat.le_refl _) _, Lies.made _ _ _⟩
theorem all_take {α : Type} {f : α → Bool} {l : List α} {k : Nat} {x : α} (ha : ∀ y ∈ l.take k, f y = true) (hx : l[k]? = some x) (hr : f x = true) : ∀ y ∈ l.take (k + 1), f y = true := by
 intro y hy
 rw [List.take_add_one, hx, Option.toList_some, List.mem_append] at hy
 rcases hy with hy | hy
 ·exact ha y hy
 ·rw [List.mem_singleton] at hy; subst hy; exact hr
theorem all_bad {α : Type} {f : α → Bool} {l : List α} {k : Nat} {x : α} (hx : l[k]? = some x) (hr : f x = false) : l.all f = false := by
 rw [List.all_eq_false]; exact ⟨x, List.mem_of_getElem? hx, by rw [hr]; decide⟩
theorem all_whole {α : Type} {f : α → Bool} {l : List α} (ha : ∀ y ∈ l.take l.length, f y = true) : l.all f = true := by rw [List.take_length] at ha; exact List.all_eq_true.2 ha
set_option maxHeartbeats 8000000 in
set_option maxRecDepth 100000 in
theorem snapEnc (S : Sta) (A B : Option Addr) (c d : Nat) (w : World) (ht : ThsR w (.slice A S.th.length c) S.th) (hr : RgsR w (.slice B S.rg.length d) S.rg) :
  Calls Try.prog 15 #[.agg (stC (.slice A S.th.length c) (.slice B S.rg.length d) S.now S.rds S.en)] w fun e w' => e = .returned (.bool (encB S)) ∧ Below w.heap.size w w' := by
 obtain ⟨hc1, hc2⟩ := ht.caps
 obtain ⟨hd1, hd2⟩ := hr.caps
 have HT := Lib.hid ht
 have HR := Lib.hid hr
 have HD : Hid (encB S = (decide (S.th.length ≤ 8) && (decide (S.rg.length ≤ 8) && (S.th.all thEB && S.rg.all rgEB)))) := rfl
 have HI := Lib.hid (SxAt.start w (stC (.slice A S.th.length c) (.slice B S.rg.length d) S.now S.rds S.en))
 obtain ⟨now, hnow⟩ : ∃ x, S.now = x := ⟨_, rfl⟩
 obtain ⟨rds, hrds⟩ : ∃ x, S.rds = x := ⟨_, rfl⟩
 obtain ⟨en, hen⟩ : ∃ x, S.en = x := ⟨_, rfl⟩
 rw [hnow, hrds, hen] at HI ⊢
 clear ht hr hnow hrds hen
 have x0 := (HI.out.2.cell 0).trans (show _ = some (Value.slice A S.th.length c) from rfl)
 have x1 := (HI.out.2.cell 1).trans (show _ = some (Value.slice B S.rg.length d) from rfl)
 have xl := HI.out.2.lt
 by_cases h8 : S.th.length ≤ 8
 case neg =>
  have q1 : decide ((S.th.length : Int) > 8) = true := decide_eq_true (by omega)
  have q2 : decide ((8 : Int) < (S.th.length : Int)) = true := decide_eq_true (by omega)
  have hE : encB S = false := by rw [HD.out, decide_eq_false h8]; rfl
  go_enter Try.func15, Try.ntmps15
  go_wp2_with fail
  go_ret
  exact ⟨ret_bool hE.symm, HI.out.1⟩
 have q1 : decide ((S.th.length : Int) > 8) = false := decide_eq_false (by omega)
 have q2 : decide ((8 : Int) < (S.th.length : Int)) = false := decide_eq_false (by omega)
 have q20 : ¬ 8 < S.th.length := by omega
 by_cases g8 : S.rg.length ≤ 8
 case neg =>
  have q3 : decide ((S.rg.length : Int) > 8) = true := decide_eq_true (by omega)
  have q4 : decide ((8 : Int) < (S.rg.length : Int)) = true := decide_eq_true (by omega)
  have hE : encB S = false := by rw [HD.out, decide_eq_false g8, Bool.false_and, Bool.and_false]
  go_enter Try.func15, Try.ntmps15
  go_wp2_with fail
  go_ret
  exact ⟨ret_bool hE.symm, HI.out.1⟩
 have q3 : decide ((S.rg.length : Int) > 8) = false := decide_eq_false (by omega)
 have q4 : decide ((8 : Int) < (S.rg.length : Int)) = false := decide_eq_false (by omega)
 have q40 : ¬ 8 < S.rg.length := by omega
 have HD := Lib.hid (HD.out.trans (show _ = (S.th.all thEB && S.rg.all rgEB) by rw [decide_eq_true h8, decide_eq_true g8]; rfl))
 go_enter Try.func15, Try.ntmps15
 go_wp2_with fail
 generalize w.alloc _ = w1 at *
 clear x0 x1 xl
 go_loopw [22] (fun u wr => ∃ k : Nat, k ≤ S.th.length ∧ u = .int .i64 k ∧ Hid (∀ y ∈ S.th.take k, thEB y = true) ∧ Hid (SxAt w (stC (.slice A S.th.length c) (.slice B S.rg.length d) now rds en) wr)) (fun u _ => S.th.length - (intOf u).toNat)
 case atStart => exact ⟨0, by omega, rfl, (by show ∀ y ∈ S.th.take 0, _; simp), HI⟩
 case round =>
  clear HI
  obtain ⟨k, hk, rfl, HA, HI⟩ := hrel
  by_cases hlt : k < S.th.length
  ·have hki : (k : Int) < (S.th.length : Int) := by omega
   obtain ⟨x, hx⟩ : ∃ x, S.th[k]? = some x := ⟨_, List.getElem?_eq_getElem hlt⟩
   obtain ⟨T, o, Sn, ds, rfl, hTl, hcell, _, hs1, hs2⟩ := (HT.out.later HI.out.1).at_ hx
   have hld := th_load2 hcell
   have HX := Lib.hid hx
   have hE : Hid (thEB x = (decide (x.sn.length ≤ 65536) && (smB x.at_ && (smB x.ph && (smB x.rg && smB x.st))))) := rfl
   have hb := (Below.refl wr.heap.size wr).alloc (Nat.le_refl _) (.cells (thC x (.slice Sn x.sn.length ds)) 40)
   have HI2 := Lib.hid (HI.out.later hb)
   have HL := Lib.hid (Lies.made wr 40 (thC x (.slice Sn x.sn.length ds)))
   have y0 := (HL.out.cell 0).trans (show _ = some (Value.int .i64 x.at_) from rfl)
   have y1 := (HL.out.cell 1).trans (show _ = some (Value.int .i64 x.ph) from rfl)
   have y2 := (HL.out.cell 2).trans (show _ = some (Value.int .i64 x.rg) from rfl)
   have y3 := (HL.out.cell 3).trans (show _ = some (Value.int .i64 x.st) from rfl)
   have y6 := (HL.out.cell 13).trans (show _ = some (Value.slice Sn x.sn.length ds) from rfl)
   have yl := HL.out.lt
   clear hcell hx hb HI
   by_cases hl : x.sn.length ≤ 65536
   case neg =>
    have q5 : decide ((x.sn.length : Int) > 65536) = true := decide_eq_true (by omega)
    have q6 : decide ((65536 : Int) < (x.sn.length : Int)) = true := decide_eq_true (by omega)
    have hF : encB S = false := by rw [HD.out, all_bad HX.out (show thEB x = false by rw [hE.out, decide_eq_false hl]; rfl)]; rfl
    go_wp2_with (first | refine wpList_load_known rfl _ _ rfl T (o + k * 14) rfl _ hld ?_)
    go_ret
    exact ⟨ret_bool hF.symm, HI2.out.1⟩
   have q5 : decide ((x.sn.length : Int) > 65536) = false := decide_eq_false (by omega)
   have q6 : decide ((65536 : Int) < (x.sn.length : Int)) = false := decide_eq_false (by omega)
   have q60 : ¬ 65536 < x.sn.length := by omega
   have hcs : (smB x.at_ = false) ∨ (smB x.at_ = true ∧ smB x.ph = false) ∨ (smB x.at_ = true ∧ smB x.ph = true ∧ smB x.rg = false) ∨ (smB x.at_ = true ∧ smB x.ph = true ∧ smB x.rg = true ∧ smB x.st = false) ∨ (smB x.at_ = true ∧ smB x.ph = true ∧ smB x.rg = true ∧ smB x.st = true) := by
    cases smB x.at_ <;> cases smB x.ph <;> cases smB x.rg <;> cases smB x.st <;> simp
   rcases hcs with s1 | ⟨s1, s2⟩ | ⟨s1, s2, s3⟩ | ⟨s1, s2, s3, s4⟩ | ⟨s1, s2, s3, s4⟩
   case inr.inr.inr.inr =>
    have hT : Hid (thEB x = true) := hE.out.trans (by rw [decide_eq_true hl, s1, s2, s3, s4]; rfl)
    clear HD hE
    go_wp2_with (first | refine wpList_load_known rfl _ _ rfl T (o + k * 14) rfl _ hld ?_ | (refine (snapSmall _ _).mono ?_; rintro e w' ⟨rfl, rfl⟩))
    exact ⟨⟨k + 1, by omega, by go_num, all_take HA.out HX.out hT.out, HI2⟩, by simp [intOf]; omega⟩
   case inl =>
    have hF : encB S = false := by rw [HD.out, all_bad HX.out (show thEB x = false by rw [hE.out, s1]; simp)]; rfl
    clear HD hE
    go_wp2_with (first | refine wpList_load_known rfl _ _ rfl T (o + k * 14) rfl _ hld ?_ | (refine (snapSmall _ _).mono ?_; rintro e w' ⟨rfl, rfl⟩))
    go_ret
    exact ⟨ret_bool hF.symm, HI2.out.1⟩
   case inr.inl =>
    have hF : encB S = false := by rw [HD.out, all_bad HX.out (show thEB x = false by rw [hE.out, s1, s2]; simp)]; rfl
    clear HD hE
    go_wp2_with (first | refine wpList_load_known rfl _ _ rfl T (o + k * 14) rfl _ hld ?_ | (refine (snapSmall _ _).mono ?_; rintro e w' ⟨rfl, rfl⟩))
    go_ret
    exact ⟨ret_bool hF.symm, HI2.out.1⟩
   case inr.inr.inl =>
    have hF : encB S = false := by rw [HD.out, all_bad HX.out (show thEB x = false by rw [hE.out, s1, s2, s3]; simp)]; rfl
    clear HD hE
    go_wp2_with (first | refine wpList_load_known rfl _ _ rfl T (o + k * 14) rfl _ hld ?_ | (refine (snapSmall _ _).mono ?_; rintro e w' ⟨rfl, rfl⟩))
    go_ret
    exact ⟨ret_bool hF.symm, HI2.out.1⟩
   case inr.inr.inr.inl =>
    have hF : encB S = false := by rw [HD.out, all_bad HX.out (show thEB x = false by rw [hE.out, s1, s2, s3, s4]; simp)]; rfl
    clear HD hE
    go_wp2_with (first | refine wpList_load_known rfl _ _ rfl T (o + k * 14) rfl _ hld ?_ | (refine (snapSmall _ _).mono ?_; rintro e w' ⟨rfl, rfl⟩))
    go_ret
    exact ⟨ret_bool hF.symm, HI2.out.1⟩
  ·obtain rfl : k = S.th.length := by omega
   have HD2 := Lib.hid (HD.out.trans (show _ = S.rg.all rgEB by rw [all_whole HA.out]; rfl))
   have x1 := (HI.out.2.cell 1).trans (show _ = some (Value.slice B S.rg.length d) from rfl)
   have xl := HI.out.2.lt
   clear HD HA
   go_wp2_with fail
   clear x1 xl
   go_loopw [58] (fun u wr => ∃ k : Nat, k ≤ S.rg.length ∧ u = .int .i64 k ∧ Hid (∀ y ∈ S.rg.take k, rgEB y = true) ∧ Hid (SxAt w (stC (.slice A S.th.length c) (.slice B S.rg.length d) now rds en) wr)) (fun u _ => S.rg.length - (intOf u).toNat)
   case atStart => exact ⟨0, by omega, rfl, (by show ∀ y ∈ S.rg.take 0, _; simp), HI⟩
   case round =>
    clear HI
    obtain ⟨k, hk, rfl, HA, HI⟩ := hrel
    by_cases hlt : k < S.rg.length
    ·have hki : (k : Int) < (S.rg.length : Int) := by omega
     obtain ⟨x, hx⟩ : ∃ x, S.rg[k]? = some x := ⟨_, List.getElem?_eq_getElem hlt⟩
     obtain ⟨T, o, S1, d1, S2, d2, rfl, hTl, hcell, ⟨_, p1, p2⟩, hsl, p3, p4⟩ := (HR.out.later HI.out.1).at_ hx
     have hld := rg_load2 hcell
     have HX := Lib.hid hx
     have hE : Hid (rgEB x = (decide (x.hs.length ≤ 8) && (decide (x.sl.length ≤ 64) && x.sl.all (fun y => smB y.l)))) := rfl
     have hb := (Below.refl wr.heap.size wr).alloc (Nat.le_refl _) (.cells (rgC2 x.tl (.slice S1 x.hs.length d1) x.cl (.slice S2 x.sl.length d2)) 54)
     have HI2 := Lib.hid (HI.out.later hb)
     have HL := Lib.hid (Lies.made wr 54 (rgC2 x.tl (.slice S1 x.hs.length d1) x.cl (.slice S2 x.sl.length d2)))
     have HS := Lib.hid (hsl.later hb)
     have y1 := (HL.out.cell 1).trans (show _ = some (Value.slice S1 x.hs.length d1) from rfl)
     have y3 := (HL.out.cell 3).trans (show _ = some (Value.slice S2 x.sl.length d2) from rfl)
     have yl := HL.out.lt
     clear hcell hx hb HI hsl
     by_cases h8 : x.hs.length ≤ 8
     case neg =>
      have q5 : decide ((x.hs.length : Int) > 8) = true := decide_eq_true (by omega)
      have q6 : decide ((8 : Int) < (x.hs.length : Int)) = true := decide_eq_true (by omega)
      have hF : encB S = false := by rw [HD2.out, all_bad HX.out (show rgEB x = false by rw [hE.out, decide_eq_false h8]; rfl)]
      go_wp2_with (first | refine wpList_load_known rfl _ _ rfl T (o + k * 4) rfl _ hld ?_)
      go_ret
      exact ⟨ret_bool hF.symm, HI2.out.1⟩
     have q5 : decide ((x.hs.length : Int) > 8) = false := decide_eq_false (by omega)
     have q6 : decide ((8 : Int) < (x.hs.length : Int)) = false := decide_eq_false (by omega)
     have q60 : ¬ 8 < x.hs.length := by omega
     by_cases h64 : x.sl.length ≤ 64
     case neg =>
      have q7 : decide ((x.sl.length : Int) > 64) = true := decide_eq_true (by omega)
      have q8 : decide ((64 : Int) < (x.sl.length : Int)) = true := decide_eq_true (by omega)
      have hF : encB S = false := by rw [HD2.out, all_bad HX.out (show rgEB x = false by rw [hE.out, decide_eq_false h64, Bool.false_and, Bool.and_false])]
      go_wp2_with (first | refine wpList_load_known rfl _ _ rfl T (o + k * 4) rfl _ hld ?_)
      go_ret
      exact ⟨ret_bool hF.symm, HI2.out.1⟩
     have q7 : decide ((x.sl.length : Int) > 64) = false := decide_eq_false (by omega)
     have q8 : decide ((64 : Int) < (x.sl.length : Int)) = false := decide_eq_false (by omega)
     have q80 : ¬ 64 < x.sl.length := by omega
     have hE := Lib.hid (hE.out.trans (show _ = x.sl.all (fun y => smB y.l) by rw [decide_eq_true h8, decide_eq_true h64]; rfl))
     go_wp2_with (first | refine wpList_load_known rfl _ _ rfl T (o + k * 4) rfl _ hld ?_)
     generalize wr.alloc _ = w5 at *
     clear y1 y3 yl hld
     go_loopw [75] (fun u wr => ∃ j : Nat, j ≤ x.sl.length ∧ u = .int .i64 j ∧ Hid (∀ y ∈ x.sl.take j, smB y.l = true) ∧ Hid (Below w5.heap.size w5 wr)) (fun u _ => x.sl.length - (intOf u).toNat)
     case atStart => exact ⟨0, by omega, rfl, (by show ∀ y ∈ x.sl.take 0, _; simp), Below.refl _ _⟩
     case round =>
      obtain ⟨j, hj, rfl, HB, HW⟩ := hrel
      have HI5 := Lib.hid (HI2.out.later HW.out)
      by_cases hlj : j < x.sl.length
      ·have hji : (j : Int) < (x.sl.length : Int) := by omega
       obtain ⟨y, hy⟩ : ∃ y, x.sl[j]? = some y := ⟨_, List.getElem?_eq_getElem hlj⟩
       obtain ⟨b3, o3, rfl, hbl, hc3⟩ := SeqS.at_ slF_length (by decide) (HS.out.later HW.out) hy
       have hld2 : (loadVar 64 ⟨b3, o3 + j * 3, none⟩).run Try.prog wr = .ok (.agg #[.int .u64 (y.s : Int), .int .u64 (y.v : Int), .int .i64 y.l]) wr := sl_load2 (b := b3) (off := o3 + j * 3) (x := y) (fun i u hu => hc3 i u (by have := (List.getElem?_eq_some_iff.1 hu).1; rw [slF_length] at this; exact this) hu)
       have HY := Lib.hid hy
       have hb6 := (Below.refl wr.heap.size wr).alloc (Nat.le_refl _) (.cells (slF y).toArray 64)
       have HI6 := Lib.hid (HI5.out.later hb6)
       have HW6 := Lib.hid (then_ HW.out hb6)
       have HL6 : Hid (Lies (wr.alloc (.cells #[.int .u64 (y.s : Int), .int .u64 (y.v : Int), .int .i64 y.l] 64)) wr.heap.size 64 #[.int .u64 (y.s : Int), .int .u64 (y.v : Int), .int .i64 y.l]) := Lies.made _ _ _
       have y2 := (HL6.out.cell 2).trans (show _ = some (Value.int .i64 y.l) from rfl)
       have yl := HL6.out.lt
       clear hy hc3 hb6
       cases s1 : smB y.l
       ·have hF : encB S = false := by rw [HD2.out, all_bad HX.out (hE.out.trans (all_bad HY.out s1))]
        go_wp2_with (first | refine wpList_load_known rfl _ _ rfl b3 (o3 + j * 3) rfl _ hld2 ?_ | (refine (snapSmall _ _).mono ?_; rintro e w' ⟨rfl, rfl⟩))
        go_ret
        exact ⟨ret_bool hF.symm, HI6.out.1⟩
       ·go_wp2_with (first | refine wpList_load_known rfl _ _ rfl b3 (o3 + j * 3) rfl _ hld2 ?_ | (refine (snapSmall _ _).mono ?_; rintro e w' ⟨rfl, rfl⟩))
        exact ⟨⟨j + 1, by omega, by go_num, all_take HB.out HY.out s1, HW6⟩, by simp [intOf]; omega⟩
      ·obtain rfl : j = x.sl.length := by omega
       have hR := all_take HA.out HX.out (hE.out.trans (all_whole HB.out))
       have HR2 := Lib.hid hR
       clear hR
       go_wp2_with fail
       go_roundw
       case rel => exact ⟨k + 1, by omega, by go_num, HR2, HI5⟩
       case measure => simp [intOf]; omega
    ·obtain rfl : k = S.rg.length := by omega
     have hF : encB S = true := by rw [HD2.out]; exact all_whole HA.out
     go_wp2_with fail
     go_ret
     exact ⟨ret_bool hF.symm, HI.out.1⟩
def WrAt (w : World) (B g : Nat) (b : ByteArray) : Prop := B ≤ g ∧ ∃ v, Lies w g 59 #[v] ∧ w.ownsRow B 5 1 v b.size (Lib.strCells b)
def wrRows (w : World) (B g : Nat) : Nat → Prop := fun k => B ≤ k ∧ (k = g ∨ ∃ cur, Lies w k 5 cur)
theorem wrRows_of (w : World) {B g : Nat} {v : Value} {n : Nat} {xs : List Value} (hb : B ≤ g) (h : w.ownsRow B 5 1 v n xs) : ∀ k, v.ownBlock = some k → wrRows w B g k := by
 intro k hk
 rcases owns_row h with ⟨rfl, _⟩ | ⟨r, cap, cur, rfl, hr, hl, _⟩
 ·cases hk
 ·obtain rfl : r = k := by simpa [Value.ownBlock] using hk
  exact ⟨hr, .inr ⟨cur, hl⟩⟩
theorem WrAt.kept {S : Nat → Prop} {w w' : World} {B g : Nat} {b : ByteArray} (h : WrAt w B g b) (k : Kept S w w') (h1 : ¬ S g) (h2 : ∀ r cur, Lies w r 5 cur → ¬ S r) : WrAt w' B g b := by
 obtain ⟨hb, v, hl, ho⟩ := h
 exact ⟨hb, v, hl.kept k h1, owns_kept ho k (fun r cur _ hl => h2 r cur hl)⟩
theorem wr_store {w0 w1 : World} {B g : Nat} {v v' : Value} {b b' : ByteArray} (hb : B ≤ g) (hl : Lies w0 g 59 #[v]) (ho : w0.ownsRow B 5 1 v b.size (Lib.strCells b))
  (ho' : w1.ownsRow B 5 1 v' b'.size (Lib.strCells b')) (hg : w0.grownBy w1 v.ownBlock) :
  WrAt (w1.setCell ⟨g, 0, none⟩ v') B g b' ∧ Kept (wrRows w0 B g) w0 (w1.setCell ⟨g, 0, none⟩ v') ∧ Lies w1 g 59 #[v] := by
 have k1 : Kept (fun k => v.ownBlock = some k) w0 w1 := Kept.of_grown hg
 have hne : ¬ (v.ownBlock = some g) := by
  intro hv
  rcases owns_row ho with ⟨rfl, _⟩ | ⟨r, cap, cur, rfl, hr, hl2, _⟩
  ·cases hv
  ·obtain rfl : r = g := by simpa [Value.ownBlock] using hv
   have := (hl2.same hl).1
   simp at this
 have hl1 := hl.kept k1 hne
 refine ⟨⟨hb, v', ?_, owns_put ho' hl1 (by decide) 0 v'⟩, (k1.mono fun k _ hk => wrRows_of w0 hb ho k hk).trans (Kept.put _ g 0 _) (fun i _ (h : i = g) => by subst h; exact ⟨hb, .inl rfl⟩), hl1⟩
 have := hl1.put 0 v'
 simpa using this
theorem octetText (B g : Nat) (b s : ByteArray) (w : World) (h : WrAt w B g b) (hs : b.size + s.size ≤ 140737488355328) : Calls Try.prog 35 #[.pointer (some ⟨g, 0, none⟩), .string s] w fun e w' =>
  e = .returned (.tuple #[]) ∧ WrAt w' B g (b ++ s) ∧ Kept (wrRows w B g) w w' := by
 obtain ⟨hb, v, hl, ho⟩ := h
 obtain ⟨i0, hi, hz0, hz1, hz2⟩ := info_parts Try.infoU8
 have c0 : w.cell? ⟨g, 0, none⟩ = some v := hl.cell 0
 have hgs := hl.lt
 have HL := Lib.hid hl
 clear hl
 go_enter Try.func35, Try.ntmps35
 go_wp2_with (first
  | (at_builtin; refine Lib.wpList_append_own_string _ rfl (.tmp 10) (.tmp 11) 55 9 rfl B 5 i0 Try.underlying55 Try.underlying9 hi hz0 hz1 hz2 v b.size (Lib.strCells b) rfl ho s rfl (by unfold maxLen; omega) hs (by omega) ?_))
 intro v' w1 ho' hgr _
 have ho2 : w1.ownsRow B 5 1 v' (b ++ s).size (Lib.strCells (b ++ s)) := by rw [strCells_append, ByteArray.size_append]; exact ho'
 obtain ⟨r1, r2, r3⟩ := wr_store hb HL.out ho ho2 hgr
 have d0 : w1.cell? ⟨g, 0, none⟩ = some v := r3.cell 0
 have d1 : w1.frozen? ⟨g, 0, none⟩ = false := r3.free 0
 have R1 := Lib.hid r1
 have R2 := Lib.hid r2
 clear r1 r2 r3 c0 hgr ho HL
 rcases owns_row ho' with ⟨rfl, _⟩ | ⟨r, cap, cur, rfl, _⟩
 all_goals
  clear ho' ho2
  go_wp2
  go_end0
  exact ⟨rfl, R1.out, R2.out⟩
theorem octetString (B g : Nat) (b : ByteArray) (w : World) (h : WrAt w B g b) (hs : b.size ≤ maxLen) :
  Calls Try.prog 19 #[.pointer (some ⟨g, 0, none⟩)] w fun e w' =>
  e = .returned (.string b) ∧ w = w' := by
 obtain ⟨hb, v, hl, ho⟩ := h
 have c0 : w.cell? ⟨g, 0, none⟩ = some v := hl.cell 0
 clear hl
 rcases owns_row ho with ⟨rfl, h0, _⟩ | ⟨r, cap, cur, rfl, _⟩
 ·have hb0 : b = ByteArray.empty := ByteArray.size_eq_zero_iff.1 h0
  subst hb0
  have hcv := Lib.run_convert_nil_bytes (P := Try.prog) w 55 9 5 0 Try.underlying55 Try.underlying5 Try.underlying9
  clear ho h0
  go_enter Try.func19, Try.ntmps19
  go_wp2
  go_ret
  exact ⟨rfl, rfl⟩
 ·have hcv := Lib.run_convert_whole (P := Try.prog) w 55 5 9 Try.underlying55 Try.underlying5 Try.underlying9 r 0 b (fun i hi => by
   rw [Nat.zero_add, ← addr_add]
   exact ho.cells (g := r) rfl i _ (by simp only [Lib.strCells, List.getElem?_map, byte_at b i hi]; rfl)) cap
  clear ho
  go_enter Try.func19, Try.ntmps19
  go_wp2
  go_ret
  exact ⟨rfl, rfl⟩
theorem WrAt.fresh (w : World) (B : Nat) (hB : B ≤ w.heap.size) : WrAt (w.alloc (.cells #[.slice none 0 0] 59)) B w.heap.size ByteArray.empty :=
 ⟨hB, _, Lies.made _ _ _, World.ownsRow_nil _ _ _ _⟩
theorem varintPrint (n : Nat) (w : World) (hn : n < M64) : Calls Try.prog 36 #[.int .u64 n] w fun e w' => e = .returned (.string (textB (enc n))) ∧ Below w.heap.size w w' := by
 go_enter Try.func36, Try.ntmps36
 go_wp2_with fail
 refine (varintGrow (.slice none 0 0) [] n w w.heap.size (Nat.le_refl _) (World.ownsRow_nil _ _ _ _) (by simp) hn).mono ?_
 rintro e w1 ⟨v, rfl, ho, hb⟩
 have hcv := convert_owned w1 _ v _ _ rfl ho
 clear ho
 go_wp2
 go_ret
 exact ⟨rfl, hb⟩
def onP (A Z : World → Prop) (m : Nat) (x : Nat → Value) (q : World) : Prop := if m = 0 then A q else Z q
section
variable {A Z : World → Prop} {k i : Nat} {pre : List (List Nat)} {x : Nat → Value} {L : Nat → Bool} {q q' : World} {v : Value}
theorem on_pha (hA : ∀ q q', Below q.heap.size q q' → A q → A q') (hZ : ∀ q q', Below q.heap.size q q' → Z q → Z q') : Pha [k] (onP A Z) :=
 ⟨fun m x q q' hb h => by
  unfold onP at h ⊢
  split
  ·rename_i e; rw [if_pos e] at h; exact hA _ _ hb h
  ·rename_i e; rw [if_neg e] at h; exact hZ _ _ hb h, fun m x y q he h => h⟩
theorem on_get (h : PhS [k] pre (onP A Z) x L q) (hL : L k = false) : A q := ph_get (m := 0) (j0 := 0) h (by simp) hL (.inl rfl)
theorem on_put (h : PhS [k] pre (onP A Z) x L q) (hL : L k = false) (hpre : ∀ j ∈ pre.getD 0 [], L j = true) (hz : Z q') : PhS [k] pre (onP A Z) (updX x k v) (updL L k) q' := ph_put (m := 0) (by simp) h (by simp) rfl hL 0 (.inl rfl) hpre hz
theorem on_end (h : PhS [k] pre (onP A Z) x L q) (hL : L k = true) : Z q := ph_end h 0 rfl hL
end
theorem wrRows_trans {a b c : World} {B g : Nat} {t : ByteArray} (hw : WrAt a B g t) (h : Kept (wrRows a B g) a b) (k : Kept (wrRows b B g) b c) : Kept (wrRows a B g) a c := by
 refine ⟨k.os.trans h.os, k.tape.trans h.tape, k.output.trans h.output, Nat.le_trans h.size k.size, fun r hr hn => ?_⟩
 have e := h.at_ r hr hn
 refine (k.at_ r (Nat.lt_of_lt_of_le hr h.size) (fun hs => hn ?_)).trans e
 refine ⟨hs.1, hs.2.imp id (fun ⟨cur, hl⟩ => ⟨cur, ?_⟩)⟩
 unfold Lies at hl ⊢
 rw [← e]; exact hl
def NmAt (w : World) (B g : Nat) (v : Value) (xs : List Nat) : Prop := ∀ w', Kept (wrRows w B g) w w' → SeqAt w' v (cells64 xs)
theorem NmAt.wrote {w w' : World} {B g : Nat} {t : ByteArray} {v : Value} {xs : List Nat} (h : NmAt w B g v xs) (hw : WrAt w B g t) (k : Kept (wrRows w B g) w w') : NmAt w' B g v xs := fun q hq => h q (wrRows_trans hw k hq)
theorem WrAt.later {w w' : World} {B g : Nat} {t : ByteArray} (h : WrAt w B g t) (k : Below w.heap.size w w') : WrAt w' B g t := h.kept (Kept.of_below k) (fun hf => hf) (fun _ _ _ hf => hf)
theorem NmAt.later {w w' : World} {B g : Nat} {v : Value} {xs : List Nat} (h : NmAt w B g v xs) (k : Below w.heap.size w w') : NmAt w' B g v xs := fun q hq => h q (by
 refine ⟨hq.os.trans k.os, hq.tape.trans k.tape, hq.output.trans k.output, Nat.le_trans k.size hq.size, fun r hr hn => ?_⟩
 have e := k.block r hr
 refine (hq.at_ r (Nat.lt_of_lt_of_le hr k.size) (fun hs => hn ?_)).trans e
 refine ⟨hs.1, hs.2.imp id (fun ⟨cur, hl⟩ => ⟨cur, ?_⟩)⟩
 unfold Lies at hl ⊢
 rw [← e]; exact hl)
theorem NmAt.seq {w : World} {B g : Nat} {v : Value} {xs : List Nat} (h : NmAt w B g v xs) : SeqAt w v (cells64 xs) := h w (Kept.refl _ _)
theorem NmAt.of_lies {w : World} {B g b o c : Nat} {T : TypeId} {cs : Array Value} {xs : List Nat} {t : ByteArray} (hw : WrAt w B g t) (hl : Lies w b T cs) (h1 : T ≠ 5) (h2 : T ≠ 59) (hc : xs.length ≤ c) (hm : c ≤ 1000) (hx : ∀ k u, (cells64 xs)[k]? = some u → cs[o + k]? = some u) : NmAt w B g (.slice (some ⟨b, o, none⟩) xs.length c) xs := fun w' k => by
 have hl2 := hl.kept k (fun hs => by
  rcases hs.2 with rfl | ⟨cur, h3⟩
  ·obtain ⟨_, v, h4, _⟩ := hw
   exact h2 (hl.same h4).1
  ·exact h1 (hl.same h3).1)
 refine ⟨some ⟨b, o, none⟩, c, by rw [cells64_length], by rw [cells64_length]; exact hc, by unfold maxLen; omega, fun k u hu => ⟨b, o, rfl, ?_⟩⟩
 rw [hl2.cell]; exact hx k u hu
theorem NmAt.of_old {w0 w : World} {B g n : Nat} {v : Value} {xs : List Nat} (h : SeqS w0 1 v n (cells64 xs)) (hb : Below w0.heap.size w0 w) (hB : w0.heap.size ≤ B) : NmAt w B g v xs := fun w' k => by
 have h2 := h.later (hb.trans (k.below hb.size (fun r hr hs => by have := hs.1; omega)))
 obtain ⟨h1, A, c, e, a1, a2, _, a4⟩ := h2
 have hl : (cells64 xs).length = n := by rw [h1, Nat.mul_one]
 exact ⟨A, c, by rw [e, hl], by rw [hl]; exact a1, a2, a4⟩
def nuA (w : World) (B g : Nat) (t : ByteArray) (q : World) : Prop := WrAt q B g t ∧ Kept (wrRows w B g) w q
theorem nuA_later {w q q' : World} {B g : Nat} {t : ByteArray} (hb : Below q.heap.size q q') (h : nuA w B g t q) : nuA w B g t q' := ⟨h.1.later hb, h.2.trans (Kept.of_below hb) (fun _ _ hf => hf.elim)⟩
theorem nu_pha {w : World} {B g k : Nat} {t t2 : ByteArray} : Pha [k] (onP (nuA w B g t) (nuA w B g t2)) := on_pha (fun _ _ hb h => nuA_later hb h) (fun _ _ hb h => nuA_later hb h)
theorem nu_op {w : World} {B g k i : Nat} {t t2 : ByteArray} {pre : List (List Nat)} {x : Nat → Value} {L : Nat → Bool} {q : World} {v : Value} (hi : [k].contains i = false) (h : PhS [k] pre (onP (nuA w B g t) (nuA w B g t2)) x L q) : PhS [k] pre (onP (nuA w B g t) (nuA w B g t2)) (updX x i v) (updL L i) q := ph_op nu_pha hi h
set_option maxHeartbeats 4000000 in
set_option maxRecDepth 100000 in
theorem wrNumbers (B g : Nat) (t : List UInt8) (xs : List Nat) (v : Value) (w : World) (h : WrAt w B g (textB t)) (hv : NmAt w B g v xs) (hx : ∀ n ∈ xs, n < M64) (hl : t.length + 10 * xs.length ≤ 1000000000) (hB : B ≤ w.heap.size) :
  Calls Try.prog 16 #[.pointer (some ⟨g, 0, none⟩), v] w fun e w' => e = .returned (.tuple #[]) ∧ WrAt w' B g (textB (t ++ encs xs)) ∧ Kept (wrRows w B g) w w' := by
 obtain ⟨A, c, e0, hc1, hc2, _⟩ := hv.seq
 rw [cells64_length] at e0 hc1
 subst e0
 unfold maxLen at hc2
 have HI : Hid (nuA w B g (textB (t ++ encs (xs.take 0))) w) := ⟨by simpa [encs] using h, Kept.refl _ _⟩
 have HV := Lib.hid hv
 have HX := Lib.hid hx
 have HH := Lib.hid h
 clear h hv hx
 go_enter Try.func16, Try.ntmps16
 go_wp2_with fail
 go_loopw [8] (fun u wr => ∃ k : Nat, k ≤ xs.length ∧ u = .int .i64 k ∧ Hid (nuA w B g (textB (t ++ encs (xs.take k))) wr)) (fun u _ => xs.length - (intOf u).toNat)
 case atStart => exact ⟨0, by omega, rfl, HI⟩
 case round =>
  clear HI
  obtain ⟨k, hk, rfl, HI⟩ := hrel
  by_cases hlt : k < xs.length
  ·have hki : (k : Int) < (xs.length : Int) := by omega
   obtain ⟨n, hn⟩ : ∃ n, xs[k]? = some n := ⟨_, List.getElem?_eq_getElem hlt⟩
   have hnM := HX.out n (List.mem_of_getElem? hn)
   obtain ⟨A', c', e9, _, _, hcc⟩ := HV.out wr HI.out.2
   rw [cells64_length] at e9
   simp only [Value.slice.injEq, true_and] at e9
   obtain ⟨rfl, rfl⟩ := e9
   obtain ⟨b, o, rfl, hcell⟩ := hcc k _ (cells64_get hn)
   have hbl := World.block_lt_of_cell? wr _ hcell
   have hE : Hid (textB (t ++ encs (xs.take k)) ++ textB (enc n) = textB (t ++ encs (xs.take (k + 1)))) := by
    show _ = _
    rw [text_append, List.append_assoc, encs_next hn]
   have hsz : Hid ((textB (t ++ encs (xs.take k))).size + (textB (enc n)).size ≤ 140737488355328) := by
    show _ ≤ _
    have h1 := encs_length (xs.take k)
    have h2 := (enc_length n).2
    rw [List.length_take] at h1
    rw [textB_size, textB_size, List.length_append]
    omega
   have HN := Lib.hid hn
   clear hcc hn
   go_wp2_with fail
   clear hcell hbl
   refine wp_region_relyx (PhS [5] [[2, 4]] (onP (nuA w B g (textB (t ++ encs (xs.take k)))) (nuA w B g (textB (t ++ encs (xs.take (k + 1))))))) (bfV [.eq (.pointer (some ⟨g, 0, none⟩)), .eq (.pointer (some ⟨g, 0, none⟩)), .eq (.pointer (some ⟨g, 0, none⟩)), .eq (.int .u64 (n : Int)), .eq (.string (textB (enc n))), .any]) [some 12, some 13, some 14, some 15, some 16, some 17] [[], [0], [1], [], [3], [2, 4]] [[], [0], [0, 1], [], [3], [1, 2, 3, 4]] [[2, 3, 4, 5], [3, 4, 5], [3, 4], [0, 1, 2, 5], [0, 1, 2], []] [0, 1, 2, 3, 4, 5] 6 (by kernel_rfl) (by kernel_rfl) (by kernel_rfl) (by kernel_rfl) ?rS (fun j h1 h2 => absurd (Nat.lt_of_lt_of_le h1 (Nat.le_trans (by decide) h2)) (Nat.lt_irrefl _)) ?rT ?rE
   case rS => exact ph_start (nuA_later (below_drewN (Below.refl _ _) 1) HI.out)
   case rT =>
    refine RelyStepsX.cons (RelyStepX.mk [] [2, 3, 4, 5] rfl rfl rfl (fun xv Lv wS hS hL hLd hV bq hb K hK => ?_)) ?_
    ·clear hV
     simp only [putsOf, List.foldl_cons, List.foldl_nil, List.getD_cons_zero, List.getD_cons_succ, List.getD_nil, cond_true, cond_false, Act.put, List.setIfInBounds_toArray, List.set_cons_zero, List.set_cons_succ] at hb
     subst hb
     rw [if_pos (by rfl)]
     go_wp2_with fail
     exact hK.out _ _ ⟨_, rfl, nu_op (i := 0) rfl hS, rfl, AllPX.same _⟩
    refine RelyStepsX.cons (RelyStepX.mk [0] [3, 4, 5] rfl rfl rfl (fun xv Lv wS hS hL hLd hV bq hb K hK => ?_)) ?_
    ·obtain ⟨h0, _⟩ := hV
     have h0 : xv 0 = _ := h0
     simp only [putsOf, List.foldl_cons, List.foldl_nil, List.getD_cons_zero, List.getD_cons_succ, List.getD_nil, cond_true, cond_false, Act.put, List.setIfInBounds_toArray, List.set_cons_zero, List.set_cons_succ, h0] at hb
     clear h0
     subst hb
     rw [if_pos (by rfl)]
     go_wp2_with fail
     exact hK.out _ _ ⟨_, rfl, nu_op (i := 1) rfl hS, rfl, AllPX.same _⟩
    refine RelyStepsX.cons (RelyStepX.mk [1] [3, 4] rfl rfl rfl (fun xv Lv wS hS hL hLd hV bq hb K hK => ?_)) ?_
    ·obtain ⟨h1, _⟩ := hV
     have h1 : xv 1 = _ := h1
     simp only [putsOf, List.foldl_cons, List.foldl_nil, List.getD_cons_zero, List.getD_cons_succ, List.getD_nil, cond_true, cond_false, Act.put, List.setIfInBounds_toArray, List.set_cons_zero, List.set_cons_succ, h1] at hb
     clear h1
     subst hb
     rw [if_pos (by rfl)]
     go_wp2_with fail
     exact hK.out _ _ ⟨_, rfl, nu_op (i := 2) rfl hS, rfl, AllPX.same _⟩
    refine RelyStepsX.cons (RelyStepX.mk [] [0, 1, 2, 5] rfl rfl rfl (fun xv Lv wS hS hL hLd hV bq hb K hK => ?_)) ?_
    ·clear hV
     simp only [putsOf, List.foldl_cons, List.foldl_nil, List.getD_cons_zero, List.getD_cons_succ, List.getD_nil, cond_true, cond_false, Act.put, List.setIfInBounds_toArray, List.set_cons_zero, List.set_cons_succ] at hb
     subst hb
     rw [if_pos (by rfl)]
     go_wp2_with fail
     exact hK.out _ _ ⟨_, rfl, nu_op (i := 3) rfl hS, rfl, AllPX.same _⟩
    refine RelyStepsX.cons (RelyStepX.mk [3] [0, 1, 2] rfl rfl rfl (fun xv Lv wS hS hL hLd hV bq hb K hK => ?_)) ?_
    ·obtain ⟨h3, _⟩ := hV
     have h3 : xv 3 = _ := h3
     simp only [putsOf, List.foldl_cons, List.foldl_nil, List.getD_cons_zero, List.getD_cons_succ, List.getD_nil, cond_true, cond_false, Act.put, List.setIfInBounds_toArray, List.set_cons_zero, List.set_cons_succ, h3] at hb
     clear h3
     subst hb
     rw [if_pos (by rfl)]
     have HSS := Lib.hid hS
     clear hS
     go_wp2_with fail
     refine (varintPrint n wS hnM).mono ?_
     rintro e w7 ⟨rfl, hb⟩
     exact hK.out _ _ ⟨_, rfl, ph_more nu_pha rfl HSS.out hb, rfl, AllPX.of _ (fun j _ _ h => bfV_below hb h)⟩
    refine RelyStepsX.cons (RelyStepX.mk [2, 4] [] rfl rfl rfl (fun xv Lv wS hS hL hLd hV bq hb K hK => ?_)) ?_
    ·obtain ⟨h2, h4, _⟩ := hV
     have h2 : xv 2 = _ := h2
     have h4 : xv 4 = _ := h4
     simp only [putsOf, List.foldl_cons, List.foldl_nil, List.getD_cons_zero, List.getD_cons_succ, List.getD_nil, cond_true, cond_false, Act.put, List.setIfInBounds_toArray, List.set_cons_zero, List.set_cons_succ, h2, h4] at hb
     clear h2
     clear h4
     subst hb
     rw [if_pos (by rfl)]
     have hp := on_get hS hL
     have HP := Lib.hid hp
     have HSS := Lib.hid hS
     have HC := Lib.hid (octetText B g (textB (t ++ encs (xs.take k))) (textB (enc n)) wS hp.1 hsz.out)
     clear hS hp
     go_wp2_with fail
     refine HC.out.mono ?_
     rintro e w7 ⟨rfl, h7, k7⟩
     rw [hE.out] at h7
     exact hK.out _ _ ⟨_, rfl, on_put HSS.out hL (fun j hj => hLd j (by revert hj; revert j; decide +kernel)) ⟨h7, wrRows_trans HH.out HP.out.2 k7⟩, trivial, AllPX.of _ (fun j hj _ h => bfV_lit (by rfl) hj h)⟩
    exact RelyStepsX.nil
   case rE =>
    intro xv Lv wE hS hLall hV
    have h5 := hV 5 (by decide) (by decide)
    clear hV
    have hp := on_end hS (hLall 5 (by decide +kernel))
    simp only [putsOf, List.foldl_cons, List.foldl_nil, List.getD_cons_zero, List.getD_cons_succ, List.getD_nil, cond_true, cond_false, Act.put, List.setIfInBounds_toArray, List.set_cons_zero, List.set_cons_succ]
    generalize xv 0 = y0 at *
    generalize xv 1 = y1 at *
    generalize xv 2 = y2 at *
    generalize xv 3 = y3 at *
    generalize xv 4 = y4 at *
    generalize xv 5 = y5 at *
    have HN2 := Lib.hid hp
    clear hS hp h5 hLall HI
    generalize wE = w9 at *
    go_wp2_with fail
    go_roundw
    case rel => exact ⟨k + 1, by omega, by go_num, HN2⟩
    case measure => simp [intOf]; omega
  ·obtain rfl : k = xs.length := by omega
   rw [List.take_length] at HI
   go_wp2_with fail
   refine bodyPost_end (v := .tuple #[]) (by simp [results, Try.results16, go_sem]) rfl ?_
   exact ⟨rfl, HI.out⟩
set_option maxHeartbeats 4000000 in
set_option maxRecDepth 100000 in
theorem wrList (B g : Nat) (t : List UInt8) (xs : List Nat) (v : Value) (w : World) (h : WrAt w B g (textB t)) (hv : NmAt w B g v xs) (hx : ∀ n ∈ xs, n < M64) (hl : t.length + 10 * xs.length ≤ 999999990) (hB : B ≤ w.heap.size) :
  Calls Try.prog 17 #[.pointer (some ⟨g, 0, none⟩), v] w fun e w' => e = .returned (.tuple #[]) ∧ WrAt w' B g (textB (t ++ encs (xs.length :: xs))) ∧ Kept (wrRows w B g) w w' := by
 obtain ⟨A, c, e0, hc1, hc2, _⟩ := hv.seq
 rw [cells64_length] at e0 hc1
 subst e0
 unfold maxLen at hc2
 have hb : Below w.heap.size w (w.alloc (.cells #[.int .u64 (xs.length : Int)] 24)) := (Below.refl _ _).alloc (Nat.le_refl _) _
 have hw1 := h.later hb
 have hl1 := Lies.made w 24 #[.int .u64 (xs.length : Int)]
 have hn1 : NmAt (w.alloc (.cells #[.int .u64 (xs.length : Int)] 24)) B g (.slice (some ⟨w.heap.size, 0, none⟩) 1 1) [xs.length] := NmAt.of_lies (xs := [xs.length]) hw1 hl1 (by decide) (by decide) (by simp) (by decide) (fun k u hu => by rw [Nat.zero_add, ← hu]; simp [cells64])
 have hlen : xs.length < M64 := by unfold M64; omega
 have HC := Lib.hid (wrNumbers B g t [xs.length] _ _ hw1 hn1 (by intro n hn; rw [List.mem_singleton.1 hn]; exact hlen) (by simp; omega) (by rw [World.size_alloc]; omega))
 have HV1 := Lib.hid (hv.later hb)
 have HW1 := Lib.hid hw1
 have HX := Lib.hid hx
 have HK1 : Hid (Kept (wrRows w B g) w (w.alloc (.cells #[.int .u64 (xs.length : Int)] 24))) := Kept.alloc _ _ _
 have HH := Lib.hid h
 have HZ : Hid ((w.alloc (.cells #[.int .u64 (xs.length : Int)] 24)).heap.size = w.heap.size + 1) := World.size_alloc ..
 have q1 : IntKind.u64.wrap (xs.length : Int) = (xs.length : Int) := IntWalk.u64_in _ (by omega)
 clear h hv hx hb hw1 hl1 hn1 hlen
 go_enter Try.func17, Try.ntmps17
 go_wp2_with fail
 generalize w.alloc (.cells #[.int .u64 (xs.length : Int)] 24) = w1 at *
 refine HC.out.mono ?_
 rintro e w2 ⟨rfl, hw2, k2⟩
 have HC2 := Lib.hid (wrNumbers B g (t ++ encs [xs.length]) xs _ w2 hw2 (HV1.out.wrote HW1.out k2) HX.out (by
  have := encs_length [xs.length]
  rw [List.length_append]; simp at this; omega) (by have h1 := k2.size; have h2 := HZ.out; omega))
 have HK2 := Lib.hid (wrRows_trans HH.out HK1.out k2)
 have HW2 := Lib.hid hw2
 clear HC hw2 k2 HV1 HW1 HK1
 go_wp2_with fail
 refine HC2.out.mono ?_
 rintro e w3 ⟨rfl, hw3, k3⟩
 have HE := Lib.hid (show WrAt w3 B g (textB (t ++ encs (xs.length :: xs))) ∧ Kept (wrRows w B g) w w3 from ⟨by rw [List.append_assoc, encs_one, ← encs_cons] at hw3; exact hw3, wrRows_trans HH.out HK2.out k3⟩)
 clear HC2 hw3 k3 HK2 HW2
 go_wp2_with fail
 refine bodyPost_end (v := .tuple #[]) (by simp [results, Try.results17, go_sem]) rfl ?_
 exact ⟨rfl, HE.out⟩
structure PrAt (w : World) (B : Nat) (cs : Array Value) (L : List Nat) (q : World) : Prop where
 bel : Below w.heap.size w q
 box : Lies q w.heap.size 26 cs
 wr : WrAt q B B (textB (encs L))
 lt : w.heap.size < B
section
variable {w q q1 : World} {B : Nat} {cs : Array Value} {L M : List Nat}
theorem PrAt.later (h : PrAt w B cs L q) (k : Below q.heap.size q q1) : PrAt w B cs L q1 := ⟨h.bel.trans (k.mono h.bel.size), h.box.below k h.box.lt, h.wr.later k, h.lt⟩
theorem lies_wr2 {b : Nat} {T : TypeId} {c : Array Value} {g : Nat} {t : ByteArray} (hl : Lies q b T c) (hw : WrAt q B g t) (k : Kept (wrRows q B g) q q1) (h1 : T ≠ 5) (h2 : T ≠ 59) : Lies q1 b T c :=
 hl.kept k (fun hs => by
  rcases hs.2 with rfl | ⟨cur, h3⟩
  ·obtain ⟨_, v, h4, _⟩ := hw
   exact h2 (hl.same h4).1
  ·exact h1 (hl.same h3).1)
theorem PrAt.wrote (h : PrAt w B cs L q) (k : Kept (wrRows q B B) q q1) (hw : WrAt q1 B B (textB (encs M))) : PrAt w B cs M q1 :=
 ⟨h.bel.trans (k.below h.bel.size (fun r hr hs => by have := hs.1; have := h.lt; omega)), lies_wr2 h.box h.wr k (by decide) (by decide), hw, h.lt⟩
theorem PrAt.le (h : PrAt w B cs L q) : B ≤ q.heap.size := by
 obtain ⟨_, v, h4, _⟩ := h.wr
 exact Nat.le_of_lt h4.lt
theorem PrAt.old {n : Nat} {v : Value} {xs : List Nat} (h : PrAt w B cs L q) (hv : SeqS w 1 v n (cells64 xs)) : NmAt q B B v xs := NmAt.of_old hv h.bel (Nat.le_of_lt h.lt)
theorem nm_lit {g b n : Nat} {xs : List Nat} {t : ByteArray} {c : Array Value} (hw : WrAt q B g t) (hl : Lies q b 24 c) (he : cells64 xs = c.toList) (hn : xs.length = n) (h8 : n ≤ 1000) : NmAt q B g (.slice (some ⟨b, 0, none⟩) n n) xs := by
 subst hn
 exact NmAt.of_lies hw hl (by decide) (by decide) (Nat.le_refl _) h8 (fun k u hu => by rw [Nat.zero_add, ← hu, he, Array.getElem?_toList])
theorem prNumbers (n : Nat) (xs : List Nat) (v : Value) (h : PrAt w B cs L q) (hv : NmAt q B B v xs) (hx : ∀ n ∈ xs, n < M64) (hl : L.length + xs.length ≤ 10000000) :
  Calls Try.prog 16 #[.pointer (some ⟨B, 0, none⟩), v] q fun e q' => e = .returned (.tuple #[]) ∧ PrAt w B cs (L ++ xs) q' ∧ Kept (wrRows q B B) q q' := by
 refine (wrNumbers _ _ _ xs v q h.wr hv hx (by have := encs_length L; omega) h.le).mono ?_
 rintro e q' ⟨rfl, h1, k⟩
 exact ⟨rfl, h.wrote k (by rw [encs_app]; exact h1), k⟩
theorem prList (xs : List Nat) (v : Value) (h : PrAt w B cs L q) (hv : NmAt q B B v xs) (hx : ∀ n ∈ xs, n < M64) (hl : L.length + xs.length ≤ 10000000) :
  Calls Try.prog 17 #[.pointer (some ⟨B, 0, none⟩), v] q fun e q' => e = .returned (.tuple #[]) ∧ PrAt w B cs (L ++ (xs.length :: xs)) q' ∧ Kept (wrRows q B B) q q' := by
 refine (wrList _ _ _ xs v q h.wr hv hx (by have := encs_length L; omega) h.le).mono ?_
 rintro e q' ⟨rfl, h1, k⟩
 exact ⟨rfl, h.wrote k (by rw [encs_app]; exact h1), k⟩
end
def prA (w : World) (B : Nat) (cs : Array Value) (g : Nat) (T : TypeId) (c : Array Value) (L : List Nat) (q : World) : Prop := PrAt w B cs L q ∧ Lies q g T c
section
variable {w q q' : World} {B g k i : Nat} {cs c : Array Value} {T : TypeId} {L M : List Nat} {pre : List (List Nat)} {x : Nat → Value} {P : Nat → Bool} {v : Value}
theorem prA_pha : Pha [k] (onP (prA w B cs g T c L) (prA w B cs g T c M)) := on_pha (fun _ _ hb h => ⟨h.1.later hb, h.2.below hb h.2.lt⟩) (fun _ _ hb h => ⟨h.1.later hb, h.2.below hb h.2.lt⟩)
theorem prA_op (hi : [k].contains i = false) (h : PhS [k] pre (onP (prA w B cs g T c L) (prA w B cs g T c M)) x P q) : PhS [k] pre (onP (prA w B cs g T c L) (prA w B cs g T c M)) (updX x i v) (updL P i) q := ph_op prA_pha hi h
theorem prA_any (h : PhS [k] pre (onP (prA w B cs g T c L) (prA w B cs g T c M)) x P q) : Lies q w.heap.size 26 cs ∧ Lies q g T c := by
 obtain ⟨m, _, _, _, h⟩ := h
 unfold onP at h
 split at h
 ·exact ⟨h.1.box, h.2⟩
 ·exact ⟨h.1.box, h.2⟩
end
theorem flat_le {α : Type} {f : α → List Nat} {c : Nat} : ∀ (l : List α), (∀ x ∈ l, (f x).length ≤ c) → (l.flatMap f).length ≤ l.length * c
 | [], _ => by simp
 | x :: l, h => by
  rw [List.flatMap_cons, List.length_append, List.length_cons, Nat.add_mul]
  have h1 := h x (by simp)
  have h2 := flat_le l (fun y hy => h y (by simp [hy]))
  omega
theorem flat_take {α : Type} {f : α → List Nat} {l : List α} {k : Nat} {x : α} (hx : l[k]? = some x) : (l.take (k + 1)).flatMap f = (l.take k).flatMap f ++ f x := by
 rw [List.take_add_one, hx]; simp
theorem smB_of {z : Int} (h : smB z = true) : ∃ n : Nat, z = n ∧ n ≤ 65535 := by
 unfold smB at h
 rw [Bool.and_eq_true, decide_eq_true_eq, decide_eq_true_eq] at h
 exact ⟨z.toNat, by omega, by omega⟩
end Go.Proofs.Ytakggmfpgopcgaa
