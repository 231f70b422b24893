import Derived.Test.YtcpgneimagmknaaGreatDoorZz5
namespace Go.Proofs.YtcpgneimagmknaaGreatDoor
open Go.RowKit
set_option linter.unusedVariables false
set_option linter.unusedSimpArgs false
theorem bytes_eqb (a b : ByteArray) : (a.toList == b.toList) = decide (a = b) := by
 rw [ByteArray.toList_eq, ByteArray.toList_eq]
 by_cases h : a = b
 ·subst h; simp
 ·rw [decide_eq_false h, beq_eq_false_iff_ne]
  exact fun e => h (eq_of_data e)
set_option maxHeartbeats 16000000 in
set_option maxRecDepth 100000 in
theorem rfReadRing10 (bs w0 : List UInt8) (rs : List (List UInt8)) (hw : WordsOf 32 bs (w0 :: rs)) (w : World) (hbs : bs.length ≤ 9000000) :
  Calls Tryz.prog 38 #[.string (textB bs)] w (RrPost10 (rfrX (w0 :: rs), rfrB bs (w0 :: rs)) w) := by
 have HL0 := Lib.hid (Lies.made w 51 riZ)
 have HB0 := Lib.hid ((Below.refl w.heap.size w).alloc (Nat.le_refl _) (.cells riZ 51))
 have hwn := hw.length
 have HWS := Lib.hid (words_le hw hbs)
 have HW := Lib.hid hw
 have HWD := Lib.hid (rfWords10 bs (w.alloc (.cells riZ 51)) (by omega))
 clear hw
 go_enter Tryz.func38, Tryz.ntmps38
 go_upto_region 1 with (fail)
 obtain ⟨N0, hN0⟩ : ∃ g, g = w.heap.size := ⟨_, rfl⟩
 have HN0 := Lib.hid hN0
 rw [← hN0] at HL0 ⊢
 clear hN0
 generalize w.alloc (.cells riZ 51) = w1 at *
 go_wp2_with fail
 refine HWD.out.mono ?_
 rintro e w2 ⟨v, ws, rfl, hw2, ho, hb⟩
 have hwe := words_eq hw2 HW.out
 subst hwe
 obtain ⟨b2, o2, c2, he2, _, _, hbl, hcc⟩ := (SeqS.of_owns ho).cells1 (by simp)
 cases he2
 have HL2 := Lib.hid (HL0.out.below hb HL0.out.lt)
 have HB2 := Lib.hid (HB0.out.trans (hb.mono HB0.out.size))
 clear ho hb hw2 HWD HL0 HB0
 go_upto_region 3 with (fail)
 have hbx : Below w2.heap.size w2 (w2.alloc (.cells riZ 51)) := (Below.refl _ _).alloc (Nat.le_refl _) _
 have HX3 := Lib.hid (Lies.made w2 51 riZ)
 have hgn0 := HL2.out.lt
 have HL3 := Lib.hid (HL2.out.below hbx hgn0)
 have HB3 := Lib.hid (HB2.out.trans (hbx.mono HB2.out.size))
 have HCC : Hid (∀ (k : Nat) (u : Value), (cellsW (w0 :: rs))[k]? = some u → (w2.alloc (.cells riZ 51)).cell? ⟨b2, o2 + k, none⟩ = some u) := fun k u hu => cell_later (hcc k u hu) hbx
 have hbl3 := Nat.lt_of_lt_of_le hbl hbx.size
 obtain ⟨gr, hgr⟩ : ∃ k, k = w2.heap.size := ⟨_, rfl⟩
 have hbg : ¬ b2 = gr := fun e => by omega
 have hgn : ¬ gr = N0 := fun e => by omega
 have hgw : w.heap.size ≤ gr := by rw [hgr]; exact HB2.out.size
 rw [← hgr] at HX3
 simp only [← hgr]
 clear hbx hcc HL2 HB2 hgn0 hgr
 generalize w2.alloc (.cells riZ 51) = w3 at *
 match rs, hwn, HWS, HW, HCC with
 | [], hwn, HWS, HW, HCC =>
  have HXX : Hid (rfrX [w0] = ri0) := rfl
  obtain ⟨x, hx⟩ : ∃ x, x = ri0 := ⟨_, rfl⟩
  have HX4 : Hid (Lies w3 gr 51 (riC x)) := by rw [hx]; exact HX3.out
  rw [← hx] at HXX
  have HL4 := HL3
  have HB4 := HB3
  simp only [List.length_cons, List.length_nil]
  clear HX3 HL3 HB3 HCC HWS HW hx hwn
  go_upto_region 7 with (fail)
  obtain ⟨w4, hw4⟩ : ∃ w4, w4 = w3 := ⟨_, rfl⟩
  rw [← hw4] at HX4 HL4 HB4 ⊢
  clear hw4
  by_cases hbe : bs = []
  ·subst hbe
   have e0 := text_empty
   have HYY : Hid (rfrB [] [w0] = false) := rfl
   obtain ⟨T0, hT0⟩ : ∃ T, T = textB [] := ⟨_, rfl⟩
   rw [← hT0] at e0 ⊢
   clear hT0
   refine wp_region_held_drew (S := fun y => Lies y gr 51 (riC x)) (by kernel_rfl) HX4.out.drew (fun hHeld => ?_)
   have HL := Lib.hid HL4.out.drew
   have HB9 := Lib.hid (below_drewN HB4.out 1)
   clear HX4 HL4 HB4
   have HB9 : Hid (Below w.heap.size w w4.drew) := HB9
   generalize w4.drew = w5 at *
   try simp only [Act.put, List.setIfInBounds_toArray, List.set_cons_zero, List.set_cons_succ]
   refine wpAnyH_take (i := 0) (v := (.agg (riC x))) rfl (by kernel_rfl) (by kernel_rfl) (by kernel_rfl) (fun _ _ _ h => h) (Or.inl ⟨by rfl, fun w h => by (simp only [List.getElem_toArray, List.getElem_cons_succ, List.getElem_cons_zero]; have h0 := h.cell 0; have h1 := h.cell 1; have h2 := h.cell 2; have h6 := h.lt; simp at h0 h1 h2; clear h; go_simp)⟩) (by assumption) ?_
   simp only [Act.put, List.getElem_toArray, List.getElem_cons_succ, List.getElem_cons_zero, List.setIfInBounds_toArray, List.set_cons_zero, List.set_cons_succ]
   refine wpAnyH_take (i := 1) (v := (.string T0)) rfl (by kernel_rfl) (by kernel_rfl) (by kernel_rfl) (fun _ _ _ h => h) (Or.inl ⟨by rfl, fun w h => by (simp only [List.getElem_toArray, List.getElem_cons_succ, List.getElem_cons_zero]; clear h; go_simp)⟩) (by assumption) ?_
   simp only [Act.put, List.getElem_toArray, List.getElem_cons_succ, List.getElem_cons_zero, List.setIfInBounds_toArray, List.set_cons_zero, List.set_cons_succ]
   refine wpAnyH_take (i := 2) (v := (.bool false)) rfl (by kernel_rfl) (by kernel_rfl) (by kernel_rfl) (fun _ _ _ h => h) (Or.inl ⟨by rfl, fun w h => by (simp only [List.getElem_toArray, List.getElem_cons_succ, List.getElem_cons_zero]; clear h; go_simp)⟩) (by assumption) ?_
   simp only [Act.put, List.getElem_toArray, List.getElem_cons_succ, List.getElem_cons_zero, List.setIfInBounds_toArray, List.set_cons_zero, List.set_cons_succ]
   refine wpAnyH_take (i := 3) (v := (.bool false)) rfl (by kernel_rfl) (by kernel_rfl) (by kernel_rfl) (fun _ _ _ h => h) (Or.inl ⟨by rfl, fun w h => by (simp only [List.getElem_toArray, List.getElem_cons_succ, List.getElem_cons_zero]; clear h; go_simp)⟩) (by assumption) ?_
   simp only [Act.put, List.getElem_toArray, List.getElem_cons_succ, List.getElem_cons_zero, List.setIfInBounds_toArray, List.set_cons_zero, List.set_cons_succ]
   refine wpAnyH_take (i := 4) (v := undef) rfl (by kernel_rfl) (by kernel_rfl) (by kernel_rfl) (fun _ _ _ h => h) (Or.inr ⟨by rfl, rfl⟩) (by assumption) ?_
   simp only [Act.put, List.getElem_toArray, List.getElem_cons_succ, List.getElem_cons_zero, List.setIfInBounds_toArray, List.set_cons_zero, List.set_cons_succ]
   refine wpAnyH_take (i := 5) (v := undef) rfl (by kernel_rfl) (by kernel_rfl) (by kernel_rfl) (fun _ _ _ h => h) (Or.inr ⟨by rfl, rfl⟩) (by assumption) ?_
   simp only [Act.put, List.getElem_toArray, List.getElem_cons_succ, List.getElem_cons_zero, List.setIfInBounds_toArray, List.set_cons_zero, List.set_cons_succ]
   refine wpAnyH_take (i := 6) (v := undef) rfl (by kernel_rfl) (by kernel_rfl) (by kernel_rfl) (fun _ _ _ h => h) (Or.inr ⟨by rfl, rfl⟩) (by assumption) ?_
   simp only [Act.put, List.getElem_toArray, List.getElem_cons_succ, List.getElem_cons_zero, List.setIfInBounds_toArray, List.set_cons_zero, List.set_cons_succ]
   refine wpAnyH_take (i := 7) (v := undef) rfl (by kernel_rfl) (by kernel_rfl) (by kernel_rfl) (fun _ _ _ h => h) (Or.inr ⟨by rfl, rfl⟩) (by assumption) ?_
   simp only [Act.put, List.getElem_toArray, List.getElem_cons_succ, List.getElem_cons_zero, List.setIfInBounds_toArray, List.set_cons_zero, List.set_cons_succ]
   refine wpAnyH_take (i := 8) (v := (.bool false)) rfl (by kernel_rfl) (by kernel_rfl) (by kernel_rfl) (fun _ _ _ h => h) (Or.inl ⟨by rfl, fun w h => by (simp only [List.getElem_toArray, List.getElem_cons_succ, List.getElem_cons_zero]; clear h; go_simp)⟩) (by assumption) ?_
   simp only [Act.put, List.getElem_toArray, List.getElem_cons_succ, List.getElem_cons_zero, List.setIfInBounds_toArray, List.set_cons_zero, List.set_cons_succ]
   have lt := HL.out.lt
   have f0 := HL.out.free 0
   have f1 := HL.out.free 1
   have f2 := HL.out.free 2
   have c0 := (HL.out.cell 0).trans (show _ = some (Value.int .i64 0) from rfl)
   have c1 := (HL.out.cell 1).trans (show _ = some (Value.int .i64 0) from rfl)
   have c2 := (HL.out.cell 2).trans (show _ = some (Value.int .i64 0) from rfl)
   refine wpAnyH_ready (rs := [9]) (by kernel_rfl) (by simp) ?_
   refine AllReadyH.cons rfl (fun K hK => ?_) AllReadyH.nil
   rw [if_pos (by rfl)]
   go_wp2_with fail
   refine hK.out _ _ (hHeld.kept (st3_kept w5 N0 _ _ _) (fun (e : gr = N0) => hgn e)) (fun hHeld2 => ?_)
   clear hK K hHeld
   try simp only [Act.put, List.setIfInBounds_toArray, List.set_cons_zero, List.set_cons_succ]
   refine wpAnyH_take (i := 10) (v := (.bool false)) rfl (by kernel_rfl) (by kernel_rfl) (by kernel_rfl) (fun _ _ _ h => h) (Or.inl ⟨by rfl, fun w h => by (simp only [List.getElem_toArray, List.getElem_cons_succ, List.getElem_cons_zero]; clear h; go_simp)⟩) (by assumption) ?_
   simp only [Act.put, List.getElem_toArray, List.getElem_cons_succ, List.getElem_cons_zero, List.setIfInBounds_toArray, List.set_cons_zero, List.set_cons_succ]
   refine wpAnyH_done (by kernel_rfl) ?_ _
   go_wp2_with fail
   have HBZ := Lib.hid (HB9.out.trans ((st3_kept w5 N0 (.int .i64 x.k) (.int .i64 x.c) (.int .i64 x.r)).below HB9.out.size (fun j hj (e : j = N0) => by have := HN0.out; omega)))
   have HRZ := Lib.hid (st3_lies (a0 := (.int .i64 x.k)) (a1 := (.int .i64 x.c)) (a2 := (.int .i64 x.r)) HL.out)
   have q0 := (HRZ.out.cell 0).trans (show _ = some ((.int .i64 x.k)) from rfl)
   have q1 := (HRZ.out.cell 1).trans (show _ = some ((.int .i64 x.c)) from rfl)
   have q2 := (HRZ.out.cell 2).trans (show _ = some ((.int .i64 x.r)) from rfl)
   refine bodyPost_ret (v := .tuple #[.agg (riC x), (.bool false)]) (by simp [results, Tryz.results38, go_sem, q0, q1, q2]) rfl ?_
   exact ⟨by rw [HXX.out, HYY.out], HBZ.out⟩
  ·have e0 := text_nonempty hbe
   obtain ⟨E, hE⟩ : ∃ E, E = ((lnrT x).toList == (textB bs).toList) := ⟨_, rfl⟩
   have HYY : Hid (rfrB bs [w0] = E) := by
    show _ = _
    unfold rfrB
    rw [hE, HXX.out, bytes_eqb]
    cases bs with
    | nil => exact absurd rfl hbe
    | cons a l => rfl
   have HRR := Lib.hid (rfRing10 x w4.drew)
   obtain ⟨LT, hLT⟩ : ∃ T, T = lnrT x := ⟨_, rfl⟩
   rw [← hLT] at hE HRR
   obtain ⟨T0, hT0⟩ : ∃ T, T = textB bs := ⟨_, rfl⟩
   rw [← hT0] at e0 hE ⊢
   replace hE := hE.symm
   clear hT0 hLT
   refine wp_region_held_drew (S := fun y => Lies y gr 51 (riC x)) (by kernel_rfl) HX4.out.drew (fun hHeld => ?_)
   have HL9 := Lib.hid HL4.out.drew
   have HB5 : Hid (Below w.heap.size w w4.drew) := below_drewN HB4.out 1
   clear HX4 HL4 HB4
   generalize w4.drew = w5 at *
   try simp only [Act.put, List.setIfInBounds_toArray, List.set_cons_zero, List.set_cons_succ]
   refine wpAnyH_take (i := 0) (v := (.agg (riC x))) rfl (by kernel_rfl) (by kernel_rfl) (by kernel_rfl) (fun _ _ _ h => h) (Or.inl ⟨by rfl, fun w h => by (simp only [List.getElem_toArray, List.getElem_cons_succ, List.getElem_cons_zero]; have h0 := h.cell 0; have h1 := h.cell 1; have h2 := h.cell 2; have h6 := h.lt; simp at h0 h1 h2; clear h; go_simp)⟩) (by assumption) ?_
   simp only [Act.put, List.getElem_toArray, List.getElem_cons_succ, List.getElem_cons_zero, List.setIfInBounds_toArray, List.set_cons_zero, List.set_cons_succ]
   refine wpAnyH_take (i := 1) (v := (.string T0)) rfl (by kernel_rfl) (by kernel_rfl) (by kernel_rfl) (fun _ _ _ h => h) (Or.inl ⟨by rfl, fun w h => by (simp only [List.getElem_toArray, List.getElem_cons_succ, List.getElem_cons_zero]; clear h; go_simp)⟩) (by assumption) ?_
   simp only [Act.put, List.getElem_toArray, List.getElem_cons_succ, List.getElem_cons_zero, List.setIfInBounds_toArray, List.set_cons_zero, List.set_cons_succ]
   refine wpAnyH_take (i := 2) (v := (.bool true)) rfl (by kernel_rfl) (by kernel_rfl) (by kernel_rfl) (fun _ _ _ h => h) (Or.inl ⟨by rfl, fun w h => by (simp only [List.getElem_toArray, List.getElem_cons_succ, List.getElem_cons_zero]; clear h; go_simp)⟩) (by assumption) ?_
   simp only [Act.put, List.getElem_toArray, List.getElem_cons_succ, List.getElem_cons_zero, List.setIfInBounds_toArray, List.set_cons_zero, List.set_cons_succ]
   refine wpAnyH_take (i := 3) (v := (.bool true)) rfl (by kernel_rfl) (by kernel_rfl) (by kernel_rfl) (fun _ _ _ h => h) (Or.inl ⟨by rfl, fun w h => by (simp only [List.getElem_toArray, List.getElem_cons_succ, List.getElem_cons_zero]; clear h; go_simp)⟩) (by assumption) ?_
   simp only [Act.put, List.getElem_toArray, List.getElem_cons_succ, List.getElem_cons_zero, List.setIfInBounds_toArray, List.set_cons_zero, List.set_cons_succ]
   refine wpAnyH_take (i := 4) (v := (.agg (riC x))) rfl (by kernel_rfl) (by kernel_rfl) (by kernel_rfl) (fun _ _ _ h => h) (Or.inl ⟨by rfl, fun w h => by (simp only [List.getElem_toArray, List.getElem_cons_succ, List.getElem_cons_zero]; have h0 := h.cell 0; have h1 := h.cell 1; have h2 := h.cell 2; have h6 := h.lt; simp at h0 h1 h2; clear h; go_simp)⟩) (by assumption) ?_
   simp only [Act.put, List.getElem_toArray, List.getElem_cons_succ, List.getElem_cons_zero, List.setIfInBounds_toArray, List.set_cons_zero, List.set_cons_succ]
   refine wpAnyH_take (i := 6) (v := (.string T0)) rfl (by kernel_rfl) (by kernel_rfl) (by kernel_rfl) (fun _ _ _ h => h) (Or.inl ⟨by rfl, fun w h => by (simp only [List.getElem_toArray, List.getElem_cons_succ, List.getElem_cons_zero]; clear h; go_simp)⟩) (by assumption) ?_
   simp only [Act.put, List.getElem_toArray, List.getElem_cons_succ, List.getElem_cons_zero, List.setIfInBounds_toArray, List.set_cons_zero, List.set_cons_succ]
   refine wpAnyH_ready (rs := [5]) (by kernel_rfl) (by simp) ?_
   refine AllReadyH.cons rfl (fun K hK => ?_) AllReadyH.nil
   rw [if_pos (by rfl)]
   go_wp2_with fail
   refine HRR.out.mono ?_
   rintro e w6 ⟨rfl, hb6⟩
   dsimp only
   refine hK.out _ _ (hHeld.below hb6 hHeld.lt) (fun hHeld1 => ?_)
   clear hK K
   have HL := Lib.hid (HL9.out.below hb6 HL9.out.lt)
   have HB9 := Lib.hid (HB5.out.trans (hb6.mono HB5.out.size))
   clear hb6 HL9 hHeld HB5
   try simp only [Act.put, List.setIfInBounds_toArray, List.set_cons_zero, List.set_cons_succ]
   refine wpAnyH_take (i := 7) (v := (.bool E)) rfl (by kernel_rfl) (by kernel_rfl) (by kernel_rfl) (fun _ _ _ h => h) (Or.inl ⟨by rfl, fun w h => by (simp only [List.getElem_toArray, List.getElem_cons_succ, List.getElem_cons_zero]; clear h; go_simp)⟩) (by assumption) ?_
   simp only [Act.put, List.getElem_toArray, List.getElem_cons_succ, List.getElem_cons_zero, List.setIfInBounds_toArray, List.set_cons_zero, List.set_cons_succ]
   refine wpAnyH_take (i := 8) (v := (.bool E)) rfl (by kernel_rfl) (by kernel_rfl) (by kernel_rfl) (fun _ _ _ h => h) (Or.inl ⟨by rfl, fun w h => by (simp only [List.getElem_toArray, List.getElem_cons_succ, List.getElem_cons_zero]; clear h; go_simp)⟩) (by assumption) ?_
   simp only [Act.put, List.getElem_toArray, List.getElem_cons_succ, List.getElem_cons_zero, List.setIfInBounds_toArray, List.set_cons_zero, List.set_cons_succ]
   have lt := HL.out.lt
   have f0 := HL.out.free 0
   have f1 := HL.out.free 1
   have f2 := HL.out.free 2
   have c0 := (HL.out.cell 0).trans (show _ = some (Value.int .i64 0) from rfl)
   have c1 := (HL.out.cell 1).trans (show _ = some (Value.int .i64 0) from rfl)
   have c2 := (HL.out.cell 2).trans (show _ = some (Value.int .i64 0) from rfl)
   refine wpAnyH_ready (rs := [9]) (by kernel_rfl) (by simp) ?_
   refine AllReadyH.cons rfl (fun K hK => ?_) AllReadyH.nil
   rw [if_pos (by rfl)]
   go_wp2_with fail
   refine hK.out _ _ (hHeld1.kept (st3_kept w6 N0 _ _ _) (fun (e : gr = N0) => hgn e)) (fun hHeld2 => ?_)
   clear hK K hHeld1
   try simp only [Act.put, List.setIfInBounds_toArray, List.set_cons_zero, List.set_cons_succ]
   refine wpAnyH_take (i := 10) (v := (.bool E)) rfl (by kernel_rfl) (by kernel_rfl) (by kernel_rfl) (fun _ _ _ h => h) (Or.inl ⟨by rfl, fun w h => by (simp only [List.getElem_toArray, List.getElem_cons_succ, List.getElem_cons_zero]; clear h; go_simp)⟩) (by assumption) ?_
   simp only [Act.put, List.getElem_toArray, List.getElem_cons_succ, List.getElem_cons_zero, List.setIfInBounds_toArray, List.set_cons_zero, List.set_cons_succ]
   refine wpAnyH_done (by kernel_rfl) ?_ _
   go_wp2_with fail
   have HBZ := Lib.hid (HB9.out.trans ((st3_kept w6 N0 (.int .i64 x.k) (.int .i64 x.c) (.int .i64 x.r)).below HB9.out.size (fun j hj (e : j = N0) => by have := HN0.out; omega)))
   have HRZ := Lib.hid (st3_lies (a0 := (.int .i64 x.k)) (a1 := (.int .i64 x.c)) (a2 := (.int .i64 x.r)) HL.out)
   have q0 := (HRZ.out.cell 0).trans (show _ = some ((.int .i64 x.k)) from rfl)
   have q1 := (HRZ.out.cell 1).trans (show _ = some ((.int .i64 x.c)) from rfl)
   have q2 := (HRZ.out.cell 2).trans (show _ = some ((.int .i64 x.r)) from rfl)
   refine bodyPost_ret (v := .tuple #[.agg (riC x), (.bool E)]) (by simp [results, Tryz.results38, go_sem, q0, q1, q2]) rfl ?_
   exact ⟨by rw [HXX.out, HYY.out], HBZ.out⟩
 | [a], hwn, HWS, HW, HCC =>
  have HSM : Hid (Calls Tryz.prog 65 #[.string (textB a), .int .i64 0] w3 fun e w' => e = .returned (.int .i64 ((sm10 a 0 : Nat) : Int)) ∧ w3 = w') := rfSmall10 a 0 w3 (by have := HWS.out a (by simp); omega) (by omega)
  have HXX : Hid (rfrX [w0, a] = ⟨1, ((sm10 a 0 : Nat) : Int), 1⟩) := rfl
  have s1 : w3.cell? ⟨b2, o2 + 1, none⟩ = some (.string (textB a)) := HCC.out 1 _ rfl
  obtain ⟨m, hm⟩ : ∃ m : Int, m = ((sm10 a 0 : Nat) : Int) := ⟨_, rfl⟩
  rw [← hm] at HSM HXX
  simp only [List.length_cons, List.length_nil]
  have HL := HX3
  have lt := HL.out.lt
  have f0 := HL.out.free 0
  have f1 := HL.out.free 1
  have f2 := HL.out.free 2
  have c0 := (HL.out.cell 0).trans (show _ = some (Value.int .i64 0) from rfl)
  have c1 := (HL.out.cell 1).trans (show _ = some (Value.int .i64 0) from rfl)
  have c2 := (HL.out.cell 2).trans (show _ = some (Value.int .i64 0) from rfl)
  clear HCC HWS HW hwn hm HL
  go_wp2_with fail
  refine HSM.out.mono ?_
  rintro e w5 ⟨rfl, rfl⟩
  go_upto_region 5 with (fail)
  have HX4 := Lib.hid (st3_lies (a0 := .int .i64 1) (a1 := .int .i64 m) (a2 := .int .i64 1) HX3.out)
  have HL4 := Lib.hid (HL3.out.kept (st3_kept w3 gr (.int .i64 1) (.int .i64 m) (.int .i64 1)) (fun (e : N0 = gr) => hgn e.symm))
  have HB4 := Lib.hid (HB3.out.trans ((st3_kept w3 gr (.int .i64 1) (.int .i64 m) (.int .i64 1)).below HB3.out.size (fun j hj (e : j = gr) => by omega)))
  clear HX3 HL3 HB3 s1 lt f0 f1 f2 c0 c1 c2 HSM hbl3
  simp only [st3] at HX4 HL4 HB4
  generalize World.setCell (World.setCell (World.setCell w3 ⟨gr, 0, none⟩ (.int .i64 1)) ⟨gr, 1, none⟩ (.int .i64 m)) ⟨gr, 2, none⟩ (.int .i64 1) = w4 at *
  obtain ⟨x, hx⟩ : ∃ x : Ri, x = ⟨1, m, 1⟩ := ⟨_, rfl⟩
  have HX4 : Hid (Lies w4 gr 51 (riC x)) := by rw [hx]; exact HX4.out
  rw [← hx] at HXX
  clear hx
  go_upto_region 7 with (fail)
  by_cases hbe : bs = []
  ·subst hbe
   have e0 := text_empty
   have HYY : Hid (rfrB [] [w0,a] = false) := rfl
   obtain ⟨T0, hT0⟩ : ∃ T, T = textB [] := ⟨_, rfl⟩
   rw [← hT0] at e0 ⊢
   clear hT0
   refine wp_region_held_drew (S := fun y => Lies y gr 51 (riC x)) (by kernel_rfl) HX4.out.drew (fun hHeld => ?_)
   have HL := Lib.hid HL4.out.drew
   have HB9 := Lib.hid (below_drewN HB4.out 1)
   clear HX4 HL4 HB4
   have HB9 : Hid (Below w.heap.size w w4.drew) := HB9
   generalize w4.drew = w5 at *
   try simp only [Act.put, List.setIfInBounds_toArray, List.set_cons_zero, List.set_cons_succ]
   refine wpAnyH_take (i := 0) (v := (.agg (riC x))) rfl (by kernel_rfl) (by kernel_rfl) (by kernel_rfl) (fun _ _ _ h => h) (Or.inl ⟨by rfl, fun w h => by (simp only [List.getElem_toArray, List.getElem_cons_succ, List.getElem_cons_zero]; have h0 := h.cell 0; have h1 := h.cell 1; have h2 := h.cell 2; have h6 := h.lt; simp at h0 h1 h2; clear h; go_simp)⟩) (by assumption) ?_
   simp only [Act.put, List.getElem_toArray, List.getElem_cons_succ, List.getElem_cons_zero, List.setIfInBounds_toArray, List.set_cons_zero, List.set_cons_succ]
   refine wpAnyH_take (i := 1) (v := (.string T0)) rfl (by kernel_rfl) (by kernel_rfl) (by kernel_rfl) (fun _ _ _ h => h) (Or.inl ⟨by rfl, fun w h => by (simp only [List.getElem_toArray, List.getElem_cons_succ, List.getElem_cons_zero]; clear h; go_simp)⟩) (by assumption) ?_
   simp only [Act.put, List.getElem_toArray, List.getElem_cons_succ, List.getElem_cons_zero, List.setIfInBounds_toArray, List.set_cons_zero, List.set_cons_succ]
   refine wpAnyH_take (i := 2) (v := (.bool false)) rfl (by kernel_rfl) (by kernel_rfl) (by kernel_rfl) (fun _ _ _ h => h) (Or.inl ⟨by rfl, fun w h => by (simp only [List.getElem_toArray, List.getElem_cons_succ, List.getElem_cons_zero]; clear h; go_simp)⟩) (by assumption) ?_
   simp only [Act.put, List.getElem_toArray, List.getElem_cons_succ, List.getElem_cons_zero, List.setIfInBounds_toArray, List.set_cons_zero, List.set_cons_succ]
   refine wpAnyH_take (i := 3) (v := (.bool false)) rfl (by kernel_rfl) (by kernel_rfl) (by kernel_rfl) (fun _ _ _ h => h) (Or.inl ⟨by rfl, fun w h => by (simp only [List.getElem_toArray, List.getElem_cons_succ, List.getElem_cons_zero]; clear h; go_simp)⟩) (by assumption) ?_
   simp only [Act.put, List.getElem_toArray, List.getElem_cons_succ, List.getElem_cons_zero, List.setIfInBounds_toArray, List.set_cons_zero, List.set_cons_succ]
   refine wpAnyH_take (i := 4) (v := undef) rfl (by kernel_rfl) (by kernel_rfl) (by kernel_rfl) (fun _ _ _ h => h) (Or.inr ⟨by rfl, rfl⟩) (by assumption) ?_
   simp only [Act.put, List.getElem_toArray, List.getElem_cons_succ, List.getElem_cons_zero, List.setIfInBounds_toArray, List.set_cons_zero, List.set_cons_succ]
   refine wpAnyH_take (i := 5) (v := undef) rfl (by kernel_rfl) (by kernel_rfl) (by kernel_rfl) (fun _ _ _ h => h) (Or.inr ⟨by rfl, rfl⟩) (by assumption) ?_
   simp only [Act.put, List.getElem_toArray, List.getElem_cons_succ, List.getElem_cons_zero, List.setIfInBounds_toArray, List.set_cons_zero, List.set_cons_succ]
   refine wpAnyH_take (i := 6) (v := undef) rfl (by kernel_rfl) (by kernel_rfl) (by kernel_rfl) (fun _ _ _ h => h) (Or.inr ⟨by rfl, rfl⟩) (by assumption) ?_
   simp only [Act.put, List.getElem_toArray, List.getElem_cons_succ, List.getElem_cons_zero, List.setIfInBounds_toArray, List.set_cons_zero, List.set_cons_succ]
   refine wpAnyH_take (i := 7) (v := undef) rfl (by kernel_rfl) (by kernel_rfl) (by kernel_rfl) (fun _ _ _ h => h) (Or.inr ⟨by rfl, rfl⟩) (by assumption) ?_
   simp only [Act.put, List.getElem_toArray, List.getElem_cons_succ, List.getElem_cons_zero, List.setIfInBounds_toArray, List.set_cons_zero, List.set_cons_succ]
   refine wpAnyH_take (i := 8) (v := (.bool false)) rfl (by kernel_rfl) (by kernel_rfl) (by kernel_rfl) (fun _ _ _ h => h) (Or.inl ⟨by rfl, fun w h => by (simp only [List.getElem_toArray, List.getElem_cons_succ, List.getElem_cons_zero]; clear h; go_simp)⟩) (by assumption) ?_
   simp only [Act.put, List.getElem_toArray, List.getElem_cons_succ, List.getElem_cons_zero, List.setIfInBounds_toArray, List.set_cons_zero, List.set_cons_succ]
   have lt := HL.out.lt
   have f0 := HL.out.free 0
   have f1 := HL.out.free 1
   have f2 := HL.out.free 2
   have c0 := (HL.out.cell 0).trans (show _ = some (Value.int .i64 0) from rfl)
   have c1 := (HL.out.cell 1).trans (show _ = some (Value.int .i64 0) from rfl)
   have c2 := (HL.out.cell 2).trans (show _ = some (Value.int .i64 0) from rfl)
   refine wpAnyH_ready (rs := [9]) (by kernel_rfl) (by simp) ?_
   refine AllReadyH.cons rfl (fun K hK => ?_) AllReadyH.nil
   rw [if_pos (by rfl)]
   go_wp2_with fail
   refine hK.out _ _ (hHeld.kept (st3_kept w5 N0 _ _ _) (fun (e : gr = N0) => hgn e)) (fun hHeld2 => ?_)
   clear hK K hHeld
   try simp only [Act.put, List.setIfInBounds_toArray, List.set_cons_zero, List.set_cons_succ]
   refine wpAnyH_take (i := 10) (v := (.bool false)) rfl (by kernel_rfl) (by kernel_rfl) (by kernel_rfl) (fun _ _ _ h => h) (Or.inl ⟨by rfl, fun w h => by (simp only [List.getElem_toArray, List.getElem_cons_succ, List.getElem_cons_zero]; clear h; go_simp)⟩) (by assumption) ?_
   simp only [Act.put, List.getElem_toArray, List.getElem_cons_succ, List.getElem_cons_zero, List.setIfInBounds_toArray, List.set_cons_zero, List.set_cons_succ]
   refine wpAnyH_done (by kernel_rfl) ?_ _
   go_wp2_with fail
   have HBZ := Lib.hid (HB9.out.trans ((st3_kept w5 N0 (.int .i64 x.k) (.int .i64 x.c) (.int .i64 x.r)).below HB9.out.size (fun j hj (e : j = N0) => by have := HN0.out; omega)))
   have HRZ := Lib.hid (st3_lies (a0 := (.int .i64 x.k)) (a1 := (.int .i64 x.c)) (a2 := (.int .i64 x.r)) HL.out)
   have q0 := (HRZ.out.cell 0).trans (show _ = some ((.int .i64 x.k)) from rfl)
   have q1 := (HRZ.out.cell 1).trans (show _ = some ((.int .i64 x.c)) from rfl)
   have q2 := (HRZ.out.cell 2).trans (show _ = some ((.int .i64 x.r)) from rfl)
   refine bodyPost_ret (v := .tuple #[.agg (riC x), (.bool false)]) (by simp [results, Tryz.results38, go_sem, q0, q1, q2]) rfl ?_
   exact ⟨by rw [HXX.out, HYY.out], HBZ.out⟩
  ·have e0 := text_nonempty hbe
   obtain ⟨E, hE⟩ : ∃ E, E = ((lnrT x).toList == (textB bs).toList) := ⟨_, rfl⟩
   have HYY : Hid (rfrB bs [w0,a] = E) := by
    show _ = _
    unfold rfrB
    rw [hE, HXX.out, bytes_eqb]
    cases bs with
    | nil => exact absurd rfl hbe
    | cons a l => rfl
   have HRR := Lib.hid (rfRing10 x w4.drew)
   obtain ⟨LT, hLT⟩ : ∃ T, T = lnrT x := ⟨_, rfl⟩
   rw [← hLT] at hE HRR
   obtain ⟨T0, hT0⟩ : ∃ T, T = textB bs := ⟨_, rfl⟩
   rw [← hT0] at e0 hE ⊢
   replace hE := hE.symm
   clear hT0 hLT
   refine wp_region_held_drew (S := fun y => Lies y gr 51 (riC x)) (by kernel_rfl) HX4.out.drew (fun hHeld => ?_)
   have HL9 := Lib.hid HL4.out.drew
   have HB5 : Hid (Below w.heap.size w w4.drew) := below_drewN HB4.out 1
   clear HX4 HL4 HB4
   generalize w4.drew = w5 at *
   try simp only [Act.put, List.setIfInBounds_toArray, List.set_cons_zero, List.set_cons_succ]
   refine wpAnyH_take (i := 0) (v := (.agg (riC x))) rfl (by kernel_rfl) (by kernel_rfl) (by kernel_rfl) (fun _ _ _ h => h) (Or.inl ⟨by rfl, fun w h => by (simp only [List.getElem_toArray, List.getElem_cons_succ, List.getElem_cons_zero]; have h0 := h.cell 0; have h1 := h.cell 1; have h2 := h.cell 2; have h6 := h.lt; simp at h0 h1 h2; clear h; go_simp)⟩) (by assumption) ?_
   simp only [Act.put, List.getElem_toArray, List.getElem_cons_succ, List.getElem_cons_zero, List.setIfInBounds_toArray, List.set_cons_zero, List.set_cons_succ]
   refine wpAnyH_take (i := 1) (v := (.string T0)) rfl (by kernel_rfl) (by kernel_rfl) (by kernel_rfl) (fun _ _ _ h => h) (Or.inl ⟨by rfl, fun w h => by (simp only [List.getElem_toArray, List.getElem_cons_succ, List.getElem_cons_zero]; clear h; go_simp)⟩) (by assumption) ?_
   simp only [Act.put, List.getElem_toArray, List.getElem_cons_succ, List.getElem_cons_zero, List.setIfInBounds_toArray, List.set_cons_zero, List.set_cons_succ]
   refine wpAnyH_take (i := 2) (v := (.bool true)) rfl (by kernel_rfl) (by kernel_rfl) (by kernel_rfl) (fun _ _ _ h => h) (Or.inl ⟨by rfl, fun w h => by (simp only [List.getElem_toArray, List.getElem_cons_succ, List.getElem_cons_zero]; clear h; go_simp)⟩) (by assumption) ?_
   simp only [Act.put, List.getElem_toArray, List.getElem_cons_succ, List.getElem_cons_zero, List.setIfInBounds_toArray, List.set_cons_zero, List.set_cons_succ]
   refine wpAnyH_take (i := 3) (v := (.bool true)) rfl (by kernel_rfl) (by kernel_rfl) (by kernel_rfl) (fun _ _ _ h => h) (Or.inl ⟨by rfl, fun w h => by (simp only [List.getElem_toArray, List.getElem_cons_succ, List.getElem_cons_zero]; clear h; go_simp)⟩) (by assumption) ?_
   simp only [Act.put, List.getElem_toArray, List.getElem_cons_succ, List.getElem_cons_zero, List.setIfInBounds_toArray, List.set_cons_zero, List.set_cons_succ]
   refine wpAnyH_take (i := 4) (v := (.agg (riC x))) rfl (by kernel_rfl) (by kernel_rfl) (by kernel_rfl) (fun _ _ _ h => h) (Or.inl ⟨by rfl, fun w h => by (simp only [List.getElem_toArray, List.getElem_cons_succ, List.getElem_cons_zero]; have h0 := h.cell 0; have h1 := h.cell 1; have h2 := h.cell 2; have h6 := h.lt; simp at h0 h1 h2; clear h; go_simp)⟩) (by assumption) ?_
   simp only [Act.put, List.getElem_toArray, List.getElem_cons_succ, List.getElem_cons_zero, List.setIfInBounds_toArray, List.set_cons_zero, List.set_cons_succ]
   refine wpAnyH_take (i := 6) (v := (.string T0)) rfl (by kernel_rfl) (by kernel_rfl) (by kernel_rfl) (fun _ _ _ h => h) (Or.inl ⟨by rfl, fun w h => by (simp only [List.getElem_toArray, List.getElem_cons_succ, List.getElem_cons_zero]; clear h; go_simp)⟩) (by assumption) ?_
   simp only [Act.put, List.getElem_toArray, List.getElem_cons_succ, List.getElem_cons_zero, List.setIfInBounds_toArray, List.set_cons_zero, List.set_cons_succ]
   refine wpAnyH_ready (rs := [5]) (by kernel_rfl) (by simp) ?_
   refine AllReadyH.cons rfl (fun K hK => ?_) AllReadyH.nil
   rw [if_pos (by rfl)]
   go_wp2_with fail
   refine HRR.out.mono ?_
   rintro e w6 ⟨rfl, hb6⟩
   dsimp only
   refine hK.out _ _ (hHeld.below hb6 hHeld.lt) (fun hHeld1 => ?_)
   clear hK K
   have HL := Lib.hid (HL9.out.below hb6 HL9.out.lt)
   have HB9 := Lib.hid (HB5.out.trans (hb6.mono HB5.out.size))
   clear hb6 HL9 hHeld HB5
   try simp only [Act.put, List.setIfInBounds_toArray, List.set_cons_zero, List.set_cons_succ]
   refine wpAnyH_take (i := 7) (v := (.bool E)) rfl (by kernel_rfl) (by kernel_rfl) (by kernel_rfl) (fun _ _ _ h => h) (Or.inl ⟨by rfl, fun w h => by (simp only [List.getElem_toArray, List.getElem_cons_succ, List.getElem_cons_zero]; clear h; go_simp)⟩) (by assumption) ?_
   simp only [Act.put, List.getElem_toArray, List.getElem_cons_succ, List.getElem_cons_zero, List.setIfInBounds_toArray, List.set_cons_zero, List.set_cons_succ]
   refine wpAnyH_take (i := 8) (v := (.bool E)) rfl (by kernel_rfl) (by kernel_rfl) (by kernel_rfl) (fun _ _ _ h => h) (Or.inl ⟨by rfl, fun w h => by (simp only [List.getElem_toArray, List.getElem_cons_succ, List.getElem_cons_zero]; clear h; go_simp)⟩) (by assumption) ?_
   simp only [Act.put, List.getElem_toArray, List.getElem_cons_succ, List.getElem_cons_zero, List.setIfInBounds_toArray, List.set_cons_zero, List.set_cons_succ]
   have lt := HL.out.lt
   have f0 := HL.out.free 0
   have f1 := HL.out.free 1
   have f2 := HL.out.free 2
   have c0 := (HL.out.cell 0).trans (show _ = some (Value.int .i64 0) from rfl)
   have c1 := (HL.out.cell 1).trans (show _ = some (Value.int .i64 0) from rfl)
   have c2 := (HL.out.cell 2).trans (show _ = some (Value.int .i64 0) from rfl)
   refine wpAnyH_ready (rs := [9]) (by kernel_rfl) (by simp) ?_
   refine AllReadyH.cons rfl (fun K hK => ?_) AllReadyH.nil
   rw [if_pos (by rfl)]
   go_wp2_with fail
   refine hK.out _ _ (hHeld1.kept (st3_kept w6 N0 _ _ _) (fun (e : gr = N0) => hgn e)) (fun hHeld2 => ?_)
   clear hK K hHeld1
   try simp only [Act.put, List.setIfInBounds_toArray, List.set_cons_zero, List.set_cons_succ]
   refine wpAnyH_take (i := 10) (v := (.bool E)) rfl (by kernel_rfl) (by kernel_rfl) (by kernel_rfl) (fun _ _ _ h => h) (Or.inl ⟨by rfl, fun w h => by (simp only [List.getElem_toArray, List.getElem_cons_succ, List.getElem_cons_zero]; clear h; go_simp)⟩) (by assumption) ?_
   simp only [Act.put, List.getElem_toArray, List.getElem_cons_succ, List.getElem_cons_zero, List.setIfInBounds_toArray, List.set_cons_zero, List.set_cons_succ]
   refine wpAnyH_done (by kernel_rfl) ?_ _
   go_wp2_with fail
   have HBZ := Lib.hid (HB9.out.trans ((st3_kept w6 N0 (.int .i64 x.k) (.int .i64 x.c) (.int .i64 x.r)).below HB9.out.size (fun j hj (e : j = N0) => by have := HN0.out; omega)))
   have HRZ := Lib.hid (st3_lies (a0 := (.int .i64 x.k)) (a1 := (.int .i64 x.c)) (a2 := (.int .i64 x.r)) HL.out)
   have q0 := (HRZ.out.cell 0).trans (show _ = some ((.int .i64 x.k)) from rfl)
   have q1 := (HRZ.out.cell 1).trans (show _ = some ((.int .i64 x.c)) from rfl)
   have q2 := (HRZ.out.cell 2).trans (show _ = some ((.int .i64 x.r)) from rfl)
   refine bodyPost_ret (v := .tuple #[.agg (riC x), (.bool E)]) (by simp [results, Tryz.results38, go_sem, q0, q1, q2]) rfl ?_
   exact ⟨by rw [HXX.out, HYY.out], HBZ.out⟩
 | [a, b], hwn, HWS, HW, HCC =>
  have HSM : Hid (∀ q, Calls Tryz.prog 65 #[.string (textB a), .int .i64 0] q fun e w' => e = .returned (.int .i64 ((sm10 a 0 : Nat) : Int)) ∧ q = w') := fun q => rfSmall10 a 0 q (by have := HWS.out a (by simp); omega) (by omega)
  have HSN : Hid (∀ q, Calls Tryz.prog 65 #[.string (textB b), .int .i64 0] q fun e w' => e = .returned (.int .i64 ((sm10 b 0 : Nat) : Int)) ∧ q = w') := fun q => rfSmall10 b 0 q (by have := HWS.out b (by simp); omega) (by omega)
  have HXX : Hid (rfrX [w0, a, b] = ⟨2, ((sm10 a 0 : Nat) : Int), ((sm10 b 0 : Nat) : Int)⟩) := rfl
  have s1 : w3.cell? ⟨b2, o2 + 1, none⟩ = some (.string (textB a)) := HCC.out 1 _ rfl
  have s2 : w3.cell? ⟨b2, o2 + 2, none⟩ = some (.string (textB b)) := HCC.out 2 _ rfl
  obtain ⟨m, hm⟩ : ∃ m : Int, m = ((sm10 a 0 : Nat) : Int) := ⟨_, rfl⟩
  obtain ⟨n, hn⟩ : ∃ m : Int, m = ((sm10 b 0 : Nat) : Int) := ⟨_, rfl⟩
  rw [← hm] at HSM HXX
  rw [← hn] at HSN HXX
  simp only [List.length_cons, List.length_nil]
  clear HCC HWS HW hwn hm hn
  go_upto_region 6 with (fail)
  refine wp_region_held_drew (S := fun y => y.cell? ⟨b2, o2 + 1, none⟩ = some (.string (textB a)) ∧ y.cell? ⟨b2, o2 + 2, none⟩ = some (.string (textB b)) ∧ b2 < y.heap.size) (by kernel_rfl) ⟨s1, s2, hbl3⟩ (fun hHeld => ?_)
  clear s1 s2 hbl3
  replace HL3 := Lib.hid HL3.out.drew
  replace HB3 : Hid (Below w.heap.size w w3.drew) := below_drewN HB3.out 1
  replace HX3 := Lib.hid HX3.out.drew
  generalize w3.drew = w5 at *
  try simp only [Act.put, List.setIfInBounds_toArray, List.set_cons_zero, List.set_cons_succ]
  refine wpAnyH_take (i := 0) (v := (.slice (some ⟨b2, o2, none⟩) 3 c2)) rfl (by kernel_rfl) (by kernel_rfl) (by kernel_rfl) (fun _ _ _ h => h) (Or.inl ⟨by rfl, fun w h => by (simp only [List.getElem_toArray, List.getElem_cons_succ, List.getElem_cons_zero]; clear h; go_simp)⟩) (by assumption) ?_
  simp only [Act.put, List.getElem_toArray, List.getElem_cons_succ, List.getElem_cons_zero, List.setIfInBounds_toArray, List.set_cons_zero, List.set_cons_succ]
  refine wpAnyH_take (i := 1) (v := (.pointer (some ⟨b2, o2 + 1, none⟩))) rfl (by kernel_rfl) (by kernel_rfl) (by kernel_rfl) (fun _ _ _ h => h) (Or.inl ⟨by rfl, fun w h => by (simp only [List.getElem_toArray, List.getElem_cons_succ, List.getElem_cons_zero]; clear h; go_simp)⟩) (by assumption) ?_
  simp only [Act.put, List.getElem_toArray, List.getElem_cons_succ, List.getElem_cons_zero, List.setIfInBounds_toArray, List.set_cons_zero, List.set_cons_succ]
  refine wpAnyH_take (i := 2) (v := (.string (textB a))) rfl (by kernel_rfl) (by kernel_rfl) (by kernel_rfl) (fun _ _ _ h => h) (Or.inl ⟨by rfl, fun w h => by (simp only [List.getElem_toArray, List.getElem_cons_succ, List.getElem_cons_zero]; have h1 := h.1; have h2 := h.2.2; clear h; go_simp)⟩) (by assumption) ?_
  simp only [Act.put, List.getElem_toArray, List.getElem_cons_succ, List.getElem_cons_zero, List.setIfInBounds_toArray, List.set_cons_zero, List.set_cons_succ]
  refine wpAnyH_take (i := 4) (v := (.slice (some ⟨b2, o2, none⟩) 3 c2)) rfl (by kernel_rfl) (by kernel_rfl) (by kernel_rfl) (fun _ _ _ h => h) (Or.inl ⟨by rfl, fun w h => by (simp only [List.getElem_toArray, List.getElem_cons_succ, List.getElem_cons_zero]; clear h; go_simp)⟩) (by assumption) ?_
  simp only [Act.put, List.getElem_toArray, List.getElem_cons_succ, List.getElem_cons_zero, List.setIfInBounds_toArray, List.set_cons_zero, List.set_cons_succ]
  refine wpAnyH_take (i := 5) (v := (.pointer (some ⟨b2, o2 + 2, none⟩))) rfl (by kernel_rfl) (by kernel_rfl) (by kernel_rfl) (fun _ _ _ h => h) (Or.inl ⟨by rfl, fun w h => by (simp only [List.getElem_toArray, List.getElem_cons_succ, List.getElem_cons_zero]; clear h; go_simp)⟩) (by assumption) ?_
  simp only [Act.put, List.getElem_toArray, List.getElem_cons_succ, List.getElem_cons_zero, List.setIfInBounds_toArray, List.set_cons_zero, List.set_cons_succ]
  refine wpAnyH_take (i := 6) (v := (.string (textB b))) rfl (by kernel_rfl) (by kernel_rfl) (by kernel_rfl) (fun _ _ _ h => h) (Or.inl ⟨by rfl, fun w h => by (simp only [List.getElem_toArray, List.getElem_cons_succ, List.getElem_cons_zero]; have h1 := h.2.1; have h2 := h.2.2; clear h; go_simp)⟩) (by assumption) ?_
  simp only [Act.put, List.getElem_toArray, List.getElem_cons_succ, List.getElem_cons_zero, List.setIfInBounds_toArray, List.set_cons_zero, List.set_cons_succ]
  refine wpAnyH_ready (rs := [3]) (by kernel_rfl) (by simp) ?_
  refine AllReadyH.cons rfl (fun K hK => ?_) AllReadyH.nil
  rw [if_pos (by rfl)]
  go_wp2_with fail
  refine (HSM.out _).mono ?_
  rintro e q ⟨rfl, rfl⟩
  dsimp only
  refine hK.out _ _ hHeld (fun hHeld1 => ?_)
  clear hK K hHeld1
  try simp only [Act.put, List.setIfInBounds_toArray, List.set_cons_zero, List.set_cons_succ]
  refine wpAnyH_ready (rs := [7]) (by kernel_rfl) (by simp) ?_
  refine AllReadyH.cons rfl (fun K hK => ?_) AllReadyH.nil
  rw [if_pos (by rfl)]
  go_wp2_with fail
  refine (HSN.out _).mono ?_
  rintro e q ⟨rfl, rfl⟩
  dsimp only
  refine hK.out _ _ hHeld (fun hHeld1 => ?_)
  clear hK K hHeld1
  try simp only [Act.put, List.setIfInBounds_toArray, List.set_cons_zero, List.set_cons_succ]
  refine wpAnyH_take (i := 8) (v := (.agg #[.int .i64 2, .int .i64 m, .int .i64 n])) rfl (by kernel_rfl) (by kernel_rfl) (by kernel_rfl) (fun _ _ _ h => h) (Or.inl ⟨by rfl, fun w h => by (simp only [List.getElem_toArray, List.getElem_cons_succ, List.getElem_cons_zero]; clear h; go_simp)⟩) (by assumption) ?_
  simp only [Act.put, List.getElem_toArray, List.getElem_cons_succ, List.getElem_cons_zero, List.setIfInBounds_toArray, List.set_cons_zero, List.set_cons_succ]
  have HL := HX3
  have lt := HL.out.lt
  have f0 := HL.out.free 0
  have f1 := HL.out.free 1
  have f2 := HL.out.free 2
  have c0 := (HL.out.cell 0).trans (show _ = some (Value.int .i64 0) from rfl)
  have c1 := (HL.out.cell 1).trans (show _ = some (Value.int .i64 0) from rfl)
  have c2 := (HL.out.cell 2).trans (show _ = some (Value.int .i64 0) from rfl)
  clear HL
  refine wpAnyH_ready (rs := [9]) (by kernel_rfl) (by simp) ?_
  refine AllReadyH.cons rfl (fun K hK => ?_) AllReadyH.nil
  rw [if_pos (by rfl)]
  go_wp2_with fail
  refine hK.out _ _ (have k3 := st3_kept w5 gr (.int .i64 2) (.int .i64 m) (.int .i64 n); ⟨(cell_keptN k3 hHeld.2.2 (fun (e : b2 = gr) => hbg e)).trans hHeld.1, (cell_keptN k3 hHeld.2.2 (fun (e : b2 = gr) => hbg e)).trans hHeld.2.1, Nat.lt_of_lt_of_le hHeld.2.2 k3.size⟩) (fun hHeld2 => ?_)
  clear hK K hHeld
  refine wpAnyH_done (by kernel_rfl) ?_ _
  have HX4 := Lib.hid (st3_lies (a0 := .int .i64 2) (a1 := .int .i64 m) (a2 := .int .i64 n) HX3.out)
  have HL4 := Lib.hid (HL3.out.kept (st3_kept w5 gr (.int .i64 2) (.int .i64 m) (.int .i64 n)) (fun (e : N0 = gr) => hgn e.symm))
  have HB4 := Lib.hid (HB3.out.trans ((st3_kept w5 gr (.int .i64 2) (.int .i64 m) (.int .i64 n)).below HB3.out.size (fun j hj (e : j = gr) => by omega)))
  clear HX3 HL3 HB3 lt f0 f1 f2 c0 c1 c2 HSM HSN hHeld2
  simp only [st3] at HX4 HL4 HB4
  generalize World.setCell (World.setCell (World.setCell w5 ⟨gr, 0, none⟩ (.int .i64 2)) ⟨gr, 1, none⟩ (.int .i64 m)) ⟨gr, 2, none⟩ (.int .i64 n) = w4 at *
  obtain ⟨x, hx⟩ : ∃ x : Ri, x = ⟨2, m, n⟩ := ⟨_, rfl⟩
  have HX4 : Hid (Lies w4 gr 51 (riC x)) := by rw [hx]; exact HX4.out
  rw [← hx] at HXX
  clear hx
  go_upto_region 7 with (fail)
  by_cases hbe : bs = []
  ·subst hbe
   have e0 := text_empty
   have HYY : Hid (rfrB [] [w0,a,b] = false) := rfl
   obtain ⟨T0, hT0⟩ : ∃ T, T = textB [] := ⟨_, rfl⟩
   rw [← hT0] at e0 ⊢
   clear hT0
   refine wp_region_held_drew (S := fun y => Lies y gr 51 (riC x)) (by kernel_rfl) HX4.out.drew (fun hHeld => ?_)
   have HL := Lib.hid HL4.out.drew
   have HB9 := Lib.hid (below_drewN HB4.out 1)
   clear HX4 HL4 HB4
   have HB9 : Hid (Below w.heap.size w w4.drew) := HB9
   generalize w4.drew = w5 at *
   try simp only [Act.put, List.setIfInBounds_toArray, List.set_cons_zero, List.set_cons_succ]
   refine wpAnyH_take (i := 0) (v := (.agg (riC x))) rfl (by kernel_rfl) (by kernel_rfl) (by kernel_rfl) (fun _ _ _ h => h) (Or.inl ⟨by rfl, fun w h => by (simp only [List.getElem_toArray, List.getElem_cons_succ, List.getElem_cons_zero]; have h0 := h.cell 0; have h1 := h.cell 1; have h2 := h.cell 2; have h6 := h.lt; simp at h0 h1 h2; clear h; go_simp)⟩) (by assumption) ?_
   simp only [Act.put, List.getElem_toArray, List.getElem_cons_succ, List.getElem_cons_zero, List.setIfInBounds_toArray, List.set_cons_zero, List.set_cons_succ]
   refine wpAnyH_take (i := 1) (v := (.string T0)) rfl (by kernel_rfl) (by kernel_rfl) (by kernel_rfl) (fun _ _ _ h => h) (Or.inl ⟨by rfl, fun w h => by (simp only [List.getElem_toArray, List.getElem_cons_succ, List.getElem_cons_zero]; clear h; go_simp)⟩) (by assumption) ?_
   simp only [Act.put, List.getElem_toArray, List.getElem_cons_succ, List.getElem_cons_zero, List.setIfInBounds_toArray, List.set_cons_zero, List.set_cons_succ]
   refine wpAnyH_take (i := 2) (v := (.bool false)) rfl (by kernel_rfl) (by kernel_rfl) (by kernel_rfl) (fun _ _ _ h => h) (Or.inl ⟨by rfl, fun w h => by (simp only [List.getElem_toArray, List.getElem_cons_succ, List.getElem_cons_zero]; clear h; go_simp)⟩) (by assumption) ?_
   simp only [Act.put, List.getElem_toArray, List.getElem_cons_succ, List.getElem_cons_zero, List.setIfInBounds_toArray, List.set_cons_zero, List.set_cons_succ]
   refine wpAnyH_take (i := 3) (v := (.bool false)) rfl (by kernel_rfl) (by kernel_rfl) (by kernel_rfl) (fun _ _ _ h => h) (Or.inl ⟨by rfl, fun w h => by (simp only [List.getElem_toArray, List.getElem_cons_succ, List.getElem_cons_zero]; clear h; go_simp)⟩) (by assumption) ?_
   simp only [Act.put, List.getElem_toArray, List.getElem_cons_succ, List.getElem_cons_zero, List.setIfInBounds_toArray, List.set_cons_zero, List.set_cons_succ]
   refine wpAnyH_take (i := 4) (v := undef) rfl (by kernel_rfl) (by kernel_rfl) (by kernel_rfl) (fun _ _ _ h => h) (Or.inr ⟨by rfl, rfl⟩) (by assumption) ?_
   simp only [Act.put, List.getElem_toArray, List.getElem_cons_succ, List.getElem_cons_zero, List.setIfInBounds_toArray, List.set_cons_zero, List.set_cons_succ]
   refine wpAnyH_take (i := 5) (v := undef) rfl (by kernel_rfl) (by kernel_rfl) (by kernel_rfl) (fun _ _ _ h => h) (Or.inr ⟨by rfl, rfl⟩) (by assumption) ?_
   simp only [Act.put, List.getElem_toArray, List.getElem_cons_succ, List.getElem_cons_zero, List.setIfInBounds_toArray, List.set_cons_zero, List.set_cons_succ]
   refine wpAnyH_take (i := 6) (v := undef) rfl (by kernel_rfl) (by kernel_rfl) (by kernel_rfl) (fun _ _ _ h => h) (Or.inr ⟨by rfl, rfl⟩) (by assumption) ?_
   simp only [Act.put, List.getElem_toArray, List.getElem_cons_succ, List.getElem_cons_zero, List.setIfInBounds_toArray, List.set_cons_zero, List.set_cons_succ]
   refine wpAnyH_take (i := 7) (v := undef) rfl (by kernel_rfl) (by kernel_rfl) (by kernel_rfl) (fun _ _ _ h => h) (Or.inr ⟨by rfl, rfl⟩) (by assumption) ?_
   simp only [Act.put, List.getElem_toArray, List.getElem_cons_succ, List.getElem_cons_zero, List.setIfInBounds_toArray, List.set_cons_zero, List.set_cons_succ]
   refine wpAnyH_take (i := 8) (v := (.bool false)) rfl (by kernel_rfl) (by kernel_rfl) (by kernel_rfl) (fun _ _ _ h => h) (Or.inl ⟨by rfl, fun w h => by (simp only [List.getElem_toArray, List.getElem_cons_succ, List.getElem_cons_zero]; clear h; go_simp)⟩) (by assumption) ?_
   simp only [Act.put, List.getElem_toArray, List.getElem_cons_succ, List.getElem_cons_zero, List.setIfInBounds_toArray, List.set_cons_zero, List.set_cons_succ]
   have lt := HL.out.lt
   have f0 := HL.out.free 0
   have f1 := HL.out.free 1
   have f2 := HL.out.free 2
   have c0 := (HL.out.cell 0).trans (show _ = some (Value.int .i64 0) from rfl)
   have c1 := (HL.out.cell 1).trans (show _ = some (Value.int .i64 0) from rfl)
   have c2 := (HL.out.cell 2).trans (show _ = some (Value.int .i64 0) from rfl)
   refine wpAnyH_ready (rs := [9]) (by kernel_rfl) (by simp) ?_
   refine AllReadyH.cons rfl (fun K hK => ?_) AllReadyH.nil
   rw [if_pos (by rfl)]
   go_wp2_with fail
   refine hK.out _ _ (hHeld.kept (st3_kept w5 N0 _ _ _) (fun (e : gr = N0) => hgn e)) (fun hHeld2 => ?_)
   clear hK K hHeld
   try simp only [Act.put, List.setIfInBounds_toArray, List.set_cons_zero, List.set_cons_succ]
   refine wpAnyH_take (i := 10) (v := (.bool false)) rfl (by kernel_rfl) (by kernel_rfl) (by kernel_rfl) (fun _ _ _ h => h) (Or.inl ⟨by rfl, fun w h => by (simp only [List.getElem_toArray, List.getElem_cons_succ, List.getElem_cons_zero]; clear h; go_simp)⟩) (by assumption) ?_
   simp only [Act.put, List.getElem_toArray, List.getElem_cons_succ, List.getElem_cons_zero, List.setIfInBounds_toArray, List.set_cons_zero, List.set_cons_succ]
   refine wpAnyH_done (by kernel_rfl) ?_ _
   go_wp2_with fail
   have HBZ := Lib.hid (HB9.out.trans ((st3_kept w5 N0 (.int .i64 x.k) (.int .i64 x.c) (.int .i64 x.r)).below HB9.out.size (fun j hj (e : j = N0) => by have := HN0.out; omega)))
   have HRZ := Lib.hid (st3_lies (a0 := (.int .i64 x.k)) (a1 := (.int .i64 x.c)) (a2 := (.int .i64 x.r)) HL.out)
   have q0 := (HRZ.out.cell 0).trans (show _ = some ((.int .i64 x.k)) from rfl)
   have q1 := (HRZ.out.cell 1).trans (show _ = some ((.int .i64 x.c)) from rfl)
   have q2 := (HRZ.out.cell 2).trans (show _ = some ((.int .i64 x.r)) from rfl)
   refine bodyPost_ret (v := .tuple #[.agg (riC x), (.bool false)]) (by simp [results, Tryz.results38, go_sem, q0, q1, q2]) rfl ?_
   exact ⟨by rw [HXX.out, HYY.out], HBZ.out⟩
  ·have e0 := text_nonempty hbe
   obtain ⟨E, hE⟩ : ∃ E, E = ((lnrT x).toList == (textB bs).toList) := ⟨_, rfl⟩
   have HYY : Hid (rfrB bs [w0,a,b] = E) := by
    show _ = _
    unfold rfrB
    rw [hE, HXX.out, bytes_eqb]
    cases bs with
    | nil => exact absurd rfl hbe
    | cons a l => rfl
   have HRR := Lib.hid (rfRing10 x w4.drew)
   obtain ⟨LT, hLT⟩ : ∃ T, T = lnrT x := ⟨_, rfl⟩
   rw [← hLT] at hE HRR
   obtain ⟨T0, hT0⟩ : ∃ T, T = textB bs := ⟨_, rfl⟩
   rw [← hT0] at e0 hE ⊢
   replace hE := hE.symm
   clear hT0 hLT
   refine wp_region_held_drew (S := fun y => Lies y gr 51 (riC x)) (by kernel_rfl) HX4.out.drew (fun hHeld => ?_)
   have HL9 := Lib.hid HL4.out.drew
   have HB5 : Hid (Below w.heap.size w w4.drew) := below_drewN HB4.out 1
   clear HX4 HL4 HB4
   generalize w4.drew = w5 at *
   try simp only [Act.put, List.setIfInBounds_toArray, List.set_cons_zero, List.set_cons_succ]
   refine wpAnyH_take (i := 0) (v := (.agg (riC x))) rfl (by kernel_rfl) (by kernel_rfl) (by kernel_rfl) (fun _ _ _ h => h) (Or.inl ⟨by rfl, fun w h => by (simp only [List.getElem_toArray, List.getElem_cons_succ, List.getElem_cons_zero]; have h0 := h.cell 0; have h1 := h.cell 1; have h2 := h.cell 2; have h6 := h.lt; simp at h0 h1 h2; clear h; go_simp)⟩) (by assumption) ?_
   simp only [Act.put, List.getElem_toArray, List.getElem_cons_succ, List.getElem_cons_zero, List.setIfInBounds_toArray, List.set_cons_zero, List.set_cons_succ]
   refine wpAnyH_take (i := 1) (v := (.string T0)) rfl (by kernel_rfl) (by kernel_rfl) (by kernel_rfl) (fun _ _ _ h => h) (Or.inl ⟨by rfl, fun w h => by (simp only [List.getElem_toArray, List.getElem_cons_succ, List.getElem_cons_zero]; clear h; go_simp)⟩) (by assumption) ?_
   simp only [Act.put, List.getElem_toArray, List.getElem_cons_succ, List.getElem_cons_zero, List.setIfInBounds_toArray, List.set_cons_zero, List.set_cons_succ]
   refine wpAnyH_take (i := 2) (v := (.bool true)) rfl (by kernel_rfl) (by kernel_rfl) (by kernel_rfl) (fun _ _ _ h => h) (Or.inl ⟨by rfl, fun w h => by (simp only [List.getElem_toArray, List.getElem_cons_succ, List.getElem_cons_zero]; clear h; go_simp)⟩) (by assumption) ?_
   simp only [Act.put, List.getElem_toArray, List.getElem_cons_succ, List.getElem_cons_zero, List.setIfInBounds_toArray, List.set_cons_zero, List.set_cons_succ]
   refine wpAnyH_take (i := 3) (v := (.bool true)) rfl (by kernel_rfl) (by kernel_rfl) (by kernel_rfl) (fun _ _ _ h => h) (Or.inl ⟨by rfl, fun w h => by (simp only [List.getElem_toArray, List.getElem_cons_succ, List.getElem_cons_zero]; clear h; go_simp)⟩) (by assumption) ?_
   simp only [Act.put, List.getElem_toArray, List.getElem_cons_succ, List.getElem_cons_zero, List.setIfInBounds_toArray, List.set_cons_zero, List.set_cons_succ]
   refine wpAnyH_take (i := 4) (v := (.agg (riC x))) rfl (by kernel_rfl) (by kernel_rfl) (by kernel_rfl) (fun _ _ _ h => h) (Or.inl ⟨by rfl, fun w h => by (simp only [List.getElem_toArray, List.getElem_cons_succ, List.getElem_cons_zero]; have h0 := h.cell 0; have h1 := h.cell 1; have h2 := h.cell 2; have h6 := h.lt; simp at h0 h1 h2; clear h; go_simp)⟩) (by assumption) ?_
   simp only [Act.put, List.getElem_toArray, List.getElem_cons_succ, List.getElem_cons_zero, List.setIfInBounds_toArray, List.set_cons_zero, List.set_cons_succ]
   refine wpAnyH_take (i := 6) (v := (.string T0)) rfl (by kernel_rfl) (by kernel_rfl) (by kernel_rfl) (fun _ _ _ h => h) (Or.inl ⟨by rfl, fun w h => by (simp only [List.getElem_toArray, List.getElem_cons_succ, List.getElem_cons_zero]; clear h; go_simp)⟩) (by assumption) ?_
   simp only [Act.put, List.getElem_toArray, List.getElem_cons_succ, List.getElem_cons_zero, List.setIfInBounds_toArray, List.set_cons_zero, List.set_cons_succ]
   refine wpAnyH_ready (rs := [5]) (by kernel_rfl) (by simp) ?_
   refine AllReadyH.cons rfl (fun K hK => ?_) AllReadyH.nil
   rw [if_pos (by rfl)]
   go_wp2_with fail
   refine HRR.out.mono ?_
   rintro e w6 ⟨rfl, hb6⟩
   dsimp only
   refine hK.out _ _ (hHeld.below hb6 hHeld.lt) (fun hHeld1 => ?_)
   clear hK K
   have HL := Lib.hid (HL9.out.below hb6 HL9.out.lt)
   have HB9 := Lib.hid (HB5.out.trans (hb6.mono HB5.out.size))
   clear hb6 HL9 hHeld HB5
   try simp only [Act.put, List.setIfInBounds_toArray, List.set_cons_zero, List.set_cons_succ]
   refine wpAnyH_take (i := 7) (v := (.bool E)) rfl (by kernel_rfl) (by kernel_rfl) (by kernel_rfl) (fun _ _ _ h => h) (Or.inl ⟨by rfl, fun w h => by (simp only [List.getElem_toArray, List.getElem_cons_succ, List.getElem_cons_zero]; clear h; go_simp)⟩) (by assumption) ?_
   simp only [Act.put, List.getElem_toArray, List.getElem_cons_succ, List.getElem_cons_zero, List.setIfInBounds_toArray, List.set_cons_zero, List.set_cons_succ]
   refine wpAnyH_take (i := 8) (v := (.bool E)) rfl (by kernel_rfl) (by kernel_rfl) (by kernel_rfl) (fun _ _ _ h => h) (Or.inl ⟨by rfl, fun w h => by (simp only [List.getElem_toArray, List.getElem_cons_succ, List.getElem_cons_zero]; clear h; go_simp)⟩) (by assumption) ?_
   simp only [Act.put, List.getElem_toArray, List.getElem_cons_succ, List.getElem_cons_zero, List.setIfInBounds_toArray, List.set_cons_zero, List.set_cons_succ]
   have lt := HL.out.lt
   have f0 := HL.out.free 0
   have f1 := HL.out.free 1
   have f2 := HL.out.free 2
   have c0 := (HL.out.cell 0).trans (show _ = some (Value.int .i64 0) from rfl)
   have c1 := (HL.out.cell 1).trans (show _ = some (Value.int .i64 0) from rfl)
   have c2 := (HL.out.cell 2).trans (show _ = some (Value.int .i64 0) from rfl)
   refine wpAnyH_ready (rs := [9]) (by kernel_rfl) (by simp) ?_
   refine AllReadyH.cons rfl (fun K hK => ?_) AllReadyH.nil
   rw [if_pos (by rfl)]
   go_wp2_with fail
   refine hK.out _ _ (hHeld1.kept (st3_kept w6 N0 _ _ _) (fun (e : gr = N0) => hgn e)) (fun hHeld2 => ?_)
   clear hK K hHeld1
   try simp only [Act.put, List.setIfInBounds_toArray, List.set_cons_zero, List.set_cons_succ]
   refine wpAnyH_take (i := 10) (v := (.bool E)) rfl (by kernel_rfl) (by kernel_rfl) (by kernel_rfl) (fun _ _ _ h => h) (Or.inl ⟨by rfl, fun w h => by (simp only [List.getElem_toArray, List.getElem_cons_succ, List.getElem_cons_zero]; clear h; go_simp)⟩) (by assumption) ?_
   simp only [Act.put, List.getElem_toArray, List.getElem_cons_succ, List.getElem_cons_zero, List.setIfInBounds_toArray, List.set_cons_zero, List.set_cons_succ]
   refine wpAnyH_done (by kernel_rfl) ?_ _
   go_wp2_with fail
   have HBZ := Lib.hid (HB9.out.trans ((st3_kept w6 N0 (.int .i64 x.k) (.int .i64 x.c) (.int .i64 x.r)).below HB9.out.size (fun j hj (e : j = N0) => by have := HN0.out; omega)))
   have HRZ := Lib.hid (st3_lies (a0 := (.int .i64 x.k)) (a1 := (.int .i64 x.c)) (a2 := (.int .i64 x.r)) HL.out)
   have q0 := (HRZ.out.cell 0).trans (show _ = some ((.int .i64 x.k)) from rfl)
   have q1 := (HRZ.out.cell 1).trans (show _ = some ((.int .i64 x.c)) from rfl)
   have q2 := (HRZ.out.cell 2).trans (show _ = some ((.int .i64 x.r)) from rfl)
   refine bodyPost_ret (v := .tuple #[.agg (riC x), (.bool E)]) (by simp [results, Tryz.results38, go_sem, q0, q1, q2]) rfl ?_
   exact ⟨by rw [HXX.out, HYY.out], HBZ.out⟩
 | a :: b :: c :: l, hwn, HWS, HW, HCC =>
  have HXX : Hid (rfrX (w0 :: a :: b :: c :: l) = ri0) := rfl
  obtain ⟨x, hx⟩ : ∃ x, x = ri0 := ⟨_, rfl⟩
  have HX4 : Hid (Lies w3 gr 51 (riC x)) := by rw [hx]; exact HX3.out
  rw [← hx] at HXX
  have HL4 := HL3
  have HB4 := HB3
  simp only [List.length_cons]
  obtain ⟨n, hn⟩ : ∃ n, n = l.length + 1 + 1 + 1 + 1 := ⟨_, rfl⟩
  have hn4 : 4 ≤ n := by rw [hn]; omega
  rw [← hn]
  have e1 : ((n : Int) == 2) = false := by rw [beq_eq_false_iff_ne]; omega
  have e2 : ((n : Int) == 3) = false := by rw [beq_eq_false_iff_ne]; omega
  clear HX3 HL3 HB3 HCC HWS HW hx hwn hn
  go_upto_region 7 with (fail)
  obtain ⟨w4, hw4⟩ : ∃ w4, w4 = w3 := ⟨_, rfl⟩
  rw [← hw4] at HX4 HL4 HB4 ⊢
  clear hw4
  by_cases hbe : bs = []
  ·subst hbe
   have e0 := text_empty
   have HYY : Hid (rfrB [] (w0 :: a :: b :: c :: l) = false) := rfl
   obtain ⟨T0, hT0⟩ : ∃ T, T = textB [] := ⟨_, rfl⟩
   rw [← hT0] at e0 ⊢
   clear hT0
   refine wp_region_held_drew (S := fun y => Lies y gr 51 (riC x)) (by kernel_rfl) HX4.out.drew (fun hHeld => ?_)
   have HL := Lib.hid HL4.out.drew
   have HB9 := Lib.hid (below_drewN HB4.out 1)
   clear HX4 HL4 HB4
   have HB9 : Hid (Below w.heap.size w w4.drew) := HB9
   generalize w4.drew = w5 at *
   try simp only [Act.put, List.setIfInBounds_toArray, List.set_cons_zero, List.set_cons_succ]
   refine wpAnyH_take (i := 0) (v := (.agg (riC x))) rfl (by kernel_rfl) (by kernel_rfl) (by kernel_rfl) (fun _ _ _ h => h) (Or.inl ⟨by rfl, fun w h => by (simp only [List.getElem_toArray, List.getElem_cons_succ, List.getElem_cons_zero]; have h0 := h.cell 0; have h1 := h.cell 1; have h2 := h.cell 2; have h6 := h.lt; simp at h0 h1 h2; clear h; go_simp)⟩) (by assumption) ?_
   simp only [Act.put, List.getElem_toArray, List.getElem_cons_succ, List.getElem_cons_zero, List.setIfInBounds_toArray, List.set_cons_zero, List.set_cons_succ]
   refine wpAnyH_take (i := 1) (v := (.string T0)) rfl (by kernel_rfl) (by kernel_rfl) (by kernel_rfl) (fun _ _ _ h => h) (Or.inl ⟨by rfl, fun w h => by (simp only [List.getElem_toArray, List.getElem_cons_succ, List.getElem_cons_zero]; clear h; go_simp)⟩) (by assumption) ?_
   simp only [Act.put, List.getElem_toArray, List.getElem_cons_succ, List.getElem_cons_zero, List.setIfInBounds_toArray, List.set_cons_zero, List.set_cons_succ]
   refine wpAnyH_take (i := 2) (v := (.bool false)) rfl (by kernel_rfl) (by kernel_rfl) (by kernel_rfl) (fun _ _ _ h => h) (Or.inl ⟨by rfl, fun w h => by (simp only [List.getElem_toArray, List.getElem_cons_succ, List.getElem_cons_zero]; clear h; go_simp)⟩) (by assumption) ?_
   simp only [Act.put, List.getElem_toArray, List.getElem_cons_succ, List.getElem_cons_zero, List.setIfInBounds_toArray, List.set_cons_zero, List.set_cons_succ]
   refine wpAnyH_take (i := 3) (v := (.bool false)) rfl (by kernel_rfl) (by kernel_rfl) (by kernel_rfl) (fun _ _ _ h => h) (Or.inl ⟨by rfl, fun w h => by (simp only [List.getElem_toArray, List.getElem_cons_succ, List.getElem_cons_zero]; clear h; go_simp)⟩) (by assumption) ?_
   simp only [Act.put, List.getElem_toArray, List.getElem_cons_succ, List.getElem_cons_zero, List.setIfInBounds_toArray, List.set_cons_zero, List.set_cons_succ]
   refine wpAnyH_take (i := 4) (v := undef) rfl (by kernel_rfl) (by kernel_rfl) (by kernel_rfl) (fun _ _ _ h => h) (Or.inr ⟨by rfl, rfl⟩) (by assumption) ?_
   simp only [Act.put, List.getElem_toArray, List.getElem_cons_succ, List.getElem_cons_zero, List.setIfInBounds_toArray, List.set_cons_zero, List.set_cons_succ]
   refine wpAnyH_take (i := 5) (v := undef) rfl (by kernel_rfl) (by kernel_rfl) (by kernel_rfl) (fun _ _ _ h => h) (Or.inr ⟨by rfl, rfl⟩) (by assumption) ?_
   simp only [Act.put, List.getElem_toArray, List.getElem_cons_succ, List.getElem_cons_zero, List.setIfInBounds_toArray, List.set_cons_zero, List.set_cons_succ]
   refine wpAnyH_take (i := 6) (v := undef) rfl (by kernel_rfl) (by kernel_rfl) (by kernel_rfl) (fun _ _ _ h => h) (Or.inr ⟨by rfl, rfl⟩) (by assumption) ?_
   simp only [Act.put, List.getElem_toArray, List.getElem_cons_succ, List.getElem_cons_zero, List.setIfInBounds_toArray, List.set_cons_zero, List.set_cons_succ]
   refine wpAnyH_take (i := 7) (v := undef) rfl (by kernel_rfl) (by kernel_rfl) (by kernel_rfl) (fun _ _ _ h => h) (Or.inr ⟨by rfl, rfl⟩) (by assumption) ?_
   simp only [Act.put, List.getElem_toArray, List.getElem_cons_succ, List.getElem_cons_zero, List.setIfInBounds_toArray, List.set_cons_zero, List.set_cons_succ]
   refine wpAnyH_take (i := 8) (v := (.bool false)) rfl (by kernel_rfl) (by kernel_rfl) (by kernel_rfl) (fun _ _ _ h => h) (Or.inl ⟨by rfl, fun w h => by (simp only [List.getElem_toArray, List.getElem_cons_succ, List.getElem_cons_zero]; clear h; go_simp)⟩) (by assumption) ?_
   simp only [Act.put, List.getElem_toArray, List.getElem_cons_succ, List.getElem_cons_zero, List.setIfInBounds_toArray, List.set_cons_zero, List.set_cons_succ]
   have lt := HL.out.lt
   have f0 := HL.out.free 0
   have f1 := HL.out.free 1
   have f2 := HL.out.free 2
   have c0 := (HL.out.cell 0).trans (show _ = some (Value.int .i64 0) from rfl)
   have c1 := (HL.out.cell 1).trans (show _ = some (Value.int .i64 0) from rfl)
   have c2 := (HL.out.cell 2).trans (show _ = some (Value.int .i64 0) from rfl)
   refine wpAnyH_ready (rs := [9]) (by kernel_rfl) (by simp) ?_
   refine AllReadyH.cons rfl (fun K hK => ?_) AllReadyH.nil
   rw [if_pos (by rfl)]
   go_wp2_with fail
   refine hK.out _ _ (hHeld.kept (st3_kept w5 N0 _ _ _) (fun (e : gr = N0) => hgn e)) (fun hHeld2 => ?_)
   clear hK K hHeld
   try simp only [Act.put, List.setIfInBounds_toArray, List.set_cons_zero, List.set_cons_succ]
   refine wpAnyH_take (i := 10) (v := (.bool false)) rfl (by kernel_rfl) (by kernel_rfl) (by kernel_rfl) (fun _ _ _ h => h) (Or.inl ⟨by rfl, fun w h => by (simp only [List.getElem_toArray, List.getElem_cons_succ, List.getElem_cons_zero]; clear h; go_simp)⟩) (by assumption) ?_
   simp only [Act.put, List.getElem_toArray, List.getElem_cons_succ, List.getElem_cons_zero, List.setIfInBounds_toArray, List.set_cons_zero, List.set_cons_succ]
   refine wpAnyH_done (by kernel_rfl) ?_ _
   go_wp2_with fail
   have HBZ := Lib.hid (HB9.out.trans ((st3_kept w5 N0 (.int .i64 x.k) (.int .i64 x.c) (.int .i64 x.r)).below HB9.out.size (fun j hj (e : j = N0) => by have := HN0.out; omega)))
   have HRZ := Lib.hid (st3_lies (a0 := (.int .i64 x.k)) (a1 := (.int .i64 x.c)) (a2 := (.int .i64 x.r)) HL.out)
   have q0 := (HRZ.out.cell 0).trans (show _ = some ((.int .i64 x.k)) from rfl)
   have q1 := (HRZ.out.cell 1).trans (show _ = some ((.int .i64 x.c)) from rfl)
   have q2 := (HRZ.out.cell 2).trans (show _ = some ((.int .i64 x.r)) from rfl)
   refine bodyPost_ret (v := .tuple #[.agg (riC x), (.bool false)]) (by simp [results, Tryz.results38, go_sem, q0, q1, q2]) rfl ?_
   exact ⟨by rw [HXX.out, HYY.out], HBZ.out⟩
  ·have e0 := text_nonempty hbe
   obtain ⟨E, hE⟩ : ∃ E, E = ((lnrT x).toList == (textB bs).toList) := ⟨_, rfl⟩
   have HYY : Hid (rfrB bs (w0 :: a :: b :: c :: l) = E) := by
    show _ = _
    unfold rfrB
    rw [hE, HXX.out, bytes_eqb]
    cases bs with
    | nil => exact absurd rfl hbe
    | cons a l => rfl
   have HRR := Lib.hid (rfRing10 x w4.drew)
   obtain ⟨LT, hLT⟩ : ∃ T, T = lnrT x := ⟨_, rfl⟩
   rw [← hLT] at hE HRR
   obtain ⟨T0, hT0⟩ : ∃ T, T = textB bs := ⟨_, rfl⟩
   rw [← hT0] at e0 hE ⊢
   replace hE := hE.symm
   clear hT0 hLT
   refine wp_region_held_drew (S := fun y => Lies y gr 51 (riC x)) (by kernel_rfl) HX4.out.drew (fun hHeld => ?_)
   have HL9 := Lib.hid HL4.out.drew
   have HB5 : Hid (Below w.heap.size w w4.drew) := below_drewN HB4.out 1
   clear HX4 HL4 HB4
   generalize w4.drew = w5 at *
   try simp only [Act.put, List.setIfInBounds_toArray, List.set_cons_zero, List.set_cons_succ]
   refine wpAnyH_take (i := 0) (v := (.agg (riC x))) rfl (by kernel_rfl) (by kernel_rfl) (by kernel_rfl) (fun _ _ _ h => h) (Or.inl ⟨by rfl, fun w h => by (simp only [List.getElem_toArray, List.getElem_cons_succ, List.getElem_cons_zero]; have h0 := h.cell 0; have h1 := h.cell 1; have h2 := h.cell 2; have h6 := h.lt; simp at h0 h1 h2; clear h; go_simp)⟩) (by assumption) ?_
   simp only [Act.put, List.getElem_toArray, List.getElem_cons_succ, List.getElem_cons_zero, List.setIfInBounds_toArray, List.set_cons_zero, List.set_cons_succ]
   refine wpAnyH_take (i := 1) (v := (.string T0)) rfl (by kernel_rfl) (by kernel_rfl) (by kernel_rfl) (fun _ _ _ h => h) (Or.inl ⟨by rfl, fun w h => by (simp only [List.getElem_toArray, List.getElem_cons_succ, List.getElem_cons_zero]; clear h; go_simp)⟩) (by assumption) ?_
   simp only [Act.put, List.getElem_toArray, List.getElem_cons_succ, List.getElem_cons_zero, List.setIfInBounds_toArray, List.set_cons_zero, List.set_cons_succ]
   refine wpAnyH_take (i := 2) (v := (.bool true)) rfl (by kernel_rfl) (by kernel_rfl) (by kernel_rfl) (fun _ _ _ h => h) (Or.inl ⟨by rfl, fun w h => by (simp only [List.getElem_toArray, List.getElem_cons_succ, List.getElem_cons_zero]; clear h; go_simp)⟩) (by assumption) ?_
   simp only [Act.put, List.getElem_toArray, List.getElem_cons_succ, List.getElem_cons_zero, List.setIfInBounds_toArray, List.set_cons_zero, List.set_cons_succ]
   refine wpAnyH_take (i := 3) (v := (.bool true)) rfl (by kernel_rfl) (by kernel_rfl) (by kernel_rfl) (fun _ _ _ h => h) (Or.inl ⟨by rfl, fun w h => by (simp only [List.getElem_toArray, List.getElem_cons_succ, List.getElem_cons_zero]; clear h; go_simp)⟩) (by assumption) ?_
   simp only [Act.put, List.getElem_toArray, List.getElem_cons_succ, List.getElem_cons_zero, List.setIfInBounds_toArray, List.set_cons_zero, List.set_cons_succ]
   refine wpAnyH_take (i := 4) (v := (.agg (riC x))) rfl (by kernel_rfl) (by kernel_rfl) (by kernel_rfl) (fun _ _ _ h => h) (Or.inl ⟨by rfl, fun w h => by (simp only [List.getElem_toArray, List.getElem_cons_succ, List.getElem_cons_zero]; have h0 := h.cell 0; have h1 := h.cell 1; have h2 := h.cell 2; have h6 := h.lt; simp at h0 h1 h2; clear h; go_simp)⟩) (by assumption) ?_
   simp only [Act.put, List.getElem_toArray, List.getElem_cons_succ, List.getElem_cons_zero, List.setIfInBounds_toArray, List.set_cons_zero, List.set_cons_succ]
   refine wpAnyH_take (i := 6) (v := (.string T0)) rfl (by kernel_rfl) (by kernel_rfl) (by kernel_rfl) (fun _ _ _ h => h) (Or.inl ⟨by rfl, fun w h => by (simp only [List.getElem_toArray, List.getElem_cons_succ, List.getElem_cons_zero]; clear h; go_simp)⟩) (by assumption) ?_
   simp only [Act.put, List.getElem_toArray, List.getElem_cons_succ, List.getElem_cons_zero, List.setIfInBounds_toArray, List.set_cons_zero, List.set_cons_succ]
   refine wpAnyH_ready (rs := [5]) (by kernel_rfl) (by simp) ?_
   refine AllReadyH.cons rfl (fun K hK => ?_) AllReadyH.nil
   rw [if_pos (by rfl)]
   go_wp2_with fail
   refine HRR.out.mono ?_
   rintro e w6 ⟨rfl, hb6⟩
   dsimp only
   refine hK.out _ _ (hHeld.below hb6 hHeld.lt) (fun hHeld1 => ?_)
   clear hK K
   have HL := Lib.hid (HL9.out.below hb6 HL9.out.lt)
   have HB9 := Lib.hid (HB5.out.trans (hb6.mono HB5.out.size))
   clear hb6 HL9 hHeld HB5
   try simp only [Act.put, List.setIfInBounds_toArray, List.set_cons_zero, List.set_cons_succ]
   refine wpAnyH_take (i := 7) (v := (.bool E)) rfl (by kernel_rfl) (by kernel_rfl) (by kernel_rfl) (fun _ _ _ h => h) (Or.inl ⟨by rfl, fun w h => by (simp only [List.getElem_toArray, List.getElem_cons_succ, List.getElem_cons_zero]; clear h; go_simp)⟩) (by assumption) ?_
   simp only [Act.put, List.getElem_toArray, List.getElem_cons_succ, List.getElem_cons_zero, List.setIfInBounds_toArray, List.set_cons_zero, List.set_cons_succ]
   refine wpAnyH_take (i := 8) (v := (.bool E)) rfl (by kernel_rfl) (by kernel_rfl) (by kernel_rfl) (fun _ _ _ h => h) (Or.inl ⟨by rfl, fun w h => by (simp only [List.getElem_toArray, List.getElem_cons_succ, List.getElem_cons_zero]; clear h; go_simp)⟩) (by assumption) ?_
   simp only [Act.put, List.getElem_toArray, List.getElem_cons_succ, List.getElem_cons_zero, List.setIfInBounds_toArray, List.set_cons_zero, List.set_cons_succ]
   have lt := HL.out.lt
   have f0 := HL.out.free 0
   have f1 := HL.out.free 1
   have f2 := HL.out.free 2
   have c0 := (HL.out.cell 0).trans (show _ = some (Value.int .i64 0) from rfl)
   have c1 := (HL.out.cell 1).trans (show _ = some (Value.int .i64 0) from rfl)
   have c2 := (HL.out.cell 2).trans (show _ = some (Value.int .i64 0) from rfl)
   refine wpAnyH_ready (rs := [9]) (by kernel_rfl) (by simp) ?_
   refine AllReadyH.cons rfl (fun K hK => ?_) AllReadyH.nil
   rw [if_pos (by rfl)]
   go_wp2_with fail
   refine hK.out _ _ (hHeld1.kept (st3_kept w6 N0 _ _ _) (fun (e : gr = N0) => hgn e)) (fun hHeld2 => ?_)
   clear hK K hHeld1
   try simp only [Act.put, List.setIfInBounds_toArray, List.set_cons_zero, List.set_cons_succ]
   refine wpAnyH_take (i := 10) (v := (.bool E)) rfl (by kernel_rfl) (by kernel_rfl) (by kernel_rfl) (fun _ _ _ h => h) (Or.inl ⟨by rfl, fun w h => by (simp only [List.getElem_toArray, List.getElem_cons_succ, List.getElem_cons_zero]; clear h; go_simp)⟩) (by assumption) ?_
   simp only [Act.put, List.getElem_toArray, List.getElem_cons_succ, List.getElem_cons_zero, List.setIfInBounds_toArray, List.set_cons_zero, List.set_cons_succ]
   refine wpAnyH_done (by kernel_rfl) ?_ _
   go_wp2_with fail
   have HBZ := Lib.hid (HB9.out.trans ((st3_kept w6 N0 (.int .i64 x.k) (.int .i64 x.c) (.int .i64 x.r)).below HB9.out.size (fun j hj (e : j = N0) => by have := HN0.out; omega)))
   have HRZ := Lib.hid (st3_lies (a0 := (.int .i64 x.k)) (a1 := (.int .i64 x.c)) (a2 := (.int .i64 x.r)) HL.out)
   have q0 := (HRZ.out.cell 0).trans (show _ = some ((.int .i64 x.k)) from rfl)
   have q1 := (HRZ.out.cell 1).trans (show _ = some ((.int .i64 x.c)) from rfl)
   have q2 := (HRZ.out.cell 2).trans (show _ = some ((.int .i64 x.r)) from rfl)
   refine bodyPost_ret (v := .tuple #[.agg (riC x), (.bool E)]) (by simp [results, Tryz.results38, go_sem, q0, q1, q2]) rfl ?_
   exact ⟨by rw [HXX.out, HYY.out], HBZ.out⟩
def formL (op : Int) : List UInt8 :=
 if op = 1 then [114, 48, 48, 48, 110] else if op = 2 ∨ op = 23 then [114, 114, 48, 48, 48] else if 3 ≤ op ∧ op ≤ 14 then [114, 114, 114, 48, 48] else
 if op = 15 then [48, 48, 48, 48, 112] else if op = 16 ∨ op = 17 then [114, 48, 48, 48, 112] else if op = 18 then [114, 114, 103, 109, 48] else if op = 19 then [114, 114, 103, 109, 100] else
 if op = 20 then [48, 48, 103, 48, 48] else if op = 21 ∨ op = 22 ∨ op = 24 then [114, 48, 48, 48, 48] else if op = 25 then [48, 48, 48, 48, 48] else []
def mostN (c : Nat) : Nat := if c = 114 ∨ c = 103 ∨ c = 100 then 7 else if c = 109 then 2 else if c = 112 then 256 else if c = 110 then 18446744073709551615 else 0
theorem form_yes {op : Int} (h : opB op = true) : (formL op).length = 5 ∧ mostN ((formL op).getD 4 0).toNat = gK op ∧ ((mostN ((formL op).getD 0 0).toNat : Nat) : Int) = (gL op).1 ∧ ((mostN ((formL op).getD 1 0).toNat : Nat) : Int) = (gL op).2.1 ∧ ((mostN ((formL op).getD 2 0).toNat : Nat) : Int) = (gL op).2.2.1 ∧ ((mostN ((formL op).getD 3 0).toNat : Nat) : Int) = (gL op).2.2.2 := by
 rcases op_lit h with rfl | rfl | rfl | rfl | rfl | rfl | rfl | rfl | rfl | rfl | rfl | rfl | rfl | rfl | rfl | rfl | rfl | rfl | rfl | rfl | rfl | rfl | rfl | rfl | rfl <;> decide +kernel
set_option maxHeartbeats 8000000 in
theorem form_lit (op : Int) (w : World) (h : op = 1 ∨ op = 2 ∨ op = 3 ∨ op = 4 ∨ op = 5 ∨ op = 6 ∨ op = 7 ∨ op = 8 ∨ op = 9 ∨ op = 10 ∨ op = 11 ∨ op = 12 ∨ op = 13 ∨ op = 14 ∨ op = 15 ∨ op = 16 ∨ op = 17 ∨ op = 18 ∨ op = 19 ∨ op = 20 ∨ op = 21 ∨ op = 22 ∨ op = 23 ∨ op = 24 ∨ op = 25) :
  Calls Tryz.prog 28 #[.int .i64 op] w fun e w' => e = .returned (.string ⟨(formL op).toArray⟩) ∧ w = w' := by
 rcases h with rfl | rfl | rfl | rfl | rfl | rfl | rfl | rfl | rfl | rfl | rfl | rfl | rfl | rfl | rfl | rfl | rfl | rfl | rfl | rfl | rfl | rfl | rfl | rfl | rfl
 all_goals
  go_enter Tryz.func28, Tryz.ntmps28
  go_wp2
  go_ret
  exact ⟨rfl, rfl⟩
set_option maxHeartbeats 4000000 in
theorem form_none (op : Int) (w : World) (h : opB op = false) : Calls Tryz.prog 28 #[.int .i64 op] w fun e w' => e = .returned (.string ⟨#[]⟩) ∧ w = w' := by
 have h := of_decide_eq_false h
 by_cases h1 : op < 1
 ·have a1 : (op == 1) = false := by rw [beq_eq_false_iff_ne]; omega
  have a2 : (op == 2) = false := by rw [beq_eq_false_iff_ne]; omega
  have a23 : (op == 23) = false := by rw [beq_eq_false_iff_ne]; omega
  have a3 : decide (3 ≤ op) = false := by simp; omega
  have a15 : (op == 15) = false := by rw [beq_eq_false_iff_ne]; omega
  have a16 : (op == 16) = false := by rw [beq_eq_false_iff_ne]; omega
  have a17 : (op == 17) = false := by rw [beq_eq_false_iff_ne]; omega
  have a18 : (op == 18) = false := by rw [beq_eq_false_iff_ne]; omega
  have a19 : (op == 19) = false := by rw [beq_eq_false_iff_ne]; omega
  have a20 : (op == 20) = false := by rw [beq_eq_false_iff_ne]; omega
  have a21 : (op == 21) = false := by rw [beq_eq_false_iff_ne]; omega
  have a22 : (op == 22) = false := by rw [beq_eq_false_iff_ne]; omega
  have a24 : (op == 24) = false := by rw [beq_eq_false_iff_ne]; omega
  have a25 : (op == 25) = false := by rw [beq_eq_false_iff_ne]; omega
  clear h
  go_enter Tryz.func28, Tryz.ntmps28
  go_wp2
  go_ret
  exact ⟨rfl, rfl⟩
 ·have h2 : 25 < op := by omega
  have a1 : (op == 1) = false := by rw [beq_eq_false_iff_ne]; omega
  have a2 : (op == 2) = false := by rw [beq_eq_false_iff_ne]; omega
  have a23 : (op == 23) = false := by rw [beq_eq_false_iff_ne]; omega
  have a3 : decide (3 ≤ op) = true := by simp; omega
  have a14 : decide (op ≤ 14) = false := by simp; omega
  have a15 : (op == 15) = false := by rw [beq_eq_false_iff_ne]; omega
  have a16 : (op == 16) = false := by rw [beq_eq_false_iff_ne]; omega
  have a17 : (op == 17) = false := by rw [beq_eq_false_iff_ne]; omega
  have a18 : (op == 18) = false := by rw [beq_eq_false_iff_ne]; omega
  have a19 : (op == 19) = false := by rw [beq_eq_false_iff_ne]; omega
  have a20 : (op == 20) = false := by rw [beq_eq_false_iff_ne]; omega
  have a21 : (op == 21) = false := by rw [beq_eq_false_iff_ne]; omega
  have a22 : (op == 22) = false := by rw [beq_eq_false_iff_ne]; omega
  have a24 : (op == 24) = false := by rw [beq_eq_false_iff_ne]; omega
  have a25 : (op == 25) = false := by rw [beq_eq_false_iff_ne]; omega
  clear h h1
  go_enter Tryz.func28, Tryz.ntmps28
  go_wp2
  go_ret
  exact ⟨rfl, rfl⟩
set_option maxHeartbeats 4000000 in
theorem most_any (c : Nat) (w : World) : Calls Tryz.prog 29 #[.int .u8 (c : Int)] w fun e w' => e = .returned (.int .u64 (mostN c : Nat)) ∧ w = w' := by
 have hm : mostN c = if c = 114 ∨ c = 103 ∨ c = 100 then 7 else if c = 109 then 2 else if c = 112 then 256 else if c = 110 then 18446744073709551615 else 0 := rfl
 have HM := Lib.hid hm
 clear hm
 obtain ⟨b1, h1⟩ : ∃ b, ((c : Int) == 114) = b := ⟨_, rfl⟩
 obtain ⟨b2, h2⟩ : ∃ b, ((c : Int) == 103) = b := ⟨_, rfl⟩
 obtain ⟨b3, h3⟩ : ∃ b, ((c : Int) == 100) = b := ⟨_, rfl⟩
 obtain ⟨b4, h4⟩ : ∃ b, ((c : Int) == 109) = b := ⟨_, rfl⟩
 obtain ⟨b5, h5⟩ : ∃ b, ((c : Int) == 112) = b := ⟨_, rfl⟩
 obtain ⟨b6, h6⟩ : ∃ b, ((c : Int) == 110) = b := ⟨_, rfl⟩
 cases b1
 case true =>
  have : c = 114 := by have := beq_iff_eq.1 h1; omega
  subst this
  clear h1 h2 h3 h4 h5 h6
  go_enter Tryz.func29, Tryz.ntmps29
  go_wp2
  go_ret
  exact ⟨rfl, rfl⟩
 cases b2
 case true =>
  have : c = 103 := by have := beq_iff_eq.1 h2; omega
  subst this
  clear h1 h2 h3 h4 h5 h6
  go_enter Tryz.func29, Tryz.ntmps29
  go_wp2
  go_ret
  exact ⟨rfl, rfl⟩
 cases b3
 case true =>
  have : c = 100 := by have := beq_iff_eq.1 h3; omega
  subst this
  clear h1 h2 h3 h4 h5 h6
  go_enter Tryz.func29, Tryz.ntmps29
  go_wp2
  go_ret
  exact ⟨rfl, rfl⟩
 cases b4
 case true =>
  have : c = 109 := by have := beq_iff_eq.1 h4; omega
  subst this
  clear h1 h2 h3 h4 h5 h6
  go_enter Tryz.func29, Tryz.ntmps29
  go_wp2
  go_ret
  exact ⟨rfl, rfl⟩
 cases b5
 case true =>
  have : c = 112 := by have := beq_iff_eq.1 h5; omega
  subst this
  clear h1 h2 h3 h4 h5 h6
  go_enter Tryz.func29, Tryz.ntmps29
  go_wp2
  go_ret
  exact ⟨rfl, rfl⟩
 cases b6
 case true =>
  have : c = 110 := by have := beq_iff_eq.1 h6; omega
  subst this
  clear h1 h2 h3 h4 h5 h6
  go_enter Tryz.func29, Tryz.ntmps29
  go_wp2
  go_ret
  exact ⟨rfl, rfl⟩
 have HZ : Hid (mostN c = 0) := by
  rw [beq_eq_false_iff_ne] at h1 h2 h3 h4 h5 h6
  show mostN c = 0
  rw [HM.out, if_neg (by omega), if_neg (by omega), if_neg (by omega), if_neg (by omega)]
 go_enter Tryz.func29, Tryz.ntmps29
 go_wp2
 go_ret
 exact ⟨by rw [HZ.out]; rfl, rfl⟩
def lvA (x : In) : Nat → Int := fun j => [x.a, x.b, x.c, x.d].getD j 0
def glA (op : Int) : Nat → Int := fun j => [(gL op).1, (gL op).2.1, (gL op).2.2.1, (gL op).2.2.2].getD j 0
theorem rightB_all (x : In) (h : opB x.op = true) : rightB x = (kB x && (List.range 4).all fun j => wB (lvA x j) (glA x.op j)) := by
 unfold rightB
 rw [h, Bool.true_and]
 have : (List.range 4).all (fun j => wB (lvA x j) (glA x.op j)) = (wB x.a (gL x.op).1 && (wB x.b (gL x.op).2.1 && (wB x.c (gL x.op).2.2.1 && wB x.d (gL x.op).2.2.2))) := by
  show ([0, 1, 2, 3] : List Nat).all _ = _
  simp [lvA, glA]
 rw [this]
 cases wB x.a (gL x.op).1 <;> cases wB x.b (gL x.op).2.1 <;> cases wB x.c (gL x.op).2.2.1 <;> cases wB x.d (gL x.op).2.2.2 <;> cases kB x <;> rfl
theorem rightB_not {x : In} (h : opB x.op = true) {j : Nat} (hj : j < 4) (hw : wB (lvA x j) (glA x.op j) = false) : rightB x = false := by
 rw [rightB_all x h]
 cases hr : (List.range 4).all fun j => wB (lvA x j) (glA x.op j) with
 | false => simp
 | true =>
  have := List.all_eq_true.1 hr j (List.mem_range.2 hj)
  rw [hw] at this; cases this
set_option maxHeartbeats 8000000 in
set_option maxRecDepth 100000 in
theorem rfRight (x : In) (w : World) (hx : inOk x) : Calls Tryz.prog 14 #[.agg (inC x)] w fun e w' => e = .returned (.bool (rightB x)) ∧ Below w.heap.size w w' := by
 have hb0 : Below w.heap.size w (w.alloc (.cells (inC x) 28)) := (Below.refl _ _).alloc (Nat.le_refl _) _
 have l0 := Lies.made w 28 (inC x)
 have HB0 := Lib.hid hb0
 have HL0 := Lib.hid l0
 clear hb0 l0
 by_cases hno : opB x.op = false
 ·have HF := Lib.hid (fun w => form_none x.op w hno)
  have HE : Hid (rightB x = false) := by show rightB x = false; unfold rightB; rw [hno, Bool.false_and]
  clear hno
  go_enter Tryz.func14, Tryz.ntmps14
  go_wp2_with fail
  generalize w.alloc (.cells (inC x) 28) = w1 at *
  refine (HF.out _).mono ?_
  rintro e w2 ⟨rfl, rfl⟩
  go_wp2
  go_quiet (fail)
  go_wp2
  go_ret
  exact ⟨ret_bool (by rw [HE.out]), below_drewN HB0.out _⟩
 have hyes : opB x.op = true := by simpa using hno
 obtain ⟨m5, m4, m0, m1, m2, m3⟩ := form_yes hyes
 have HF := Lib.hid (fun w => form_lit x.op w (op_lit hyes))
 have HYES := Lib.hid hyes
 have HALL := Lib.hid (rightB_all x hyes)
 have hs5 : (⟨(formL x.op).toArray⟩ : ByteArray).size = 5 := by show (formL x.op).toArray.size = 5; simpa using m5
 have hget : ∀ (k : Nat) (h : k < (⟨(formL x.op).toArray⟩ : ByteArray).size), ((⟨(formL x.op).toArray⟩ : ByteArray)[k]'h) = (formL x.op).getD k 0 := fun k h => by
  have h2 : k < (formL x.op).length := by rw [hs5] at h; omega
  rw [List.getD_eq_getElem?_getD, List.getElem?_eq_getElem h2]
  rfl
 have HM4 : Hid (∀ (h : 4 < (⟨(formL x.op).toArray⟩ : ByteArray).size), mostN ((⟨(formL x.op).toArray⟩ : ByteArray)[4]'h).toNat = gK x.op) := fun h => by rw [hget]; exact m4
 have HMK : Hid (∀ (k : Nat) (h : k < (⟨(formL x.op).toArray⟩ : ByteArray).size), k < 4 → ((mostN ((⟨(formL x.op).toArray⟩ : ByteArray)[k]'h).toNat : Nat) : Int) = glA x.op k) := fun k h hk => by
  rw [hget]
  match k, hk with
  | 0, _ => exact m0
  | 1, _ => exact m1
  | 2, _ => exact m2
  | 3, _ => exact m3
 have HLV : Hid (∀ k, k < 4 → i64 (lvA x k)) := fun k hk => by
  match k, hk with
  | 0, _ => exact hx.2.1
  | 1, _ => exact hx.2.2.1
  | 2, _ => exact hx.2.2.2.1
  | 3, _ => exact hx.2.2.2.2.1
 have hkk := hx.2.2.2.2.2
 clear hget m5 m4 m0 m1 m2 m3 hno hyes hx
 generalize (⟨(formL x.op).toArray⟩ : ByteArray) = s at *
 have hse : s.toList.isEmpty = false := by
  have hl : s.toList.length = 5 := by rw [ByteArray.toList_eq]; simpa using hs5
  cases hq : s.toList with
  | nil => rw [hq] at hl; cases hl
  | cons _ _ => rfl
 have hse2 : (s.toList == []) = false := by
  cases hq : s.toList with
  | nil => rw [hq] at hse; cases hse
  | cons _ _ => rfl
 go_enter Tryz.func14, Tryz.ntmps14
 go_wp2_with fail
 generalize w.alloc (.cells (inC x) 28) = w1 at *
 refine (HF.out _).mono ?_
 rintro e w2 ⟨rfl, rfl⟩
 have x1 := (HL0.out.cell 1).trans (show _ = some (Value.int .i64 x.a) from rfl)
 have x2 := (HL0.out.cell 2).trans (show _ = some (Value.int .i64 x.b) from rfl)
 have x3 := (HL0.out.cell 3).trans (show _ = some (Value.int .i64 x.c) from rfl)
 have x4 := (HL0.out.cell 4).trans (show _ = some (Value.int .i64 x.d) from rfl)
 have x5 := (HL0.out.cell 5).trans (show _ = some (Value.int .u64 (x.k : Int)) from rfl)
 have hxl := HL0.out.lt
 have h45 : 4 < s.size := by omega
 have hc4 := Lib.hid (HM4.out h45)
 clear HF HM4
 by_cases hk : kB x = false
 ·have HE : Hid (rightB x = false) := by show rightB x = false; rw [HALL.out, hk, Bool.false_and]
  have hk := of_decide_eq_false hk
  have HC : Hid (decide (((mostN (s[4]'h45).toNat : Nat) : Int) < (x.k : Int)) = true) := by show _ = _; rw [hc4.out]; simp; omega
  have hcc : decide (mostN (s[4]'h45).toNat < x.k) = true := by simpa using HC.out
  clear HALL hk hc4 HC
  go_wp2
  go_quiet ((go_at_call 29; exact quiet_same3 ((most_any _ _)) ⟨_, rfl⟩))
  go_wp2
  go_ret
  exact ⟨ret_bool (by rw [HE.out]), below_drewN HB0.out _⟩
 have hkt : kB x = true := by simpa using hk
 rw [hkt, Bool.true_and] at HALL
 have hkl := of_decide_eq_true hkt
 have HC : Hid (decide (((mostN (s[4]'h45).toNat : Nat) : Int) < (x.k : Int)) = false) := by show _ = _; rw [hc4.out]; simp; omega
 have hcc : decide (mostN (s[4]'h45).toNat < x.k) = false := by simpa using HC.out
 clear hk hkt hkl hc4 HC
 go_wp2
 go_quiet ((go_at_call 29; exact quiet_same3 ((most_any _ _)) ⟨_, rfl⟩))
 go_upto_region 5 with (fail)
 have hbq := below_drewN HB0.out nq
 have HB3 := Lib.hid (hbq.alloc hbq.size (.cells #[.int .i64 x.a, .int .i64 x.b, .int .i64 x.c, .int .i64 x.d] 3))
 have HL3 : Hid (Lies ((w1.drewN nq).alloc (.cells #[.int .i64 x.a, .int .i64 x.b, .int .i64 x.c, .int .i64 x.d] 3)) w1.heap.size 3 #[.int .i64 x.a, .int .i64 x.b, .int .i64 x.c, .int .i64 x.d]) := Lies.made (w1.drewN nq) _ _
 clear hbq HB0 HL0 x1 x2 x3 x4 x5 hxl hcc
 generalize (w1.drewN nq).alloc (.cells #[.int .i64 x.a, .int .i64 x.b, .int .i64 x.c, .int .i64 x.d] 3) = w3 at *
 generalize w1.heap.size = n2 at *
 go_wp2_with fail
 go_loopw [5] (fun u wr => ∃ k : Nat, k ≤ 4 ∧ u = .int .i64 k ∧ Hid (∀ j, j < k → wB (lvA x j) (glA x.op j) = true) ∧ Hid (Below w.heap.size w wr) ∧ Hid (Lies wr n2 3 #[.int .i64 x.a, .int .i64 x.b, .int .i64 x.c, .int .i64 x.d])) (fun u _ => 4 - (intOf u).toNat)
 case atStart => exact ⟨0, by omega, rfl, fun j hj => by omega, HB3, HL3⟩
 case round =>
  clear HB3 HL3
  obtain ⟨k, hk, rfl, hq, hbw, hlw⟩ := hrel
  by_cases hlt : k < 4
  ·have hki : (k : Int) < 4 := by omega
   have hks : k < s.size := by omega
   have hidx : ∀ W : World, (Instr.index 9 (.string s) (.int .i64 (k : Int))).run Tryz.prog W = .ok (.int .u8 ((s[k]'hks).toNat : Int)) W := fun W => by
    rw [run_index_string _ _ _ _ _ Tryz.underlying9, dif_pos ⟨by omega, by omega⟩]
    simp only [Int.toNat_natCast]
   have hcell : wr.cell? ⟨n2, k, none⟩ = some (.int .i64 (lvA x k)) := by
    rw [hlw.out.cell]
    match k, hlt with
    | 0, _ => rfl
    | 1, _ => rfl
    | 2, _ => rfl
    | 3, _ => rfl
   obtain ⟨hv1, hv2⟩ := HLV.out k hlt
   have HMC := Lib.hid (HMK.out k hks hlt)
   have hl2 := hlw.out.lt
   obtain ⟨v, hv⟩ : ∃ v, lvA x k = v := ⟨_, rfl⟩
   obtain ⟨g, hg⟩ : ∃ g, glA x.op k = g := ⟨_, rfl⟩
   have HNO := Lib.hid (rightB_not (j := k) HYES.out hlt)
   rw [hg] at HMC
   rw [hv, hg] at HNO
   rw [hv] at hcell hv1 hv2
   have HV := Lib.hid hv
   have HG := Lib.hid hg
   clear hv hg
   by_cases hneg : v < 0
   ·have e1 : decide (v < 0) = true := by simpa using hneg
    have HE : Hid (rightB x = false) := HNO.out (by unfold wB; rw [decide_eq_false (by omega)]; rfl)
    clear hneg HNO
    go_wp2
    go_quiet (fail)
    go_wp2
    go_ret
    exact ⟨ret_bool (by rw [HE.out]), below_drewN hbw.out _⟩
   have e1 : decide (v < 0) = false := by simpa using hneg
   obtain ⟨vn, rfl⟩ : ∃ vn : Nat, v = vn := ⟨v.toNat, by omega⟩
   have e3 : IntKind.u64.wrap (vn : Int) = (vn : Int) := IntWalk.u64_in _ (by omega)
   by_cases hgr : mostN (s[k]'hks).toNat < vn
   ·have e2 : decide (mostN (s[k]'hks).toNat < vn) = true := by simpa using hgr
    have HE : Hid (rightB x = false) := HNO.out (by have := HMC.out; unfold wB; rw [decide_eq_false (p := (vn : Int) ≤ g) (by omega), Bool.and_false])
    clear hgr HNO hneg
    go_wp2
    go_quiet ((go_at_call 29; exact quiet_same3 ((most_any _ _)) ⟨_, rfl⟩))
    go_wp2
    go_ret
    exact ⟨ret_bool (by rw [HE.out]), below_drewN hbw.out _⟩
   have e2 : decide (mostN (s[k]'hks).toNat < vn) = false := by simpa using hgr
   have HQN : Hid (∀ j, j < k + 1 → wB (lvA x j) (glA x.op j) = true) := fun j hj => by
    by_cases e : j = k
    ·subst e
     rw [HV.out, HG.out]
     have := HMC.out
     unfold wB
     rw [decide_eq_true (by omega), decide_eq_true (by omega)]; rfl
    ·exact hq.out j (by omega)
   have HBN := Lib.hid (fun n => below_drewN hbw.out n)
   have HLN := Lib.hid hlw.out
   clear hq hbw hlw hneg hgr HNO
   go_wp2
   go_quiet ((go_at_call 29; exact quiet_same3 ((most_any _ _)) ⟨_, rfl⟩))
   go_wp2
   go_roundw
   case rel => exact ⟨k + 1, by omega, by go_num, HQN, HBN.out _, Lies.drewN HLN.out _⟩
   case measure => simp [intOf]; omega
  ·obtain rfl : k = 4 := by omega
   have HE : Hid (rightB x = true) := by
    show rightB x = true
    rw [HALL.out, List.all_eq_true]
    exact fun j hj => hq.out j (List.mem_range.1 hj)
   go_wp2
   go_ret
   exact ⟨ret_bool (by rw [HE.out]), hbw.out⟩
def odT (op : Int) : ByteArray := textB ((odL op).map UInt8.ofNat)
theorem odT_eq (op : Int) : odT op = if op = 1 then ⟨#[65, 75]⟩ else if op = 2 ∨ op = 23 then ⟨#[65, 66]⟩ else if 3 ≤ op ∧ op ≤ 14 then ⟨#[65, 66, 82]⟩ else if op = 15 then ⟨#[75]⟩ else
 if op = 16 ∨ op = 17 then ⟨#[65, 75]⟩ else if op = 18 then ⟨#[65, 66, 67, 68]⟩ else if op = 19 then ⟨#[65, 66, 67, 68, 75]⟩ else if op = 20 then ⟨#[67]⟩ else
 if op = 21 ∨ op = 22 ∨ op = 24 then ⟨#[65]⟩ else ⟨#[]⟩ := by
 unfold odT odL
 repeat' split
 all_goals first | rfl | omega
theorem ret_t10 {a b : ByteArray} (h : b = a) : Ending.returned (.string a) = .returned (.string b) := by rw [h]
set_option maxHeartbeats 4000000 in
theorem rfNames10 (op : Int) (w : World) : Calls Tryz.prog 31 #[.int .i64 op] w fun e w' => e = .returned (.string (odT op)) ∧ w = w' := by
 have H := Lib.hid (odT_eq op)
 by_cases h1 : op = 1
 ·subst h1
  go_enter Tryz.func31, Tryz.ntmps31
  go_wp2
  go_ret
  exact ⟨ret_t10 (by rw [H.out]; rfl), rfl⟩
 have e1 : (op == 1) = false := by rw [beq_eq_false_iff_ne]; exact h1
 by_cases h2 : op = 2
 ·subst h2
  go_enter Tryz.func31, Tryz.ntmps31
  go_wp2
  go_ret
  exact ⟨ret_t10 (by rw [H.out]; rfl), rfl⟩
 have e2 : (op == 2) = false := by rw [beq_eq_false_iff_ne]; exact h2
 by_cases h3 : op = 23
 ·subst h3
  go_enter Tryz.func31, Tryz.ntmps31
  go_wp2
  go_ret
  exact ⟨ret_t10 (by rw [H.out]; rfl), rfl⟩
 have e3 : (op == 23) = false := by rw [beq_eq_false_iff_ne]; exact h3
 by_cases h4 : 3 ≤ op ∧ op ≤ 14
 ·have g1 : decide ((3 : Int) ≤ op) = true := decide_eq_true h4.1
  have g2 : decide (op ≤ 14) = true := decide_eq_true h4.2
  have HE : Hid (odT op = ⟨#[65, 66, 82]⟩) := by show _ = _; rw [H.out, if_neg h1, if_neg (by omega), if_pos h4]
  clear h4
  go_enter Tryz.func31, Tryz.ntmps31
  go_wp2
  go_ret
  exact ⟨ret_t10 (by rw [HE.out]), rfl⟩
 by_cases h5 : op = 15 ∨ op = 16 ∨ op = 17 ∨ op = 18 ∨ op = 19 ∨ op = 20 ∨ op = 21 ∨ op = 22 ∨ op = 24
 ·rcases h5 with rfl | rfl | rfl | rfl | rfl | rfl | rfl | rfl | rfl
  all_goals
   go_enter Tryz.func31, Tryz.ntmps31
   go_wp2
   go_ret
   exact ⟨ret_t10 (by rw [H.out]; rfl), rfl⟩
 have HE : Hid (odT op = ⟨#[]⟩) := by show _ = _; rw [H.out, if_neg h1, if_neg (by omega), if_neg h4, if_neg (by omega), if_neg (by omega), if_neg (by omega), if_neg (by omega), if_neg (by omega), if_neg (by omega)]
 have e5 : (op == 15) = false := by rw [beq_eq_false_iff_ne]; omega
 have e6 : (op == 16) = false := by rw [beq_eq_false_iff_ne]; omega
 have e7 : (op == 17) = false := by rw [beq_eq_false_iff_ne]; omega
 have e8 : (op == 18) = false := by rw [beq_eq_false_iff_ne]; omega
 have e9 : (op == 19) = false := by rw [beq_eq_false_iff_ne]; omega
 have e10 : (op == 20) = false := by rw [beq_eq_false_iff_ne]; omega
 have e11 : (op == 21) = false := by rw [beq_eq_false_iff_ne]; omega
 have e12 : (op == 22) = false := by rw [beq_eq_false_iff_ne]; omega
 have e13 : (op == 24) = false := by rw [beq_eq_false_iff_ne]; omega
 by_cases h6 : 3 ≤ op
 ·have g1 : decide ((3 : Int) ≤ op) = true := decide_eq_true h6
  have g2 : decide (op ≤ 14) = false := decide_eq_false (by omega)
  clear h1 h2 h3 h4 h5 h6
  go_enter Tryz.func31, Tryz.ntmps31
  go_wp2
  go_ret
  exact ⟨ret_t10 (by rw [HE.out]), rfl⟩
 ·have g1 : decide ((3 : Int) ≤ op) = false := decide_eq_false h6
  clear h1 h2 h3 h4 h5 h6
  go_enter Tryz.func31, Tryz.ntmps31
  go_wp2
  go_ret
  exact ⟨ret_t10 (by rw [HE.out]), rfl⟩
set_option maxHeartbeats 2000000 in
theorem rfWaits (d : Int) (w : World) (h0 : 0 ≤ d) (h2 : d ≤ 2) : Calls Tryz.prog 33 #[.int .i64 d] w fun e w' => e = .returned (.string (textB (wtB d))) ∧ Below w.heap.size w w' := by
 have hb := (Below.refl w.heap.size w).alloc (Nat.le_refl _) (.cells #[.string ⟨#[116, 114, 121]⟩, .string ⟨#[119, 97, 105, 116]⟩, .string ⟨#[116, 105, 109, 101, 100]⟩] 9)
 have HB := Lib.hid hb
 clear hb
 rcases (show d = 0 ∨ d = 1 ∨ d = 2 by omega) with rfl | rfl | rfl
 all_goals
  go_enter Tryz.func33, Tryz.ntmps33
  go_wp2
  go_ret
  exact ⟨rfl, HB.out⟩
theorem odT_size (op : Int) : (odT op).size = (odL op).length := by unfold odT; rw [textB_size, List.length_map]
theorem odT_get (op : Int) {k o : Nat} (h : (odL op)[k]? = some o) (hk : k < (odT op).size) : ((odT op)[k]'hk).toNat = o := by
 have ho : o < 256 := by
  rcases odL_mem op o (List.mem_of_getElem? h) with e | e | e | e | e | e <;> omega
 have e2 : (odT op).data.toList[k]? = some (UInt8.ofNat o) := by
  show ((odL op).map UInt8.ofNat)[k]? = _
  rw [List.getElem?_map, h]; rfl
 have e3 : (odT op).data.toList[k]? = some ((odT op)[k]'hk) := by
  rw [Array.getElem?_toList]; exact Array.getElem?_eq_getElem hk
 rw [e3] at e2
 rw [Option.some.inj e2, UInt8.toNat_ofNat', Nat.mod_eq_of_lt ho]
set_option maxHeartbeats 8000000 in
set_option maxRecDepth 100000 in
theorem rfLine10 (x : In) (w : World) (h : rightB x = true) : Calls Tryz.prog 15 #[.agg (inC x)] w fun e w' => e = .returned (.string (textB (lnI x))) ∧ Below w.heap.size w w' := by
 have HRI := Lib.hid (right_in10 h)
 have hri := right_in10 h
 have HL := Lib.hid (Lies.made w 28 (inC x))
 have HB := Lib.hid ((Below.refl w.heap.size w).alloc (Nat.le_refl _) (.cells (inC x) 28))
 have HNM := Lib.hid (fun w => rfName x.op w)
 have HOD := Lib.hid (fun w => rfNames10 x.op w)
 have hns := nmB_size x.op
 clear h
 go_enter Tryz.func15, Tryz.ntmps15
 go_upto_region 1 with (fail)
 obtain ⟨q, hq⟩ : ∃ q, q = w.heap.size := ⟨_, rfl⟩
 rw [← hq] at HL ⊢
 clear hq
 generalize w.alloc (.cells (inC x) 28) = w1 at *
 have c0 := (HL.out.cell 0).trans (show _ = some (Value.int .i64 x.op) from rfl)
 have ql := HL.out.lt
 go_wp2_with fail
 refine (HNM.out w1).mono ?_
 rintro e w2 ⟨rfl, hb2⟩
 have HL2 := Lib.hid (HL.out.below hb2 HL.out.lt)
 have HB2 := Lib.hid (HB.out.trans (hb2.mono HB.out.size))
 clear hb2 HL HB HNM c0 ql
 have c0 := (HL2.out.cell 0).trans (show _ = some (Value.int .i64 x.op) from rfl)
 have ql := HL2.out.lt
 go_wp2_with fail
 refine (HOD.out w2).mono ?_
 rintro e w3 ⟨rfl, rfl⟩
 clear c0 ql HOD
 have hol := odT_size x.op
 have hol5 := odL_length x.op
 have HS0 := Lib.hid (show nmB x.op = textB (nmT x.op ++ wdO x ((odL x.op).take 0)) by rw [List.take_zero]; show _ = textB (nmT x.op ++ []); rw [List.append_nil]; rfl)
 obtain ⟨O, hO⟩ : ∃ O, O = odT x.op := ⟨_, rfl⟩
 have HOG := Lib.hid (fun (k o : Nat) (h : (odL x.op)[k]? = some o) (hk : k < O.size) => (by subst hO; exact odT_get x.op h hk : (O[k]'hk).toNat = o))
 rw [← hO] at hol ⊢
 have HOL := Lib.hid hol
 have hos : O.size ≤ 5 := by omega
 clear hO hol hol5
 rw [HS0.out]
 clear HS0 hns
 go_wp2_with fail
 go_loopw [3, 5] (fun s t wr => ∃ k : Nat, k ≤ O.size ∧ t = .int .i64 k ∧ s = .string (textB (nmT x.op ++ wdO x ((odL x.op).take k))) ∧ Hid (Lies wr q 28 (inC x)) ∧ Hid (Below w.heap.size w wr)) (fun _ t _ => O.size - (intOf t).toNat)
 case atStart => exact ⟨0, by omega, rfl, rfl, HL2.out, HB2.out⟩
 case round =>
  clear HL2 HB2
  obtain ⟨k, hk, rfl, rfl, HL4, HB4⟩ := hrel
  have hsl : (nmT x.op ++ wdO x ((odL x.op).take k)).length ≤ 400 := by
   have h1 := nmT_len x.op
   have h2 := wdO_len x ((odL x.op).take k)
   have h3 := odL_length x.op
   have h4 : ((odL x.op).take k).length ≤ (odL x.op).length := by rw [List.length_take]; omega
   rw [List.length_append]; omega
  by_cases hlt : k < O.size
  ·have hki : (k : Int) < (O.size : Int) := by omega
   obtain ⟨o, ho⟩ : ∃ o, (odL x.op)[k]? = some o := ⟨_, List.getElem?_eq_getElem (by rw [← HOL.out]; exact hlt)⟩
   have hget := HOG.out k o ho hlt
   have hsel := odL_mem x.op o (List.mem_of_getElem? ho)
   have HTK := Lib.hid (show (odL x.op).take (k + 1) = (odL x.op).take k ++ [o] by rw [List.take_add_one, ho]; rfl)
   obtain ⟨S, hS⟩ : ∃ S, S = textB (nmT x.op ++ wdO x ((odL x.op).take k)) := ⟨_, rfl⟩
   have HS := Lib.hid hS
   have hSz : S.size ≤ 400 := by rw [hS, textB_size]; exact hsl
   rw [← hS]
   have z0 : ¬ 9223372036854775807 < S.size + 1 := by omega
   clear hS hsl ho
   rcases hsel with rfl | rfl | rfl | rfl | rfl | rfl
   ·have c1 := (HL4.out.cell 1).trans (show _ = some (Value.int .i64 x.a) from rfl)
    have ql := HL4.out.lt
    obtain ⟨n, hn⟩ : ∃ n, n = x.a.toNat := ⟨_, rfl⟩
    have hw : IntKind.u64.wrap x.a = (n : Int) := by rw [IntKind.wrap_u64]; omega
    have HNU := Lib.hid (rfNumber n wr (by omega))
    have hnl := @decE_len n
    obtain ⟨N, hN⟩ : ∃ N, N = textB (decE n) := ⟨_, rfl⟩
    have hNs : N.size ≤ 20 := by rw [hN, textB_size]; exact hnl
    rw [← hN] at HNU
    have hJ : S ++ ⟨#[32]⟩ ++ (⟨#[114]⟩ ++ N) = textB (nmT x.op ++ wdO x ((odL x.op).take (k + 1))) := by rw [HTK.out, wdO_snoc, hN, HS.out, show (⟨#[32]⟩ : ByteArray) = textB [32] from rfl, show (⟨#[114]⟩ : ByteArray) = textB [114] from rfl, text_append, text_append, text_append]; refine congrArg textB ?_; rw [show wrO x 65 = 114 :: decE n by rw [hn]; rfl]; simp
    have z1 : ¬ 9223372036854775807 < 1 + N.size := by omega
    have z2 : ¬ 9223372036854775807 < S.size + 1 + (1 + N.size) := by omega
    have HJ := Lib.hid hJ
    clear hJ hN hnl
    try clear hn
    go_wp2_with fail
    refine HNU.out.mono ?_
    rintro e w5 ⟨rfl, hb5⟩
    have HB5 := Lib.hid (HB4.out.trans (hb5.mono HB4.out.size))
    have HL5 := Lib.hid (HL4.out.below hb5 HL4.out.lt)
    clear hb5 HB4 HL4 HNU c1 ql
    go_wp2
    go_roundw
    case rel => exact ⟨k + 1, by omega, by go_num, by rw [HJ.out], HL5, HB5⟩
    case measure => simp [intOf]; omega
   ·have c2 := (HL4.out.cell 2).trans (show _ = some (Value.int .i64 x.b) from rfl)
    have ql := HL4.out.lt
    obtain ⟨n, hn⟩ : ∃ n, n = x.b.toNat := ⟨_, rfl⟩
    have hw : IntKind.u64.wrap x.b = (n : Int) := by rw [IntKind.wrap_u64]; omega
    have HNU := Lib.hid (rfNumber n wr (by omega))
    have hnl := @decE_len n
    obtain ⟨N, hN⟩ : ∃ N, N = textB (decE n) := ⟨_, rfl⟩
    have hNs : N.size ≤ 20 := by rw [hN, textB_size]; exact hnl
    rw [← hN] at HNU
    have hJ : S ++ ⟨#[32]⟩ ++ (⟨#[114]⟩ ++ N) = textB (nmT x.op ++ wdO x ((odL x.op).take (k + 1))) := by rw [HTK.out, wdO_snoc, hN, HS.out, show (⟨#[32]⟩ : ByteArray) = textB [32] from rfl, show (⟨#[114]⟩ : ByteArray) = textB [114] from rfl, text_append, text_append, text_append]; refine congrArg textB ?_; rw [show wrO x 66 = 114 :: decE n by rw [hn]; rfl]; simp
    have z1 : ¬ 9223372036854775807 < 1 + N.size := by omega
    have z2 : ¬ 9223372036854775807 < S.size + 1 + (1 + N.size) := by omega
    have HJ := Lib.hid hJ
    clear hJ hN hnl
    try clear hn
    go_wp2_with fail
    refine HNU.out.mono ?_
    rintro e w5 ⟨rfl, hb5⟩
    have HB5 := Lib.hid (HB4.out.trans (hb5.mono HB4.out.size))
    have HL5 := Lib.hid (HL4.out.below hb5 HL4.out.lt)
    clear hb5 HB4 HL4 HNU c2 ql
    go_wp2
    go_roundw
    case rel => exact ⟨k + 1, by omega, by go_num, by rw [HJ.out], HL5, HB5⟩
    case measure => simp [intOf]; omega
   ·have c3 := (HL4.out.cell 3).trans (show _ = some (Value.int .i64 x.c) from rfl)
    have ql := HL4.out.lt
    obtain ⟨n, hn⟩ : ∃ n, n = x.c.toNat := ⟨_, rfl⟩
    have hw : IntKind.u64.wrap x.c = (n : Int) := by rw [IntKind.wrap_u64]; omega
    have HNU := Lib.hid (rfNumber n wr (by omega))
    have hnl := @decE_len n
    obtain ⟨N, hN⟩ : ∃ N, N = textB (decE n) := ⟨_, rfl⟩
    have hNs : N.size ≤ 20 := by rw [hN, textB_size]; exact hnl
    rw [← hN] at HNU
    have hJ : S ++ ⟨#[32]⟩ ++ (⟨#[114]⟩ ++ N) = textB (nmT x.op ++ wdO x ((odL x.op).take (k + 1))) := by rw [HTK.out, wdO_snoc, hN, HS.out, show (⟨#[32]⟩ : ByteArray) = textB [32] from rfl, show (⟨#[114]⟩ : ByteArray) = textB [114] from rfl, text_append, text_append, text_append]; refine congrArg textB ?_; rw [show wrO x 82 = 114 :: decE n by rw [hn]; rfl]; simp
    have z1 : ¬ 9223372036854775807 < 1 + N.size := by omega
    have z2 : ¬ 9223372036854775807 < S.size + 1 + (1 + N.size) := by omega
    have HJ := Lib.hid hJ
    clear hJ hN hnl
    try clear hn
    go_wp2_with fail
    refine HNU.out.mono ?_
    rintro e w5 ⟨rfl, hb5⟩
    have HB5 := Lib.hid (HB4.out.trans (hb5.mono HB4.out.size))
    have HL5 := Lib.hid (HL4.out.below hb5 HL4.out.lt)
    clear hb5 HB4 HL4 HNU c3 ql
    go_wp2
    go_roundw
    case rel => exact ⟨k + 1, by omega, by go_num, by rw [HJ.out], HL5, HB5⟩
    case measure => simp [intOf]; omega
   ·have c3 := (HL4.out.cell 3).trans (show _ = some (Value.int .i64 x.c) from rfl)
    have ql := HL4.out.lt
    obtain ⟨n, hn⟩ : ∃ n, n = x.c.toNat := ⟨_, rfl⟩
    have hw : IntKind.u64.wrap x.c = (n : Int) := by rw [IntKind.wrap_u64]; omega
    have HNU := Lib.hid (rfNumber n wr (by omega))
    have hnl := @decE_len n
    obtain ⟨N, hN⟩ : ∃ N, N = textB (decE n) := ⟨_, rfl⟩
    have hNs : N.size ≤ 20 := by rw [hN, textB_size]; exact hnl
    rw [← hN] at HNU
    have hJ : S ++ ⟨#[32]⟩ ++ N = textB (nmT x.op ++ wdO x ((odL x.op).take (k + 1))) := by rw [HTK.out, wdO_snoc, hN, HS.out, show (⟨#[32]⟩ : ByteArray) = textB [32] from rfl, text_append, text_append]; refine congrArg textB ?_; rw [show wrO x 67 = decE n by rw [hn]; rfl]; simp
    have z2 : ¬ 9223372036854775807 < S.size + 1 + N.size := by omega
    have HJ := Lib.hid hJ
    clear hJ hN hnl
    try clear hn
    go_wp2_with fail
    refine HNU.out.mono ?_
    rintro e w5 ⟨rfl, hb5⟩
    have HB5 := Lib.hid (HB4.out.trans (hb5.mono HB4.out.size))
    have HL5 := Lib.hid (HL4.out.below hb5 HL4.out.lt)
    clear hb5 HB4 HL4 HNU c3 ql
    go_wp2
    go_roundw
    case rel => exact ⟨k + 1, by omega, by go_num, by rw [HJ.out], HL5, HB5⟩
    case measure => simp [intOf]; omega
   ·have c4 := (HL4.out.cell 4).trans (show _ = some (Value.int .i64 x.d) from rfl)
    have ql := HL4.out.lt
    have HNU := Lib.hid (rfWaits x.d wr HRI.out.2.2.2.2.1.1 HRI.out.2.2.2.2.1.2)
    have hnl := wtB_len x.d
    obtain ⟨N, hN⟩ : ∃ N, N = textB (wtB x.d) := ⟨_, rfl⟩
    have hNs : N.size ≤ 20 := by rw [hN, textB_size]; exact hnl
    rw [← hN] at HNU
    have hJ : S ++ ⟨#[32]⟩ ++ N = textB (nmT x.op ++ wdO x ((odL x.op).take (k + 1))) := by rw [HTK.out, wdO_snoc, hN, HS.out, show (⟨#[32]⟩ : ByteArray) = textB [32] from rfl, text_append, text_append]; refine congrArg textB ?_; rw [show wrO x 68 = wtB x.d from rfl]; simp
    have z2 : ¬ 9223372036854775807 < S.size + 1 + N.size := by omega
    have HJ := Lib.hid hJ
    clear hJ hN hnl
    try clear hn
    go_wp2_with fail
    refine HNU.out.mono ?_
    rintro e w5 ⟨rfl, hb5⟩
    have HB5 := Lib.hid (HB4.out.trans (hb5.mono HB4.out.size))
    have HL5 := Lib.hid (HL4.out.below hb5 HL4.out.lt)
    clear hb5 HB4 HL4 HNU c4 ql
    go_wp2
    go_roundw
    case rel => exact ⟨k + 1, by omega, by go_num, by rw [HJ.out], HL5, HB5⟩
    case measure => simp [intOf]; omega
   ·have c5 := (HL4.out.cell 5).trans (show _ = some (Value.int .u64 (x.k : Int)) from rfl)
    have ql := HL4.out.lt
    have HNU := Lib.hid (rfNumber x.k wr HRI.out.2.2.2.2.2)
    have hnl := @decE_len x.k
    obtain ⟨N, hN⟩ : ∃ N, N = textB (decE x.k) := ⟨_, rfl⟩
    have hNs : N.size ≤ 20 := by rw [hN, textB_size]; exact hnl
    rw [← hN] at HNU
    have hJ : S ++ ⟨#[32]⟩ ++ N = textB (nmT x.op ++ wdO x ((odL x.op).take (k + 1))) := by rw [HTK.out, wdO_snoc, hN, HS.out, show (⟨#[32]⟩ : ByteArray) = textB [32] from rfl, text_append, text_append]; refine congrArg textB ?_; rw [show wrO x 75 = decE x.k from rfl]; simp
    have z2 : ¬ 9223372036854775807 < S.size + 1 + N.size := by omega
    have HJ := Lib.hid hJ
    clear hJ hN hnl
    try clear hn
    go_wp2_with fail
    refine HNU.out.mono ?_
    rintro e w5 ⟨rfl, hb5⟩
    have HB5 := Lib.hid (HB4.out.trans (hb5.mono HB4.out.size))
    have HL5 := Lib.hid (HL4.out.below hb5 HL4.out.lt)
    clear hb5 HB4 HL4 HNU c5 ql
    go_wp2
    go_roundw
    case rel => exact ⟨k + 1, by omega, by go_num, by rw [HJ.out], HL5, HB5⟩
    case measure => simp [intOf]; omega
  ·obtain rfl : k = O.size := by omega
   have HE := Lib.hid (show textB (nmT x.op ++ wdO x ((odL x.op).take O.size)) = textB (lnI x) by rw [HOL.out, List.take_length]; rfl)
   clear hsl
   go_wp2
   go_ret
   exact ⟨ret_t10 (by rw [HE.out]), HB4.out⟩
end Go.Proofs.YtcpgneimagmknaaGreatDoor
