import Derived.Test.YtcpgneimagmknaaGreatDoorZz3
namespace Go.Proofs.YtcpgneimagmknaaGreatDoor
open Go.RowKit
set_option linter.unusedVariables false
set_option linter.unusedSimpArgs false
def RlPost10 (ws : In × Bool) (w : World) (e : Ending) (w' : World) : Prop := e = .returned (.tuple #[.agg (inC ws.1), .bool ws.2]) ∧ Below w.heap.size w w'
theorem InW.bel {w0 w w' : World} {g : Nat} {x : In} (hb : Below w0.heap.size w0 w) (h : Kept (oneRow g) w w') (hg : w0.heap.size ≤ g) : Below w0.heap.size w0 w' :=
 hb.trans (h.below hb.size (fun j hj (e : j = g) => by omega))
set_option maxHeartbeats 16000000 in
set_option maxRecDepth 100000 in
theorem readLine10 (ws : List (List UInt8)) (wb wo wc : Nat) (w : World) (hne : ws ≠ []) (hlen : ws.length ≤ 10000000) (hwl : ∀ b ∈ ws, b.length ≤ 140737488355328) (hc : ws.length ≤ wc) (hcm : wc ≤ 9223372036854775807)
  (hcell : ∀ (k : Nat) (b : List UInt8), ws[k]? = some b → w.cell? ⟨wb, wo + k, none⟩ = some (.string (textB b))) (hn : NamesAt w) (hE : ErrAt w) (hp : PowAt w) :
  Calls Tryz.prog 63 #[.slice (some ⟨wb, wo, none⟩) ws.length wc] w (RlPost10 (rlR ws) w) := by
 obtain ⟨w0, rs, rfl⟩ : ∃ a l, ws = a :: l := by
  cases ws with
  | nil => exact absurd rfl hne
  | cons a l => exact ⟨a, l, rfl⟩
 have hN0 : w.heap.size < (w.alloc (.cells inZ 28)).heap.size := by simp
 have HL0 := Lib.hid (Lies.made w 28 inZ)
 have HB := Lib.hid ((Below.refl w.heap.size w).alloc (Nat.le_refl _) (.cells inZ 28))
 have HCE := Lib.hid hcell
 have HN := Lib.hid hn
 have HE := Lib.hid hE
 have HP := Lib.hid hp
 have HG := Lib.hid hn.lt
 have HWL := Lib.hid hwl
 have hst := storeFn
 clear hcell hn hE hp hwl hne hN0
 have hl1 : 0 < (w0 :: rs).length := by simp
 obtain ⟨n, hn⟩ : ∃ n, n = (w0 :: rs).length := ⟨_, rfl⟩
 rw [← hn] at hl1 hlen hc ⊢
 have HNL := Lib.hid hn
 clear hn
 go_enter Tryz.func63, Tryz.ntmps63
 go_upto_region 1 with (fail)
 obtain ⟨N0, hN0⟩ : ∃ g, g = w.heap.size := ⟨_, rfl⟩
 have HN0 := Lib.hid hN0
 rw [← hN0] at HL0 ⊢
 clear hN0
 generalize w.alloc (.cells inZ 28) = w1 at *
 have d0 := cell_later (HCE.out 0 w0 rfl) HB.out
 rw [Nat.add_zero] at d0
 have dl := World.block_lt_of_cell? _ _ d0
 have HF := Lib.hid (find_any (textB w0) w1 (NamesAt.later HN.out HB.out HG.out))
 obtain ⟨op, hop⟩ : ∃ op, op = fdN (textB w0) := ⟨_, rfl⟩
 have hop25 := fdN_le (textB w0)
 have HX : Hid (rlR (w0 :: rs) = rlF op (w0 :: rs)) := by show _ = _; rw [hop]; rfl
 rw [← hop] at HF hop25
 clear hop
 go_wp2_with fail
 refine HF.out.mono ?_
 rintro e w2 ⟨rfl, rfl⟩
 clear HF d0 dl
 have HOP := Lib.hid (opsPre (op : Int) w1 (by omega))
 go_wp2_with fail
 refine HOP.out.mono ?_
 rintro e w4 ⟨v, rfl, ho, hb4⟩
 obtain ⟨gs, hgl, hOG⟩ := ho
 obtain ⟨A9, c9, rfl, hnc, hcm9, _⟩ := (SeqS.of_owns hOG.1).form
 have HOG := Lib.hid hOG
 have HL4 := Lib.hid (HL0.out.below hb4 HL0.out.lt)
 have HB4 := Lib.hid (HB.out.trans (hb4.mono HB.out.size))
 clear hOG hb4 HL0 HB HOP
 obtain ⟨L, hL⟩ : ∃ L, L = odG (op : Int) := ⟨_, rfl⟩
 have HLM := Lib.hid (odG_mem (op : Int))
 have hl5 := odG_length (op : Int)
 have HLQ := Lib.hid hL
 rw [← hL] at HOG HLM hgl hnc hl5 ⊢
 clear hL
 by_cases hbad : op = 0 ∨ n ≠ 1 + L.length
 ·have HXX : Hid (rlR (w0 :: rs) = (in0, false)) := by
   show _ = _
   rw [HX.out]
   refine rlF_no ?_
   rw [← HNL.out, ← HLQ.out]; exact hbad
  have HL := HL4
  have HB9 := HB4
  have lt := HL.out.lt
  have f0 := HL.out.free 0
  have f1 := HL.out.free 1
  have f2 := HL.out.free 2
  have f3 := HL.out.free 3
  have f4 := HL.out.free 4
  have f5 := HL.out.free 5
  have c0 := (HL.out.cell 0).trans (show _ = some (Value.int .i64 0) from rfl)
  have c1 := (HL.out.cell 1).trans (show _ = some (Value.int .i64 0) from rfl)
  have c2 := (HL.out.cell 2).trans (show _ = some (Value.int .i64 0) from rfl)
  have c3 := (HL.out.cell 3).trans (show _ = some (Value.int .i64 0) from rfl)
  have c4 := (HL.out.cell 4).trans (show _ = some (Value.int .i64 0) from rfl)
  have c5 := (HL.out.cell 5).trans (show _ = some (Value.int .u64 0) from rfl)
  rcases hbad with rfl | hbad
  ·go_wp2_with fail
   have HBZ := Lib.hid (HB9.out.trans ((st6_kept w4 N0 (.int .i64 0) (.int .i64 0) (.int .i64 0) (.int .i64 0) (.int .i64 0) (.int .u64 0)).below HB9.out.size (fun j hj (e : j = N0) => by have := HN0.out; omega)))
   have HRZ := Lib.hid (st6_lies (a0 := (.int .i64 0)) (a1 := (.int .i64 0)) (a2 := (.int .i64 0)) (a3 := (.int .i64 0)) (a4 := (.int .i64 0)) (a5 := (.int .u64 0)) HL.out)
   have q0 := (HRZ.out.cell 0).trans (show _ = some ((.int .i64 0)) from rfl)
   have q1 := (HRZ.out.cell 1).trans (show _ = some ((.int .i64 0)) from rfl)
   have q2 := (HRZ.out.cell 2).trans (show _ = some ((.int .i64 0)) from rfl)
   have q3 := (HRZ.out.cell 3).trans (show _ = some ((.int .i64 0)) from rfl)
   have q4 := (HRZ.out.cell 4).trans (show _ = some ((.int .i64 0)) from rfl)
   have q5 := (HRZ.out.cell 5).trans (show _ = some ((.int .u64 0)) from rfl)
   refine bodyPost_ret (v := .tuple #[.agg inZ, (.bool false)]) (by simp [results, Tryz.results63, go_sem, q0, q1, q2, q3, q4, q5]) rfl ?_
   exact ⟨by rw [HXX.out]; rfl, HBZ.out⟩
  ·by_cases h0 : op = 0
   ·subst h0
    go_wp2_with fail
    have HBZ := Lib.hid (HB9.out.trans ((st6_kept w4 N0 (.int .i64 0) (.int .i64 0) (.int .i64 0) (.int .i64 0) (.int .i64 0) (.int .u64 0)).below HB9.out.size (fun j hj (e : j = N0) => by have := HN0.out; omega)))
    have HRZ := Lib.hid (st6_lies (a0 := (.int .i64 0)) (a1 := (.int .i64 0)) (a2 := (.int .i64 0)) (a3 := (.int .i64 0)) (a4 := (.int .i64 0)) (a5 := (.int .u64 0)) HL.out)
    have q0 := (HRZ.out.cell 0).trans (show _ = some ((.int .i64 0)) from rfl)
    have q1 := (HRZ.out.cell 1).trans (show _ = some ((.int .i64 0)) from rfl)
    have q2 := (HRZ.out.cell 2).trans (show _ = some ((.int .i64 0)) from rfl)
    have q3 := (HRZ.out.cell 3).trans (show _ = some ((.int .i64 0)) from rfl)
    have q4 := (HRZ.out.cell 4).trans (show _ = some ((.int .i64 0)) from rfl)
    have q5 := (HRZ.out.cell 5).trans (show _ = some ((.int .u64 0)) from rfl)
    refine bodyPost_ret (v := .tuple #[.agg inZ, (.bool false)]) (by simp [results, Tryz.results63, go_sem, q0, q1, q2, q3, q4, q5]) rfl ?_
    exact ⟨by rw [HXX.out]; rfl, HBZ.out⟩
   ·have e1 : (op != 0) = true := by simpa using h0
    have e2 : ((n : Int) == 1 + (L.length : Int)) = false := by rw [beq_eq_false_iff_ne]; omega
    have e3 : ((n : Int) != 1 + (L.length : Int)) = true := by simp [bne, e2]
    go_wp2_with fail
    have HBZ := Lib.hid (HB9.out.trans ((st6_kept w4 N0 (.int .i64 0) (.int .i64 0) (.int .i64 0) (.int .i64 0) (.int .i64 0) (.int .u64 0)).below HB9.out.size (fun j hj (e : j = N0) => by have := HN0.out; omega)))
    have HRZ := Lib.hid (st6_lies (a0 := (.int .i64 0)) (a1 := (.int .i64 0)) (a2 := (.int .i64 0)) (a3 := (.int .i64 0)) (a4 := (.int .i64 0)) (a5 := (.int .u64 0)) HL.out)
    have q0 := (HRZ.out.cell 0).trans (show _ = some ((.int .i64 0)) from rfl)
    have q1 := (HRZ.out.cell 1).trans (show _ = some ((.int .i64 0)) from rfl)
    have q2 := (HRZ.out.cell 2).trans (show _ = some ((.int .i64 0)) from rfl)
    have q3 := (HRZ.out.cell 3).trans (show _ = some ((.int .i64 0)) from rfl)
    have q4 := (HRZ.out.cell 4).trans (show _ = some ((.int .i64 0)) from rfl)
    have q5 := (HRZ.out.cell 5).trans (show _ = some ((.int .u64 0)) from rfl)
    refine bodyPost_ret (v := .tuple #[.agg inZ, (.bool false)]) (by simp [results, Tryz.results63, go_sem, q0, q1, q2, q3, q4, q5]) rfl ?_
    exact ⟨by rw [HXX.out]; rfl, HBZ.out⟩
 have h0 : op ≠ 0 := fun e => hbad (.inl e)
 have hnL : n = 1 + L.length := by
  by_cases e : n = 1 + L.length
  ·exact e
  ·exact absurd (.inr e) hbad
 have HBAD : Hid (¬ (op = 0 ∨ (w0 :: rs).length ≠ 1 + (odG (op : Int)).length)) := by
  show ¬ _
  rw [← HNL.out, ← HLQ.out]; exact hbad
 have e1 : (op != 0) = true := by simpa using h0
 have e2 : ((n : Int) == 1 + (L.length : Int)) = true := by rw [beq_iff_eq]; omega
 have e3 : ((n : Int) != 1 + (L.length : Int)) = false := by simp [bne, e2]
 have hrl : rs.length = L.length := by have := HNL.out; rw [List.length_cons] at this; omega
 obtain ⟨R, hR⟩ : ∃ R, rdK L rs ⟨(op : Int), 0, 0, 0, 0, 0⟩ = R := ⟨_, rfl⟩
 have HR : Hid (rdK (odG (op : Int)) (w0 :: rs).tail ⟨(op : Int), 0, 0, 0, 0, 0⟩ = R) := by
  show _ = _
  rw [← HLQ.out]; exact hR
 go_upto_region 6 with (fail)
 have hbx : Below w4.heap.size w4 (w4.alloc (.cells (inC (⟨(op : Int), 0, 0, 0, 0, 0⟩ : In)) 28)) := (Below.refl _ _).alloc (Nat.le_refl _) _
 have HI5 := Lib.hid (Lies.made w4 28 (inC (⟨(op : Int), 0, 0, 0, 0, 0⟩ : In)))
 have HL5 := Lib.hid (HL4.out.below hbx HL4.out.lt)
 have HG5 := Lib.hid (HOG.out.later hbx)
 have HB5 := Lib.hid (HB4.out.trans (hbx.mono HB4.out.size))
 have hgw : w.heap.size ≤ w4.heap.size := HB4.out.size
 have hgn : N0 < w4.heap.size := HL4.out.lt
 obtain ⟨gi, hgi⟩ : ∃ g, g = w4.heap.size := ⟨_, rfl⟩
 rw [← hgi] at HI5 hgw hgn
 simp only [← hgi]
 clear hbx hbad HL4 HOG HB4 h0 hgi
 generalize w4.alloc (.cells (inC (⟨(op : Int), 0, 0, 0, 0, 0⟩ : In)) 28) = w5 at *
 have hRk : rdK (L.drop 0) (rs.drop 0) ⟨(op : Int), 0, 0, 0, 0, 0⟩ = R := hR
 go_wp2_with fail
 clear e1 e2 e3
 go_loopw [34] (fun u wr => ∃ (k : Nat) (x : In), k ≤ L.length ∧ u = .int .i64 k ∧ Hid (rdK (L.drop k) (rs.drop k) x = R) ∧ Hid (OpG wr w1.heap.size L gs (.slice A9 L.length c9)) ∧ Hid (Lies wr gi 28 (inC x)) ∧ Hid (Lies wr N0 28 inZ) ∧ Hid (Below w.heap.size w wr)) (fun u _ => L.length - (intOf u).toNat)
 case atStart => exact ⟨0, ⟨(op : Int), 0, 0, 0, 0, 0⟩, by omega, rfl, hRk, HG5.out, HI5.out, HL5.out, HB5.out⟩
 case round =>
  clear HG5 HI5 HL5 HB5 hRk hR
  obtain ⟨k, x, hk, rfl, HRK, HG9, HI5, HL5, HB5⟩ := hrel
  by_cases hlt : k < L.length
  ·have hki : (k : Int) < (L.length : Int) := by omega
   obtain ⟨o, ho⟩ : ∃ o, L[k]? = some o := ⟨_, List.getElem?_eq_getElem hlt⟩
   obtain ⟨g, hg⟩ : ∃ g, gs[k]? = some g := ⟨_, List.getElem?_eq_getElem (by omega)⟩
   obtain ⟨b, hb⟩ : ∃ b, rs[k]? = some b := ⟨_, List.getElem?_eq_getElem (by omega)⟩
   have hrk := HRK.out
   rw [rdK_next ho hb] at hrk
   have HRN := Lib.hid hrk
   have HOD := Lib.hid (HG9.out.2 k o g ho hg)
   obtain ⟨b9, o9, c9', he9, _, _, hc9⟩ := (SeqS.of_owns HG9.out.1).elem hlt (by decide)
   cases he9
   have HC := Lib.hid hc9
   clear hc9 hrk HRK
   obtain ⟨nf, mf, hen, hcase⟩ := read_any g (HLM.out o (List.mem_of_getElem? ho))
   rcases hcase with ⟨hov, hcall⟩ | ⟨hov, hcall⟩
   ·have d0 := HC.out 0 _ (by decide) ((opsL_get ho hg (by decide)).trans (by rw [hov]; rfl))
    have d1 := HC.out 1 _ (by decide) ((opsL_get ho hg (by decide)).trans (by rw [hov]; rfl))
    have HW := Lib.hid hcall
    have HEN := Lib.hid hen
    clear hcall hen hov HC
    have bl := World.block_lt_of_cell? wr _ d0
    try simp only [Nat.add_zero] at d0
    go_upto_region 9 with (fail)
    have hbx : Below wr.heap.size wr (wr.alloc (.cells #[fnV nf, fnV mf] 61)) := (Below.refl wr.heap.size wr).alloc (Nat.le_refl _) _
    have HL6 := Lib.hid (HL5.out.below hbx HL5.out.lt)
    have HI6 := Lib.hid (HI5.out.below hbx HI5.out.lt)
    have HG6 := Lib.hid (HG9.out.later hbx)
    have HB6 := Lib.hid (HB5.out.alloc HB5.out.size (.cells #[fnV nf, fnV mf] 61))
    have HD6 := Lib.hid (OdAt.below HOD.out hbx)
    have HX6 := Lib.hid (Lies.made wr 61 #[fnV nf, fnV mf])
    have HWC := Lib.hid (cell_later (HCE.out (k + 1) b (by rw [List.getElem?_cons_succ]; exact hb)) HB6.out)
    obtain ⟨p6, hp6⟩ : ∃ p, p = wr.heap.size := ⟨_, rfl⟩
    rw [← hp6] at HX6
    simp only [← hp6]
    clear d0 d1 bl HL5 HI5 HG9 HB5 HOD hp6 hbx
    generalize wr.alloc (.cells #[fnV nf, fnV mf] 61) = w6 at *
    have wbl := World.block_lt_of_cell? _ _ HWC.out
    refine wp_region_held_drew (S := fun y => Lies y p6 61 #[fnV nf, fnV mf] ∧ y.cell? ⟨wb, wo + (k + 1), none⟩ = some (.string (textB b)) ∧ wb < y.heap.size) (by kernel_rfl) ⟨HX6.out.drew, HWC.out, wbl⟩ (fun hHeld => ?_)
    have HW6 := Lib.hid (HW.out w6.drew gi x b (OdAt.below HD6.out (below_drewN (Below.refl _ _) 1)) (HE.out.later (below_drewN HB6.out 1)) (HP.out.later (below_drewN HB6.out 1)) HI6.out.drew (HWL.out b (List.mem_cons_of_mem _ (List.mem_of_getElem? hb))))
    clear HW HD6 HX6 HWC wbl
    try simp only [Act.put, List.setIfInBounds_toArray, List.set_cons_zero, List.set_cons_succ]
    refine wpAnyH_take (i := 0) (v := (.pointer (some ⟨p6, 1, none⟩))) rfl (by kernel_rfl) (by kernel_rfl) (by kernel_rfl) (fun _ _ _ h => h) (Or.inl ⟨by rfl, fun w h => by (simp only [List.getElem_toArray, List.getElem_cons_succ, List.getElem_cons_zero]; clear h; go_simp)⟩) (by assumption) ?_
    simp only [Act.put, List.getElem_toArray, List.getElem_cons_succ, List.getElem_cons_zero, List.setIfInBounds_toArray, List.set_cons_zero, List.set_cons_succ]
    refine wpAnyH_take (i := 1) (v := ((fnV mf))) rfl (by kernel_rfl) (by kernel_rfl) (by kernel_rfl) (fun _ _ _ h => h) (Or.inl ⟨by rfl, fun w h => by (simp only [List.getElem_toArray, List.getElem_cons_succ, List.getElem_cons_zero]; have h1 := h.1.cell 1; have h2 := h.1.lt; simp at h1; clear h; go_simp)⟩) (by assumption) ?_
    simp only [Act.put, List.getElem_toArray, List.getElem_cons_succ, List.getElem_cons_zero, List.setIfInBounds_toArray, List.set_cons_zero, List.set_cons_succ]
    refine wpAnyH_take (i := 2) (v := (.slice (some ⟨wb, wo, none⟩) n wc)) rfl (by kernel_rfl) (by kernel_rfl) (by kernel_rfl) (fun _ _ _ h => h) (Or.inl ⟨by rfl, fun w h => by (simp only [List.getElem_toArray, List.getElem_cons_succ, List.getElem_cons_zero]; clear h; go_simp)⟩) (by assumption) ?_
    simp only [Act.put, List.getElem_toArray, List.getElem_cons_succ, List.getElem_cons_zero, List.setIfInBounds_toArray, List.set_cons_zero, List.set_cons_succ]
    refine wpAnyH_take (i := 3) (v := (.int .i64 (k : Int))) rfl (by kernel_rfl) (by kernel_rfl) (by kernel_rfl) (fun _ _ _ h => h) (Or.inl ⟨by rfl, fun w h => by (simp only [List.getElem_toArray, List.getElem_cons_succ, List.getElem_cons_zero]; clear h; go_simp)⟩) (by assumption) ?_
    simp only [Act.put, List.getElem_toArray, List.getElem_cons_succ, List.getElem_cons_zero, List.setIfInBounds_toArray, List.set_cons_zero, List.set_cons_succ]
    have hwr : IntKind.i64.wrap (1 + (k : Int)) = 1 + (k : Int) := by rw [IntKind.wrap_i64]; omega
    have htn : (1 + (k : Int)).toNat = k + 1 := by omega
    refine wpAnyH_take (i := 4) (v := (.int .i64 (1 + (k : Int)))) rfl (by kernel_rfl) (by kernel_rfl) (by kernel_rfl) (fun _ _ _ h => h) (Or.inl ⟨by rfl, fun w h => by (simp only [List.getElem_toArray, List.getElem_cons_succ, List.getElem_cons_zero]; clear h; go_simp)⟩) (by assumption) ?_
    simp only [Act.put, List.getElem_toArray, List.getElem_cons_succ, List.getElem_cons_zero, List.setIfInBounds_toArray, List.set_cons_zero, List.set_cons_succ]
    refine wpAnyH_take (i := 5) (v := (.pointer (some ⟨wb, wo + (k + 1), none⟩))) rfl (by kernel_rfl) (by kernel_rfl) (by kernel_rfl) (fun _ _ _ h => h) (Or.inl ⟨by rfl, fun w h => by (simp only [List.getElem_toArray, List.getElem_cons_succ, List.getElem_cons_zero]; clear h; go_simp; all_goals (try rw [if_pos (by omega)]); all_goals (try rw [htn]); all_goals (intro _; omega))⟩) (by assumption) ?_
    simp only [Act.put, List.getElem_toArray, List.getElem_cons_succ, List.getElem_cons_zero, List.setIfInBounds_toArray, List.set_cons_zero, List.set_cons_succ]
    refine wpAnyH_take (i := 6) (v := (.string (textB b))) rfl (by kernel_rfl) (by kernel_rfl) (by kernel_rfl) (fun _ _ _ h => h) (Or.inl ⟨by rfl, fun w h => by (simp only [List.getElem_toArray, List.getElem_cons_succ, List.getElem_cons_zero]; have h1 := h.2.1; have h2 := h.2.2; clear h; go_simp)⟩) (by assumption) ?_
    simp only [Act.put, List.getElem_toArray, List.getElem_cons_succ, List.getElem_cons_zero, List.setIfInBounds_toArray, List.set_cons_zero, List.set_cons_succ]
    have hen := HEN.out
    refine wpAnyH_ready (rs := [7]) (by kernel_rfl) (by simp) ?_
    refine AllReadyH.cons rfl (fun K hK => ?_) AllReadyH.nil
    rw [if_pos (by rfl)]
    go_wp2_with fail
    refine HW6.out.mono ?_
    rintro e w7 ⟨rfl, hiw⟩
    dsimp only
    have hwg : ¬ wb = gi := fun e => by have := World.block_lt_of_cell? w _ (HCE.out 0 w0 rfl); have h9 : wb < w.heap.size := this; omega
    have hpg : ¬ p6 = gi := fun e => by subst e; exact absurd (hHeld.1.same HI6.out.drew).1 (by decide)
    refine hK.out _ _ ⟨hHeld.1.kept hiw.2 (fun (e : p6 = gi) => hpg e), by rw [cell_keptN hiw.2 hHeld.2.2 (fun (e : wb = gi) => hwg e)]; exact hHeld.2.1, Nat.lt_of_lt_of_le hHeld.2.2 hiw.2.size⟩ (fun hHeld1 => ?_)
    clear hK K hHeld hpg hwg
    have HI7 := Lib.hid hiw.1
    have HL7 := Lib.hid (HL6.out.drew.kept hiw.2 (fun (e : N0 = gi) => by omega))
    have HG7 := Lib.hid (OpG.rowed (HG6.out.later (below_drewN (Below.refl _ _) 1)) HI6.out.drew hiw.2)
    have HB7 := Lib.hid (InW.bel (x := x) (below_drewN HB6.out 1) hiw.2 hgw)
    clear hiw HI6 HL6 HG6 HB6 HW6
    try simp only [Act.put, List.setIfInBounds_toArray, List.set_cons_zero, List.set_cons_succ]
    refine wpAnyH_take (i := 8) (v := (.bool (!(rdO x o b).2))) rfl (by kernel_rfl) (by kernel_rfl) (by kernel_rfl) (fun _ _ _ h => h) (Or.inl ⟨by rfl, fun w h => by (simp only [List.getElem_toArray, List.getElem_cons_succ, List.getElem_cons_zero]; clear h; go_simp)⟩) (by assumption) ?_
    simp only [Act.put, List.getElem_toArray, List.getElem_cons_succ, List.getElem_cons_zero, List.setIfInBounds_toArray, List.set_cons_zero, List.set_cons_succ]
    refine wpAnyH_done (by kernel_rfl) ?_ _
    clear hHeld1 hen hwr htn
    cases hrb : (rdO x o b).2
    ·have HXX : Hid (rlR (w0 :: rs) = (in0, false)) := by
      have h8 := HRN.out
      rw [hrb, if_neg (by decide)] at h8
      show _ = _
      rw [HX.out]
      exact rlF_bad HBAD.out HR.out (by rw [← h8])
     have HL := HL7
     have HB9 := HB7
     clear hrb
     have lt := HL.out.lt
     have f0 := HL.out.free 0
     have f1 := HL.out.free 1
     have f2 := HL.out.free 2
     have f3 := HL.out.free 3
     have f4 := HL.out.free 4
     have f5 := HL.out.free 5
     have c0 := (HL.out.cell 0).trans (show _ = some (Value.int .i64 0) from rfl)
     have c1 := (HL.out.cell 1).trans (show _ = some (Value.int .i64 0) from rfl)
     have c2 := (HL.out.cell 2).trans (show _ = some (Value.int .i64 0) from rfl)
     have c3 := (HL.out.cell 3).trans (show _ = some (Value.int .i64 0) from rfl)
     have c4 := (HL.out.cell 4).trans (show _ = some (Value.int .i64 0) from rfl)
     have c5 := (HL.out.cell 5).trans (show _ = some (Value.int .u64 0) from rfl)
     go_wp2_with fail
     have HBZ := Lib.hid (HB9.out.trans ((st6_kept w7 N0 (.int .i64 0) (.int .i64 0) (.int .i64 0) (.int .i64 0) (.int .i64 0) (.int .u64 0)).below HB9.out.size (fun j hj (e : j = N0) => by have := HN0.out; omega)))
     have HRZ := Lib.hid (st6_lies (a0 := (.int .i64 0)) (a1 := (.int .i64 0)) (a2 := (.int .i64 0)) (a3 := (.int .i64 0)) (a4 := (.int .i64 0)) (a5 := (.int .u64 0)) HL.out)
     have q0 := (HRZ.out.cell 0).trans (show _ = some ((.int .i64 0)) from rfl)
     have q1 := (HRZ.out.cell 1).trans (show _ = some ((.int .i64 0)) from rfl)
     have q2 := (HRZ.out.cell 2).trans (show _ = some ((.int .i64 0)) from rfl)
     have q3 := (HRZ.out.cell 3).trans (show _ = some ((.int .i64 0)) from rfl)
     have q4 := (HRZ.out.cell 4).trans (show _ = some ((.int .i64 0)) from rfl)
     have q5 := (HRZ.out.cell 5).trans (show _ = some ((.int .u64 0)) from rfl)
     refine bodyPost_ret (v := .tuple #[.agg inZ, (.bool false)]) (by simp [results, Tryz.results63, go_sem, q0, q1, q2, q3, q4, q5]) rfl ?_
     exact ⟨by rw [HXX.out]; rfl, HBZ.out⟩
    ·have HRK2 : Hid (rdK (L.drop (k + 1)) (rs.drop (k + 1)) (rdO x o b).1 = R) := by
      have h8 := HRN.out
      rw [hrb, if_pos rfl] at h8
      exact h8
     clear hrb
     go_wp2
     go_roundw
     case rel => exact ⟨k + 1, (rdO x o b).1, by omega, by go_num, HRK2, HG7, HI7, HL7, HB7⟩
     case measure => simp [intOf]; omega
   ·have d0 := HC.out 0 _ (by decide) ((opsL_get ho hg (by decide)).trans (by rw [hov]; rfl))
    have d1 := HC.out 1 _ (by decide) ((opsL_get ho hg (by decide)).trans (by rw [hov]; rfl))
    have HW := Lib.hid hcall
    have HEN := Lib.hid hen
    clear hcall hen hov HC
    have bl := World.block_lt_of_cell? wr _ d0
    try simp only [Nat.add_zero] at d0
    go_upto_region 9 with (fail)
    have hbx : Below wr.heap.size wr (wr.alloc (.cells #[capV nf g, capV mf g] 61)) := (Below.refl wr.heap.size wr).alloc (Nat.le_refl _) _
    have HL6 := Lib.hid (HL5.out.below hbx HL5.out.lt)
    have HI6 := Lib.hid (HI5.out.below hbx HI5.out.lt)
    have HG6 := Lib.hid (HG9.out.later hbx)
    have HB6 := Lib.hid (HB5.out.alloc HB5.out.size (.cells #[capV nf g, capV mf g] 61))
    have HD6 := Lib.hid (OdAt.below HOD.out hbx)
    have HX6 := Lib.hid (Lies.made wr 61 #[capV nf g, capV mf g])
    have HWC := Lib.hid (cell_later (HCE.out (k + 1) b (by rw [List.getElem?_cons_succ]; exact hb)) HB6.out)
    obtain ⟨p6, hp6⟩ : ∃ p, p = wr.heap.size := ⟨_, rfl⟩
    rw [← hp6] at HX6
    simp only [← hp6]
    clear d0 d1 bl HL5 HI5 HG9 HB5 HOD hp6 hbx
    generalize wr.alloc (.cells #[capV nf g, capV mf g] 61) = w6 at *
    have wbl := World.block_lt_of_cell? _ _ HWC.out
    refine wp_region_held_drew (S := fun y => Lies y p6 61 #[capV nf g, capV mf g] ∧ y.cell? ⟨wb, wo + (k + 1), none⟩ = some (.string (textB b)) ∧ wb < y.heap.size) (by kernel_rfl) ⟨HX6.out.drew, HWC.out, wbl⟩ (fun hHeld => ?_)
    have HW6 := Lib.hid (HW.out w6.drew gi x b (OdAt.below HD6.out (below_drewN (Below.refl _ _) 1)) (HE.out.later (below_drewN HB6.out 1)) (HP.out.later (below_drewN HB6.out 1)) HI6.out.drew (HWL.out b (List.mem_cons_of_mem _ (List.mem_of_getElem? hb))))
    clear HW HD6 HX6 HWC wbl
    try simp only [Act.put, List.setIfInBounds_toArray, List.set_cons_zero, List.set_cons_succ]
    refine wpAnyH_take (i := 0) (v := (.pointer (some ⟨p6, 1, none⟩))) rfl (by kernel_rfl) (by kernel_rfl) (by kernel_rfl) (fun _ _ _ h => h) (Or.inl ⟨by rfl, fun w h => by (simp only [List.getElem_toArray, List.getElem_cons_succ, List.getElem_cons_zero]; clear h; go_simp)⟩) (by assumption) ?_
    simp only [Act.put, List.getElem_toArray, List.getElem_cons_succ, List.getElem_cons_zero, List.setIfInBounds_toArray, List.set_cons_zero, List.set_cons_succ]
    refine wpAnyH_take (i := 1) (v := ((capV mf g))) rfl (by kernel_rfl) (by kernel_rfl) (by kernel_rfl) (fun _ _ _ h => h) (Or.inl ⟨by rfl, fun w h => by (simp only [List.getElem_toArray, List.getElem_cons_succ, List.getElem_cons_zero]; have h1 := h.1.cell 1; have h2 := h.1.lt; simp at h1; clear h; go_simp)⟩) (by assumption) ?_
    simp only [Act.put, List.getElem_toArray, List.getElem_cons_succ, List.getElem_cons_zero, List.setIfInBounds_toArray, List.set_cons_zero, List.set_cons_succ]
    refine wpAnyH_take (i := 2) (v := (.slice (some ⟨wb, wo, none⟩) n wc)) rfl (by kernel_rfl) (by kernel_rfl) (by kernel_rfl) (fun _ _ _ h => h) (Or.inl ⟨by rfl, fun w h => by (simp only [List.getElem_toArray, List.getElem_cons_succ, List.getElem_cons_zero]; clear h; go_simp)⟩) (by assumption) ?_
    simp only [Act.put, List.getElem_toArray, List.getElem_cons_succ, List.getElem_cons_zero, List.setIfInBounds_toArray, List.set_cons_zero, List.set_cons_succ]
    refine wpAnyH_take (i := 3) (v := (.int .i64 (k : Int))) rfl (by kernel_rfl) (by kernel_rfl) (by kernel_rfl) (fun _ _ _ h => h) (Or.inl ⟨by rfl, fun w h => by (simp only [List.getElem_toArray, List.getElem_cons_succ, List.getElem_cons_zero]; clear h; go_simp)⟩) (by assumption) ?_
    simp only [Act.put, List.getElem_toArray, List.getElem_cons_succ, List.getElem_cons_zero, List.setIfInBounds_toArray, List.set_cons_zero, List.set_cons_succ]
    have hwr : IntKind.i64.wrap (1 + (k : Int)) = 1 + (k : Int) := by rw [IntKind.wrap_i64]; omega
    have htn : (1 + (k : Int)).toNat = k + 1 := by omega
    refine wpAnyH_take (i := 4) (v := (.int .i64 (1 + (k : Int)))) rfl (by kernel_rfl) (by kernel_rfl) (by kernel_rfl) (fun _ _ _ h => h) (Or.inl ⟨by rfl, fun w h => by (simp only [List.getElem_toArray, List.getElem_cons_succ, List.getElem_cons_zero]; clear h; go_simp)⟩) (by assumption) ?_
    simp only [Act.put, List.getElem_toArray, List.getElem_cons_succ, List.getElem_cons_zero, List.setIfInBounds_toArray, List.set_cons_zero, List.set_cons_succ]
    refine wpAnyH_take (i := 5) (v := (.pointer (some ⟨wb, wo + (k + 1), none⟩))) rfl (by kernel_rfl) (by kernel_rfl) (by kernel_rfl) (fun _ _ _ h => h) (Or.inl ⟨by rfl, fun w h => by (simp only [List.getElem_toArray, List.getElem_cons_succ, List.getElem_cons_zero]; clear h; go_simp; all_goals (try rw [if_pos (by omega)]); all_goals (try rw [htn]); all_goals (intro _; omega))⟩) (by assumption) ?_
    simp only [Act.put, List.getElem_toArray, List.getElem_cons_succ, List.getElem_cons_zero, List.setIfInBounds_toArray, List.set_cons_zero, List.set_cons_succ]
    refine wpAnyH_take (i := 6) (v := (.string (textB b))) rfl (by kernel_rfl) (by kernel_rfl) (by kernel_rfl) (fun _ _ _ h => h) (Or.inl ⟨by rfl, fun w h => by (simp only [List.getElem_toArray, List.getElem_cons_succ, List.getElem_cons_zero]; have h1 := h.2.1; have h2 := h.2.2; clear h; go_simp)⟩) (by assumption) ?_
    simp only [Act.put, List.getElem_toArray, List.getElem_cons_succ, List.getElem_cons_zero, List.setIfInBounds_toArray, List.set_cons_zero, List.set_cons_succ]
    have hen := HEN.out
    refine wpAnyH_ready (rs := [7]) (by kernel_rfl) (by simp) ?_
    refine AllReadyH.cons rfl (fun K hK => ?_) AllReadyH.nil
    rw [if_pos (by rfl)]
    go_wp2_with fail
    refine HW6.out.mono ?_
    rintro e w7 ⟨rfl, hiw⟩
    dsimp only
    have hwg : ¬ wb = gi := fun e => by have := World.block_lt_of_cell? w _ (HCE.out 0 w0 rfl); have h9 : wb < w.heap.size := this; omega
    have hpg : ¬ p6 = gi := fun e => by subst e; exact absurd (hHeld.1.same HI6.out.drew).1 (by decide)
    refine hK.out _ _ ⟨hHeld.1.kept hiw.2 (fun (e : p6 = gi) => hpg e), by rw [cell_keptN hiw.2 hHeld.2.2 (fun (e : wb = gi) => hwg e)]; exact hHeld.2.1, Nat.lt_of_lt_of_le hHeld.2.2 hiw.2.size⟩ (fun hHeld1 => ?_)
    clear hK K hHeld hpg hwg
    have HI7 := Lib.hid hiw.1
    have HL7 := Lib.hid (HL6.out.drew.kept hiw.2 (fun (e : N0 = gi) => by omega))
    have HG7 := Lib.hid (OpG.rowed (HG6.out.later (below_drewN (Below.refl _ _) 1)) HI6.out.drew hiw.2)
    have HB7 := Lib.hid (InW.bel (x := x) (below_drewN HB6.out 1) hiw.2 hgw)
    clear hiw HI6 HL6 HG6 HB6 HW6
    try simp only [Act.put, List.setIfInBounds_toArray, List.set_cons_zero, List.set_cons_succ]
    refine wpAnyH_take (i := 8) (v := (.bool (!(rdO x o b).2))) rfl (by kernel_rfl) (by kernel_rfl) (by kernel_rfl) (fun _ _ _ h => h) (Or.inl ⟨by rfl, fun w h => by (simp only [List.getElem_toArray, List.getElem_cons_succ, List.getElem_cons_zero]; clear h; go_simp)⟩) (by assumption) ?_
    simp only [Act.put, List.getElem_toArray, List.getElem_cons_succ, List.getElem_cons_zero, List.setIfInBounds_toArray, List.set_cons_zero, List.set_cons_succ]
    refine wpAnyH_done (by kernel_rfl) ?_ _
    clear hHeld1 hen hwr htn
    cases hrb : (rdO x o b).2
    ·have HXX : Hid (rlR (w0 :: rs) = (in0, false)) := by
      have h8 := HRN.out
      rw [hrb, if_neg (by decide)] at h8
      show _ = _
      rw [HX.out]
      exact rlF_bad HBAD.out HR.out (by rw [← h8])
     have HL := HL7
     have HB9 := HB7
     clear hrb
     have lt := HL.out.lt
     have f0 := HL.out.free 0
     have f1 := HL.out.free 1
     have f2 := HL.out.free 2
     have f3 := HL.out.free 3
     have f4 := HL.out.free 4
     have f5 := HL.out.free 5
     have c0 := (HL.out.cell 0).trans (show _ = some (Value.int .i64 0) from rfl)
     have c1 := (HL.out.cell 1).trans (show _ = some (Value.int .i64 0) from rfl)
     have c2 := (HL.out.cell 2).trans (show _ = some (Value.int .i64 0) from rfl)
     have c3 := (HL.out.cell 3).trans (show _ = some (Value.int .i64 0) from rfl)
     have c4 := (HL.out.cell 4).trans (show _ = some (Value.int .i64 0) from rfl)
     have c5 := (HL.out.cell 5).trans (show _ = some (Value.int .u64 0) from rfl)
     go_wp2_with fail
     have HBZ := Lib.hid (HB9.out.trans ((st6_kept w7 N0 (.int .i64 0) (.int .i64 0) (.int .i64 0) (.int .i64 0) (.int .i64 0) (.int .u64 0)).below HB9.out.size (fun j hj (e : j = N0) => by have := HN0.out; omega)))
     have HRZ := Lib.hid (st6_lies (a0 := (.int .i64 0)) (a1 := (.int .i64 0)) (a2 := (.int .i64 0)) (a3 := (.int .i64 0)) (a4 := (.int .i64 0)) (a5 := (.int .u64 0)) HL.out)
     have q0 := (HRZ.out.cell 0).trans (show _ = some ((.int .i64 0)) from rfl)
     have q1 := (HRZ.out.cell 1).trans (show _ = some ((.int .i64 0)) from rfl)
     have q2 := (HRZ.out.cell 2).trans (show _ = some ((.int .i64 0)) from rfl)
     have q3 := (HRZ.out.cell 3).trans (show _ = some ((.int .i64 0)) from rfl)
     have q4 := (HRZ.out.cell 4).trans (show _ = some ((.int .i64 0)) from rfl)
     have q5 := (HRZ.out.cell 5).trans (show _ = some ((.int .u64 0)) from rfl)
     refine bodyPost_ret (v := .tuple #[.agg inZ, (.bool false)]) (by simp [results, Tryz.results63, go_sem, q0, q1, q2, q3, q4, q5]) rfl ?_
     exact ⟨by rw [HXX.out]; rfl, HBZ.out⟩
    ·have HRK2 : Hid (rdK (L.drop (k + 1)) (rs.drop (k + 1)) (rdO x o b).1 = R) := by
      have h8 := HRN.out
      rw [hrb, if_pos rfl] at h8
      exact h8
     clear hrb
     go_wp2
     go_roundw
     case rel => exact ⟨k + 1, (rdO x o b).1, by omega, by go_num, HRK2, HG7, HI7, HL7, HB7⟩
     case measure => simp [intOf]; omega
  ·obtain rfl : k = L.length := by omega
   have hx : (x, true) = R := by
    have h8 := HRK.out
    rw [List.drop_length] at h8
    exact h8
   have HXX : Hid (rlR (w0 :: rs) = (x, rightB x)) := by
    show _ = _
    rw [HX.out]
    refine (rlF_ok HBAD.out HR.out (by rw [← hx])).trans ?_
    rw [← hx]
   have HRI := Lib.hid (right_any x w.drew)
   clear hx HRK
   go_wp2_with fail
   refine wp_region_held_drew (S := fun y => Lies y gi 28 (inC x)) (by kernel_rfl) HI5.out.drew (fun hHeld => ?_)
   have HRI := Lib.hid (right_any x wr.drew)
   have HL9 := Lib.hid HL5.out.drew
   have HB9 := Lib.hid (below_drewN HB5.out 1)
   clear HI5 HL5 HB5
   try simp only [Act.put, List.setIfInBounds_toArray, List.set_cons_zero, List.set_cons_succ]
   refine wpAnyH_take (i := 0) (v := (.agg (inC x))) rfl (by kernel_rfl) (by kernel_rfl) (by kernel_rfl) (fun _ _ _ h => h) (Or.inl ⟨by rfl, fun w h => by (simp only [List.getElem_toArray, List.getElem_cons_succ, List.getElem_cons_zero]; have h0 := h.cell 0; have h1 := h.cell 1; have h2 := h.cell 2; have h3 := h.cell 3; have h4 := h.cell 4; have h5 := h.cell 5; have h6 := h.lt; simp at h0 h1 h2 h3 h4 h5; clear h; go_simp)⟩) (by assumption) ?_
   simp only [Act.put, List.getElem_toArray, List.getElem_cons_succ, List.getElem_cons_zero, List.setIfInBounds_toArray, List.set_cons_zero, List.set_cons_succ]
   refine wpAnyH_take (i := 1) (v := (.agg (inC x))) rfl (by kernel_rfl) (by kernel_rfl) (by kernel_rfl) (fun _ _ _ h => h) (Or.inl ⟨by rfl, fun w h => by (simp only [List.getElem_toArray, List.getElem_cons_succ, List.getElem_cons_zero]; have h0 := h.cell 0; have h1 := h.cell 1; have h2 := h.cell 2; have h3 := h.cell 3; have h4 := h.cell 4; have h5 := h.cell 5; have h6 := h.lt; simp at h0 h1 h2 h3 h4 h5; clear h; go_simp)⟩) (by assumption) ?_
   simp only [Act.put, List.getElem_toArray, List.getElem_cons_succ, List.getElem_cons_zero, List.setIfInBounds_toArray, List.set_cons_zero, List.set_cons_succ]
   refine wpAnyH_ready (rs := [2]) (by kernel_rfl) (by simp) ?_
   refine AllReadyH.cons rfl (fun K hK => ?_) AllReadyH.nil
   rw [if_pos (by rfl)]
   go_wp2_with fail
   refine HRI.out.mono ?_
   rintro e w8 ⟨rfl, hb8⟩
   dsimp only
   refine hK.out _ _ (hHeld.below hb8 hHeld.lt) (fun hHeld1 => ?_)
   clear hK K
   have HL := Lib.hid (HL9.out.below hb8 HL9.out.lt)
   replace HB9 := Lib.hid (HB9.out.trans (hb8.mono HB9.out.size))
   clear hb8 HL9 hHeld
   try simp only [Act.put, List.setIfInBounds_toArray, List.set_cons_zero, List.set_cons_succ]
   have lt := HL.out.lt
   have f0 := HL.out.free 0
   have f1 := HL.out.free 1
   have f2 := HL.out.free 2
   have f3 := HL.out.free 3
   have f4 := HL.out.free 4
   have f5 := HL.out.free 5
   have c0 := (HL.out.cell 0).trans (show _ = some (Value.int .i64 0) from rfl)
   have c1 := (HL.out.cell 1).trans (show _ = some (Value.int .i64 0) from rfl)
   have c2 := (HL.out.cell 2).trans (show _ = some (Value.int .i64 0) from rfl)
   have c3 := (HL.out.cell 3).trans (show _ = some (Value.int .i64 0) from rfl)
   have c4 := (HL.out.cell 4).trans (show _ = some (Value.int .i64 0) from rfl)
   have c5 := (HL.out.cell 5).trans (show _ = some (Value.int .u64 0) from rfl)
   refine wpAnyH_ready (rs := [3]) (by kernel_rfl) (by simp) ?_
   refine AllReadyH.cons rfl (fun K hK => ?_) AllReadyH.nil
   rw [if_pos (by rfl)]
   go_wp2_with fail
   refine hK.out _ _ (hHeld1.kept (st6_kept w8 N0 _ _ _ _ _ _) (fun (e : gi = N0) => by omega)) (fun hHeld2 => ?_)
   clear hK K hHeld1
   try simp only [Act.put, List.setIfInBounds_toArray, List.set_cons_zero, List.set_cons_succ]
   refine wpAnyH_take (i := 4) (v := (.bool (rightB x))) rfl (by kernel_rfl) (by kernel_rfl) (by kernel_rfl) (fun _ _ _ h => h) (Or.inl ⟨by rfl, fun w h => by (simp only [List.getElem_toArray, List.getElem_cons_succ, List.getElem_cons_zero]; clear h; go_simp)⟩) (by assumption) ?_
   simp only [Act.put, List.getElem_toArray, List.getElem_cons_succ, List.getElem_cons_zero, List.setIfInBounds_toArray, List.set_cons_zero, List.set_cons_succ]
   refine wpAnyH_done (by kernel_rfl) ?_ _
   go_wp2_with fail
   have HBZ := Lib.hid (HB9.out.trans ((st6_kept w8 N0 (.int .i64 x.op) (.int .i64 x.a) (.int .i64 x.b) (.int .i64 x.c) (.int .i64 x.d) (.int .u64 (x.k : Int))).below HB9.out.size (fun j hj (e : j = N0) => by have := HN0.out; omega)))
   have HRZ := Lib.hid (st6_lies (a0 := (.int .i64 x.op)) (a1 := (.int .i64 x.a)) (a2 := (.int .i64 x.b)) (a3 := (.int .i64 x.c)) (a4 := (.int .i64 x.d)) (a5 := (.int .u64 (x.k : Int))) HL.out)
   have q0 := (HRZ.out.cell 0).trans (show _ = some ((.int .i64 x.op)) from rfl)
   have q1 := (HRZ.out.cell 1).trans (show _ = some ((.int .i64 x.a)) from rfl)
   have q2 := (HRZ.out.cell 2).trans (show _ = some ((.int .i64 x.b)) from rfl)
   have q3 := (HRZ.out.cell 3).trans (show _ = some ((.int .i64 x.c)) from rfl)
   have q4 := (HRZ.out.cell 4).trans (show _ = some ((.int .i64 x.d)) from rfl)
   have q5 := (HRZ.out.cell 5).trans (show _ = some ((.int .u64 (x.k : Int))) from rfl)
   refine bodyPost_ret (v := .tuple #[.agg (inC x), (.bool (rightB x))]) (by simp [results, Tryz.results63, go_sem, q0, q1, q2, q3, q4, q5]) rfl ?_
   exact ⟨by rw [HXX.out], HBZ.out⟩
section
variable {P : Program} {ops : Array Oper}
def dirs (ops : Array Oper) (i : Nat) : List Nat := match ops[i]? with | some o => (o.after.toList.filter (fun e => Region.binds .any e)).map (·.on) | none => []
def putsOf (ds : List (Option Tmp)) (x : Nat → Value) (a : Act) (js : List Nat) : Act := js.foldl (fun a j => a.put (ds.getD j none) (x j)) a
def QF : Exit → Act → World → Prop := fun _ _ _ => False
def StepV (P : Program) (ops : Array Oper) (i : Nat) (b : Act) (w : World) (R : Value → World → Prop) : Prop :=
 ∀ o, ops[i]? = some o → ∀ K' : Act → World → Prop, Shut (∀ a' w', (∃ v, a' = b.put o.dst v ∧ R v w') → K' a' w') → if Region.wanted o (yielded ops b.tmps) = true then Oper.wp P o b w K' QF else K' (b.put o.dst undef) w
theorem StepV.mk {i : Nat} {o : Oper} {b : Act} {w : World} {R : Value → World → Prop} (ho : ops[i]? = some o)
  (h : ∀ K' : Act → World → Prop, Shut (∀ a' w', (∃ v, a' = b.put o.dst v ∧ R v w') → K' a' w') → if Region.wanted o (yielded ops b.tmps) = true then Oper.wp P o b w K' QF else K' (b.put o.dst undef) w) : StepV P ops i b w R := by
 intro o' ho' K hK
 rw [ho] at ho'
 cases ho'
 exact h K hK
def QK (K : Act → World → Prop) : Exit → Act → World → Prop
 | .normal, a, w => K a w
 | _, _, _ => False
theorem step_list {o : Oper} {a : Act} {w : World} {K : Act → World → Prop} (hw : Region.wanted o (yielded ops a.tmps) = true) (h : wpList P ops (QK K) [o] a w) : Oper.wp P o a w K QF := by
 unfold wpList at h
 rw [if_pos hw] at h
 rcases h with h | ⟨_, hl⟩
 ·unfold Oper.wp at *
  generalize (execOp a.eval o).run P w = r at *
  cases r with
  | ok n w' =>
   cases n <;> simp only [Oper.upon] at h ⊢
   case value u => exact h
   case skip => exact h
   case defer d => exact h
   case enter f args =>
    refine Calls.mono h fun e w'' he => ?_
    cases e with
    | returned u => exact he
    | panicked c => exact he.elim
    | outgrown => obtain ⟨_, _, h⟩ := he; exact h.elim
   case row row args => exact h
  | halt x w' =>
   cases x <;> simp only [Oper.upon] at h ⊢
   case panic u => exact h.elim
 ·obtain ⟨_, _, h⟩ := hl
  exact h.elim
theorem put_tmps (a : Act) (d : Option Tmp) (v : Value) : (a.put d v).tmps.size = a.tmps.size ∧ (a.put d v).defers = a.defers := by
 cases d with
 | none => exact ⟨rfl, rfl⟩
 | some d => exact ⟨Array.size_setIfInBounds, rfl⟩
theorem act_ext {a b : Act} (h1 : a.tmps = b.tmps) (h2 : a.defers = b.defers) : a = b := by
 obtain ⟨_, _⟩ := a
 obtain ⟨_, _⟩ := b
 simp only at h1 h2
 rw [h1, h2]
theorem put_cong {a b : Act} {d : Option Tmp} {v v' : Value} (hs : a.tmps.size = b.tmps.size) (h : b.put d v = b.put d v') : a.put d v = a.put d v' := by
 cases d with
 | none => rfl
 | some d =>
  by_cases hd : d < b.tmps.size
  ·have := congrArg (fun c => c.tmps[d]?) h
   simp only [Act.put] at this
   rw [Array.getElem?_setIfInBounds_self_of_lt hd, Array.getElem?_setIfInBounds_self_of_lt hd] at this
   injection this with this
   rw [this]
  ·refine act_ext ?_ rfl
   simp only [Act.put]
   rw [Array.setIfInBounds, dif_neg (by rw [hs]; exact hd), Array.setIfInBounds, dif_neg (by rw [hs]; exact hd)]
theorem StepV.move {i : Nat} {o : Oper} {a b : Act} {w : World} {R : Value → World → Prop} {Q : Exit → Act → World → Prop} (ho : ops[i]? = some o) (hsel : ∀ cs b, o.op ≠ .select cs b)
  (hsz : a.tmps.size = b.tmps.size) (he : ∀ d ∈ o.looksAt ops, a.tmps[d]? = b.tmps[d]?) (h : StepV P ops i b w R) : wpOp P ops Q i (fun a' w' => ∃ v, a' = a.put o.dst v ∧ R v w') a w := by
 have h0 := h o ho (fun a' w' => ∃ v, a' = b.put o.dst v ∧ R v w') (fun _ _ h => h)
 have hex : execOp a.eval o = execOp b.eval o := by
  refine execOp_congr o hsel (fun x hx => ?_)
  cases x with
  | tmp t =>
   have := he t (List.mem_append_left _ (List.mem_filterMap.2 ⟨.tmp t, by simpa using hx, rfl⟩))
   show a.tmps.getD t undef = b.tmps.getD t undef
   rw [Array.getD_eq_getD_getElem?, Array.getD_eq_getD_getElem?, this]
  | _ => rfl
 have hwa : Region.wanted o (yielded ops a.tmps) = Region.wanted o (yielded ops b.tmps) := by
  unfold Region.wanted
  cases hg : o.guard with
  | none => rfl
  | some gw =>
   obtain ⟨g, want⟩ := gw
   have hy : yielded ops a.tmps g = yielded ops b.tmps g := by
    unfold yielded
    cases ht : (ops[g]?).bind (·.dst) with
    | none => rfl
    | some t =>
     have := he t (by simp [Oper.looksAt, hg, ht])
     simp only [Option.bind_some, this]
   simp only [hy]
 unfold wpOp
 simp only [ho]
 rw [hwa]
 split
 ·rename_i hw
  rw [if_pos hw] at h0
  refine .inl ?_
  unfold Oper.wp at *
  rw [hex]
  generalize (execOp b.eval o).run P w = r at *
  cases r with
  | ok n w' =>
   cases n <;> simp only [Oper.upon] at h0 ⊢
   case value u => obtain ⟨v, e, hR⟩ := h0; exact ⟨v, put_cong hsz e, hR⟩
   case skip => obtain ⟨v, e, hR⟩ := h0; exact ⟨v, put_cong hsz e, hR⟩
   case defer d =>
    obtain ⟨v, e, hR⟩ := h0
    have := congrArg Act.defers e
    rw [(put_tmps _ _ _).2, (put_tmps _ _ _).2] at this
    exact absurd (congrArg List.length this) (by simp)
   case enter f args =>
    refine Calls.mono h0 fun e w'' he => ?_
    cases e with
    | returned u => obtain ⟨v, e, hR⟩ := he; exact ⟨v, put_cong hsz e, hR⟩
    | panicked c => exact he.elim
    | outgrown => obtain ⟨_, _, h⟩ := he; exact h.elim
   case row row args => exact Rows.mono h0 fun u w'' he => by obtain ⟨v, e, hR⟩ := he; exact ⟨v, put_cong hsz e, hR⟩
  | halt x w' =>
   cases x <;> simp only [Oper.upon] at h0 ⊢
   case panic u => exact h0.elim
 ·rename_i hw
  rw [if_neg hw] at h0
  obtain ⟨v, e, hR⟩ := h0
  exact ⟨v, put_cong hsz e, hR⟩
def relyB (ops : Array Oper) (ds : List (Option Tmp)) (js es ps : List (List Nat)) (N : Nat) : Bool :=
 (ds == ops.toList.map (·.dst)) && Region.noSelect ops &&
 (List.range ops.size).all (fun i => (dirs ops i).all (fun e => decide (e < i)) && (js.getD i []).all (fun j => (dirs ops i).contains j || decide (ops.size ≤ j)) &&
  (List.range ops.size).all (fun j => (match ds.getD j none with
   | some t => (i == j || ds.getD i none != some t) && (i == j || (js.getD i []).contains j || (dirs ops j).contains i || !((ops.getD i default).looksAt ops).contains t)
   | none => true) && ((es.getD j []).all (fun e => !(js.getD i []).contains e || i == j || (dirs ops j).contains i))) &&
  (List.range N).all (fun j => i == j || (ps.getD i []).contains j || (es.getD i []).contains j || (dirs ops j).contains i || (dirs ops i).any (fun k => (es.getD k []).contains j)))
structure Rely (ops : Array Oper) (ds : List (Option Tmp)) (js es ps : List (List Nat)) (N : Nat) : Prop where
 ds_ : ds = ops.toList.map (·.dst)
 sel : Region.noSelect ops = true
 back : ∀ i e, i < ops.size → e ∈ dirs ops i → e < i
 sub : ∀ i j, i < ops.size → j ∈ js.getD i [] → j ∈ dirs ops i ∨ ops.size ≤ j
 one : ∀ i j t, i < ops.size → j < ops.size → ds.getD j none = some t → ds.getD i none = some t → i = j
 looks : ∀ i j t, i < ops.size → j < ops.size → ds.getD j none = some t → t ∈ (ops.getD i default).looksAt ops → i = j ∨ j ∈ js.getD i [] ∨ i ∈ dirs ops j
 eats : ∀ i j e, i < ops.size → j < ops.size → e ∈ es.getD j [] → e ∈ js.getD i [] → i = j ∨ i ∈ dirs ops j
 pres : ∀ i j, i < ops.size → j < N → i = j ∨ j ∈ ps.getD i [] ∨ j ∈ es.getD i [] ∨ i ∈ dirs ops j ∨ ∃ k ∈ dirs ops i, j ∈ es.getD k []
theorem Rely.of {ds : List (Option Tmp)} {js es ps : List (List Nat)} {N : Nat} (h : relyB ops ds js es ps N = true) : Rely ops ds js es ps N := by
 unfold relyB at h
 rw [Bool.and_eq_true, Bool.and_eq_true, List.all_eq_true] at h
 obtain ⟨⟨h1, h2⟩, h3⟩ := h
 have h4 := fun i (hi : i < ops.size) => h3 i (List.mem_range.2 hi)
 simp only [Bool.and_eq_true, List.all_eq_true] at h4
 have h5 := fun i hi j (hj : j < ops.size) => (h4 i hi).1.2 j (List.mem_range.2 hj)
 have h6 := fun i hi j (hj : j < N) => (h4 i hi).2 j (List.mem_range.2 hj)
 refine ⟨by simpa using h1, h2, fun i e hi he => ?_, fun i j hi hj => ?_, fun i j t hi hj h1 h2 => ?_, fun i j t hi hj h1 h2 => ?_, fun i j e hi hj h1 h2 => ?_, fun i j hi hj => ?_⟩
 ·simpa using (h4 i hi).1.1.1 e he
 ·have := (h4 i hi).1.1.2 j hj
  simpa using this
 ·have := (h5 i hi j hj).1
  rw [h1] at this
  simp only [Bool.and_eq_true, Bool.or_eq_true, beq_iff_eq, bne_iff_ne] at this
  rcases this.1 with h | h
  ·exact h
  ·exact absurd h2 h
 ·have := (h5 i hi j hj).1
  rw [h1] at this
  simp only [Bool.and_eq_true, Bool.or_eq_true, beq_iff_eq, bne_iff_ne, List.contains_iff_mem, Bool.not_eq_true'] at this
  rcases this.2 with ((h | h) | h) | h
  ·exact .inl h
  ·exact .inr (.inl h)
  ·exact .inr (.inr h)
  ·rw [List.contains_eq_mem, decide_eq_false_iff_not] at h
   exact absurd h2 h
 ·have := (h5 i hi j hj).2 e h1
  simp only [Bool.or_eq_true, beq_iff_eq, List.contains_iff_mem, Bool.not_eq_true'] at this
  rcases this with (h | h) | h
  ·rw [List.contains_eq_mem, decide_eq_false_iff_not] at h
   exact absurd h2 h
  ·exact .inl h
  ·exact .inr h
 ·have := h6 i hi j hj
  simp only [Bool.or_eq_true, beq_iff_eq, List.contains_iff_mem, List.any_eq_true] at this
  rcases this with (((h | h) | h) | h) | h
  ·exact .inl h
  ·exact .inr (.inl h)
  ·exact .inr (.inr (.inl h))
  ·exact .inr (.inr (.inr (.inl h)))
  ·exact .inr (.inr (.inr (.inr h)))
def AllP (V : Nat → Value → World → Prop) (w w' : World) : List Nat → Prop
 | [] => True
 | j :: l => (∀ u, V j u w → V j u w') ∧ AllP V w w' l
def AllV (V : Nat → Value → World → Prop) (x : Nat → Value) (w : World) : List Nat → Prop
 | [] => True
 | j :: l => V j (x j) w ∧ AllV V x w l
theorem AllV.of {V : Nat → Value → World → Prop} {x : Nat → Value} {w : World} : ∀ (l : List Nat), (∀ j ∈ l, V j (x j) w) → AllV V x w l
 | [], _ => trivial
 | k :: l, h => ⟨h k List.mem_cons_self, AllV.of l (fun j hj => h j (List.mem_cons_of_mem _ hj))⟩
structure FrV (ops : Array Oper) (ds : List (Option Tmp)) (a0 : Act) (x : Nat → Value) (listed : Array Bool) (a : Act) : Prop where
 size : a.tmps.size = a0.tmps.size
 defers : a.defers = a0.defers
 put : ∀ j t, j < ops.size → listed.getD j false = true → ds.getD j none = some t → t < a0.tmps.size → a.tmps[t]? = some (x j)
 old : ∀ t, (∀ j, j < ops.size → listed.getD j false = true → ds.getD j none ≠ some t) → a.tmps[t]? = a0.tmps[t]?
theorem putsOf_size (ds : List (Option Tmp)) (x : Nat → Value) : ∀ (js : List Nat) (a : Act), (putsOf ds x a js).tmps.size = a.tmps.size ∧ (putsOf ds x a js).defers = a.defers
 | [], a => ⟨rfl, rfl⟩
 | j :: js, a => by
  have h := putsOf_size ds x js (a.put (ds.getD j none) (x j))
  exact ⟨h.1.trans (put_tmps _ _ _).1, h.2.trans (put_tmps _ _ _).2⟩
theorem put_get (a : Act) (d : Option Tmp) (v : Value) (t : Nat) : (a.put d v).tmps[t]? = if d = some t ∧ t < a.tmps.size then some v else a.tmps[t]? := by
 cases d with
 | none => simp [Act.put]
 | some d =>
  simp only [Act.put, Option.some.injEq]
  by_cases h : d = t
  ·subst h
   by_cases h2 : d < a.tmps.size
   ·rw [Array.getElem?_setIfInBounds_self_of_lt h2, if_pos ⟨rfl, h2⟩]
   ·rw [if_neg (fun h => h2 h.2), Array.setIfInBounds, dif_neg h2]
  ·rw [Array.getElem?_setIfInBounds_ne h, if_neg (fun h2 => h h2.1)]
theorem putsOf_old (ds : List (Option Tmp)) (x : Nat → Value) (t : Nat) : ∀ (js : List Nat) (a : Act), (∀ j ∈ js, ds.getD j none ≠ some t) → (putsOf ds x a js).tmps[t]? = a.tmps[t]?
 | [], a, _ => rfl
 | j :: js, a, h => by
  have := putsOf_old ds x t js (a.put (ds.getD j none) (x j)) (fun k hk => h k (List.mem_cons_of_mem _ hk))
  exact this.trans (by rw [put_get, if_neg (fun e => h j List.mem_cons_self e.1)])
theorem putsOf_new (ds : List (Option Tmp)) (x : Nat → Value) (t i : Nat) : ∀ (js : List Nat) (a : Act), (∀ j ∈ js, ds.getD j none = some t → j = i) → i ∈ js → ds.getD i none = some t → t < a.tmps.size → (putsOf ds x a js).tmps[t]? = some (x i)
 | [], a, _, h, _, _ => by cases h
 | j :: js, a, h1, h2, h3, h4 => by
  by_cases hi : i ∈ js
  ·exact putsOf_new ds x t i js (a.put (ds.getD j none) (x j)) (fun k hk => h1 k (List.mem_cons_of_mem _ hk)) hi h3 (by rw [(put_tmps _ _ _).1]; exact h4)
  ·have hij : i = j := (List.mem_cons.1 h2).resolve_right hi
   subst hij
   have := putsOf_old ds x t js (a.put (ds.getD i none) (x i)) (fun k hk e => hi (by rw [← h1 k (List.mem_cons_of_mem _ hk) e]; exact hk))
   exact this.trans (by rw [put_get, if_pos ⟨h3, h4⟩])
theorem dirs_mem {i e : Nat} {o : Oper} (ho : ops[i]? = some o) : e ∈ dirs ops i ↔ ∃ g ∈ o.after, Region.binds .any g = true ∧ g.on = e := by
 unfold dirs
 rw [ho]
 simp only [List.mem_map, List.mem_filter, Array.mem_toList_iff]
 constructor
 ·rintro ⟨g, ⟨h1, h2⟩, h3⟩; exact ⟨g, h1, h2, h3⟩
 ·rintro ⟨g, h1, h2, h3⟩; exact ⟨g, ⟨h1, h2⟩, h3⟩
theorem getD_tf {listed : Array Bool} {j : Nat} (h : j < listed.size) (d d' : Bool) : listed.getD j d = listed.getD j d' := by
 simp [h]
def unl (listed : Array Bool) : Nat := listed.toList.countP (fun b => !b)
theorem unl_set {listed : Array Bool} {i : Nat} (hi : i < listed.size) (h : listed.getD i false = false) : unl (listed.setIfInBounds i true) + 1 = unl listed := by
 have hl : i < listed.toList.length := by simpa using hi
 have he : listed.toList[i] = false := by
  simpa [hi] using h
 have hp : 0 < listed.toList.countP (fun b => !b) := List.countP_pos_iff.2 ⟨false, by rw [← he]; exact List.getElem_mem hl, rfl⟩
 unfold unl
 rw [Array.toList_setIfInBounds, List.countP_set hl, he]
 simp only [Bool.not_false, if_true, Bool.not_true, Bool.false_eq_true, if_false]
 omega
theorem unl_zero {listed : Array Bool} (h : unl listed = 0) (j : Nat) (hj : j < listed.size) : listed.getD j false = true := by
 have := List.countP_eq_zero.1 h (listed.toList[j]'(by simpa using hj)) (List.getElem_mem _)
 simpa [hj] using this
theorem set_getD {listed : Array Bool} {i j : Nat} (hi : i < listed.size) : (listed.setIfInBounds i true).getD j false = true ↔ j = i ∨ listed.getD j false = true := by
 by_cases e : i = j
 ·subst e
  simp [hi]
 ·rw [getD_set_ne false e]
  constructor
  ·exact .inr
  ·rintro (h | h)
   ·exact absurd h.symm e
   ·exact h
theorem FrV.full {ds : List (Option Tmp)} {js es ps : List (List Nat)} {N : Nat} {a0 a : Act} {x : Nat → Value} {listed : Array Bool} (hok : Rely ops ds js es ps N) (h : FrV ops ds a0 x listed a) (hall : ∀ j, j < ops.size → listed.getD j false = true) :
  a = putsOf ds x a0 (List.range ops.size) := by
 have hz := putsOf_size ds x (List.range ops.size) a0
 refine act_ext ?_ (h.defers.trans hz.2.symm)
 apply Array.ext_getElem?
 intro t
 by_cases ht : t < a0.tmps.size
 ·by_cases hex : ∃ j, j < ops.size ∧ ds.getD j none = some t
  ·obtain ⟨j, hj, hd⟩ := hex
   rw [h.put j t hj (hall j hj) hd ht]
   exact (putsOf_new ds x t j _ a0 (fun k hk e => hok.one k j t (List.mem_range.1 hk) hj hd e) (List.mem_range.2 hj) hd ht).symm
  ·rw [h.old t (fun j hj _ e => hex ⟨j, hj, e⟩)]
   exact (putsOf_old ds x t _ a0 (fun j hj e => hex ⟨j, List.mem_range.1 hj, e⟩)).symm
 ·rw [Array.getElem?_eq_none (by rw [h.size]; omega), Array.getElem?_eq_none (by rw [hz.1]; omega)]
theorem FrV.step {ds : List (Option Tmp)} {js es ps : List (List Nat)} {N : Nat} {a0 a : Act} {x : Nat → Value} {listed : Array Bool} {i : Nat} {v : Value} (hok : Rely ops ds js es ps N) (h : FrV ops ds a0 x listed a) (hi : i < ops.size) (hs : listed.size = ops.size) (hu : listed.getD i false = false) :
  FrV ops ds a0 (fun j => if j = i then v else x j) (listed.setIfInBounds i true) (a.put (ds.getD i none) v) := by
 refine ⟨(put_tmps _ _ _).1.trans h.size, (put_tmps _ _ _).2.trans h.defers, fun j t hj hl hd ht => ?_, fun t hn => ?_⟩
 ·rw [put_get]
  by_cases e : j = i
  ·subst e
   rw [if_pos ⟨hd, by rw [h.size]; exact ht⟩, if_pos rfl]
  ·rw [if_neg (fun e2 => e (hok.one j i t hj hi e2.1 hd)), if_neg e]
   exact h.put j t hj (((set_getD (by omega)).1 hl).resolve_left e) hd ht
 ·rw [put_get, if_neg (fun e => hn i hi ((set_getD (by omega)).2 (.inl rfl)) e.1)]
  exact h.old t (fun j hj hl => hn j hj ((set_getD (by omega)).2 (.inr hl)))
end
section
variable {P : Program} {ops : Array Oper}
def updX (x : Nat → Value) (i : Nat) (v : Value) : Nat → Value := fun j => if j = i then v else x j
def updL (L : Nat → Bool) (i : Nat) : Nat → Bool := fun j => (j == i) || L j
theorem updL_set {listed : Array Bool} {i : Nat} (hi : i < listed.size) : updL (fun k => listed.getD k false) i = fun k => (listed.setIfInBounds i true).getD k false := by
 funext k
 unfold updL
 rw [Bool.eq_iff_iff, Bool.or_eq_true, beq_iff_eq, set_getD hi]
theorem none_listed {n : Nat} : (fun k => (Array.replicate n false).getD k false) = fun _ => false := by
 funext k
 by_cases h : k < n
 ·simp [h]
 ·simp [h]
def AllPX (V : Nat → Value → World → Prop) (x : Nat → Value) (L : Nat → Bool) (w w' : World) : List Nat → Prop
 | [] => True
 | j :: l => ((j < ops.size → L j = true) → V j (x j) w → V j (x j) w') ∧ AllPX V x L w w' l
theorem AllPX.get {V : Nat → Value → World → Prop} {x : Nat → Value} {L : Nat → Bool} {w w' : World} : ∀ {l : List Nat}, AllPX (ops := ops) V x L w w' l → ∀ j ∈ l, (j < ops.size → L j = true) → V j (x j) w → V j (x j) w'
 | [], _, _, h => by cases h
 | k :: l, h, j, hj => by
  rcases List.mem_cons.1 hj with rfl | hj
  ·exact h.1
  ·exact h.2.get j hj
theorem AllPX.same {V : Nat → Value → World → Prop} {x : Nat → Value} {L : Nat → Bool} {w : World} : ∀ (l : List Nat), AllPX (ops := ops) V x L w w l
 | [] => trivial
 | _ :: l => ⟨fun _ h => h, AllPX.same l⟩
theorem AllPX.of {V : Nat → Value → World → Prop} {x : Nat → Value} {L : Nat → Bool} {w w' : World} : ∀ (l : List Nat), (∀ j ∈ l, (j < ops.size → L j = true) → V j (x j) w → V j (x j) w') → AllPX (ops := ops) V x L w w' l
 | [], _ => trivial
 | k :: l, h => ⟨h k List.mem_cons_self, AllPX.of l (fun j hj => h j (List.mem_cons_of_mem _ hj))⟩
theorem wpAny_relyx {ds : List (Option Tmp)} {js es ps : List (List Nat)} {N : Nat} {Q : Exit → Act → World → Prop} {a0 : Act} {S : (Nat → Value) → (Nat → Bool) → World → Prop} {V : Nat → Value → World → Prop} (hok : Rely ops ds js es ps N)
  (hjs : ∀ i j, i < ops.size → j ∈ js.getD i [] → j < N) (hstep : ∀ i, i < ops.size → ∀ (x : Nat → Value) (L : Nat → Bool) (w : World), S x L w → L i = false → AllV V x w (js.getD i []) → (∀ e ∈ dirs ops i, L e = true) →
   StepV P ops i (putsOf ds x a0 (js.getD i [])) w (fun v w' => S (updX x i v) (updL L i) w' ∧ V i v w' ∧ AllPX (ops := ops) V x L w w' (ps.getD i [])))
  (hend : ∀ (x : Nat → Value) (L : Nat → Bool) (w : World), S x L w → (∀ j, j < ops.size → L j = true) → (∀ j, j < N → (∀ i, i < ops.size → j ∉ es.getD i []) → V j (x j) w) → Q .normal (putsOf ds x a0 (List.range ops.size)) w) :
  ∀ (fuel : Nat) (listed : Array Bool) (a : Act) (x : Nat → Value) (w : World), listed.size = ops.size → (∀ j, j < ops.size → listed.getD j false = true → ∀ e ∈ dirs ops j, listed.getD e false = true) → unl listed ≤ fuel → S x (fun k => listed.getD k false) w →
   (∀ j, j < N → (j < ops.size → listed.getD j false = true) → (∀ i, i < ops.size → listed.getD i false = true → j ∉ es.getD i []) → V j (x j) w) → FrV ops ds a0 x listed a → wpAny P .any ops Q fuel listed a w := by
 have hfin : ∀ (listed : Array Bool) (a : Act) (x : Nat → Value) (w : World), S x (fun k => listed.getD k false) w → (∀ j, j < ops.size → listed.getD j false = true) →
   (∀ j, j < N → (j < ops.size → listed.getD j false = true) → (∀ i, i < ops.size → listed.getD i false = true → j ∉ es.getD i []) → V j (x j) w) → FrV ops ds a0 x listed a → Q .normal a w := by
  intro listed a x w hS hall hV hF
  rw [hF.full hok hall]
  exact hend x _ w hS hall (fun j hj hn => hV j hj (hall j) (fun i hi _ => hn i hi))
 intro fuel
 induction fuel with
 | zero =>
  intro listed a x w hsz hdc hu hS hV hF
  have hall : ∀ j, j < ops.size → listed.getD j false = true := fun j hj => unl_zero (by omega) j (by omega)
  refine ⟨?_, hfin listed a x w hS hall hV hF⟩
  cases hr : Region.ready .any ops listed with
  | nil => rfl
  | cons i rs =>
   exfalso
   have hm : i ∈ Region.ready .any ops listed := by rw [hr]; exact List.mem_cons_self
   obtain ⟨h0, o, ho, _⟩ := mem_ready.1 hm
   have hi := (Array.getElem?_eq_some_iff.1 ho).1
   have := hall i hi
   rw [getD_tf (by omega) false true, h0] at this
   cases this
 | succ fuel ih =>
  intro listed a x w hsz hdc hu hS hV hF
  refine ⟨fun hr => hfin listed a x w hS ?_ hV hF, fun i hi => ?_⟩
  ·intro j
   induction j using Nat.strongRecOn with
   | ind j ihj =>
    intro hj
    cases hl : listed.getD j false with
    | true => rfl
    | false =>
     exfalso
     have hm : j ∈ Region.ready .any ops listed := by
      refine mem_ready.2 ⟨by rw [getD_tf (by omega) true false]; exact hl, ops[j], Array.getElem?_eq_getElem hj, fun e he hb => ?_⟩
      have hd := (dirs_mem (Array.getElem?_eq_getElem hj)).2 ⟨e, he, hb, rfl⟩
      have hlt := hok.back j e.on hj hd
      exact ihj e.on hlt (by omega)
     rw [hr] at hm
     cases hm
  ·obtain ⟨h0, o, ho, hall⟩ := mem_ready.1 hi
   have hin := (Array.getElem?_eq_some_iff.1 ho).1
   have hun : listed.getD i false = false := by rw [getD_tf (by omega) false true]; exact h0
   have hdi : ∀ e ∈ dirs ops i, listed.getD e false = true := fun e he => by
    obtain ⟨g, h1, h2, h3⟩ := (dirs_mem ho).1 he
    rw [← h3]; exact hall g h1 h2
   have hdl : ∀ e ∈ dirs ops i, e < ops.size := fun e he => Nat.lt_trans (hok.back i e hin he) hin
   have hds : o.dst = ds.getD i none := by
    rw [hok.ds_, List.getD_eq_getElem?_getD, List.getElem?_map, Array.getElem?_toList, ho]; rfl
   have hpre : ∀ j ∈ js.getD i [], V j (x j) w := fun j hj => by
    have hjd := hok.sub i j hin hj
    refine hV j (hjs i j hin hj) (fun hjn => hdi j (hjd.resolve_right (by omega))) (fun k hk hkl hjk => ?_)
    rcases hok.eats i k j hin hk hjk hj with e | e
    ·subst e
     rw [hun] at hkl; cases hkl
    ·have := hdc k hk hkl i e
     rw [hun] at this; cases this
   have hst := hstep i hin x _ w hS hun (AllV.of _ hpre) hdi
   have hz := putsOf_size ds x (js.getD i []) a0
   have hmv := StepV.move (Q := Q) (a := a) ho (Region.noSelect_spec hok.sel i o · · ho) (hF.size.trans hz.1.symm) (fun t ht => ?_) hst
   ·refine wpOp_mono (fun a' w' h => ?_) hmv
    obtain ⟨v, rfl, hS', hVi, hpr⟩ := h
    rw [hds]
    refine ih (listed.setIfInBounds i true) _ (fun j => if j = i then v else x j) w' (by simpa using hsz) ?_ ?_ (by rw [updL_set (by omega)] at hS'; exact hS') ?_ (hF.step hok hin hsz hun)
    ·intro j hj hl e he
     refine (set_getD (by omega)).2 (.inr ?_)
     rcases (set_getD (by omega)).1 hl with e2 | e2
     ·subst e2; exact hdi e he
     ·exact hdc j hj e2 e he
    ·have := unl_set (by omega) hun
     omega
    ·intro j hjN hl hn
     by_cases e : j = i
     ·subst e
      simpa using hVi
     ·simp only [if_neg e]
      have hps : j ∈ ps.getD i [] := by
       rcases hok.pres i j hin hjN with e2 | e2 | e2 | e2 | ⟨k, hk, e2⟩
       ·exact absurd e2.symm e
       ·exact e2
       ·exact absurd e2 (hn i hin ((set_getD (by omega)).2 (.inl rfl)))
       ·exfalso
        by_cases hjn : j < ops.size
        ·have := hdc j hjn (((set_getD (by omega)).1 (hl hjn)).resolve_left e) i e2
         rw [hun] at this; cases this
        ·unfold dirs at e2
         rw [Array.getElem?_eq_none (by omega)] at e2
         cases e2
       ·exact absurd e2 (hn k (hdl k hk) ((set_getD (by omega)).2 (.inr (hdi k hk))))
      refine hpr.get j hps (fun hjo => ?_) ?_
      ·exact ((set_getD (by omega)).1 (hl hjo)).resolve_left e
      exact hV j hjN (fun hj => ((set_getD (by omega)).1 (hl hj)).resolve_left e) (fun k hk hkl => hn k hk ((set_getD (by omega)).2 (.inr hkl)))
   ·have hnone : ∀ k, ops.size ≤ k → ds.getD k none = none := fun k hk => by
     rw [List.getD_eq_getElem?_getD, List.getElem?_eq_none (by rw [hok.ds_]; simpa using hk)]; rfl
    have hget : (ops.getD i default) = o := by
     rw [Array.getD_eq_getD_getElem?, ho]; rfl
    by_cases hsz2 : t < a0.tmps.size
    ·by_cases hex : ∃ j, j < ops.size ∧ listed.getD j false = true ∧ ds.getD j none = some t
     ·obtain ⟨j, hj, hl, hd⟩ := hex
      rw [hF.put j t hj hl hd hsz2]
      rcases hok.looks i j t hin hj hd (by rw [hget]; exact ht) with e | e | e
      ·subst e; rw [hun] at hl; cases hl
      ·refine (putsOf_new ds x t j _ a0 (fun k hk e2 => ?_) e hd hsz2).symm
       rcases hok.sub i k hin hk with e3 | e3
       ·exact hok.one k j t (hdl k e3) hj hd e2
       ·rw [hnone k e3] at e2; cases e2
      ·have := hdc j hj hl i e
       rw [hun] at this; cases this
     ·rw [hF.old t (fun j hj hl e => hex ⟨j, hj, hl, e⟩)]
      refine (putsOf_old ds x t _ a0 (fun j hj e => ?_)).symm
      rcases hok.sub i j hin hj with e3 | e3
      ·exact hex ⟨j, hdl j e3, hdi j e3, e⟩
      ·rw [hnone j e3] at e; cases e
    ·rw [Array.getElem?_eq_none (by rw [hF.size]; exact Nat.le_of_not_lt hsz2), Array.getElem?_eq_none (by rw [hz.1]; exact Nat.le_of_not_lt hsz2)]
def RelyStepX (P : Program) (ops : Array Oper) (ds : List (Option Tmp)) (js ps : List (List Nat)) (a0 : Act) (S : (Nat → Value) → (Nat → Bool) → World → Prop) (V : Nat → Value → World → Prop) (i : Nat) : Prop :=
 ∀ (x : Nat → Value) (L : Nat → Bool) (w : World), S x L w → L i = false → AllV V x w (js.getD i []) → (∀ e ∈ dirs ops i, L e = true) → StepV P ops i (putsOf ds x a0 (js.getD i [])) w (fun v w' => S (updX x i v) (updL L i) w' ∧ V i v w' ∧ AllPX (ops := ops) V x L w w' (ps.getD i []))
def RelyStepsX (P : Program) (ops : Array Oper) (ds : List (Option Tmp)) (js ps : List (List Nat)) (a0 : Act) (S : (Nat → Value) → (Nat → Bool) → World → Prop) (V : Nat → Value → World → Prop) (is : List Nat) : Prop :=
 ∀ i ∈ is, RelyStepX P ops ds js ps a0 S V i
theorem RelyStepsX.nil {ds : List (Option Tmp)} {js ps : List (List Nat)} {a0 : Act} {S : (Nat → Value) → (Nat → Bool) → World → Prop} {V : Nat → Value → World → Prop} : RelyStepsX P ops ds js ps a0 S V [] := fun _ h => by cases h
theorem RelyStepsX.cons {ds : List (Option Tmp)} {js ps : List (List Nat)} {a0 : Act} {S : (Nat → Value) → (Nat → Bool) → World → Prop} {V : Nat → Value → World → Prop} {i : Nat} {is : List Nat} (h : RelyStepX P ops ds js ps a0 S V i)
  (hs : RelyStepsX P ops ds js ps a0 S V is) : RelyStepsX P ops ds js ps a0 S V (i :: is) := fun k hk => by
 rcases List.mem_cons.1 hk with rfl | hk
 ·exact h
 ·exact hs k hk
theorem RelyStepX.mk {ds : List (Option Tmp)} {js ps : List (List Nat)} {a0 : Act} {S : (Nat → Value) → (Nat → Bool) → World → Prop} {V : Nat → Value → World → Prop} {i : Nat} {o : Oper} (J K : List Nat) (ho : ops[i]? = some o) (hJ : js.getD i [] = J) (hK : ps.getD i [] = K)
  (h : ∀ (x : Nat → Value) (L : Nat → Bool) (w : World), S x L w → L i = false → (∀ e ∈ dirs ops i, L e = true) → AllV V x w J → ∀ (b : Act), b = putsOf ds x a0 J → ∀ K' : Act → World → Prop, Shut (∀ a' w', (∃ v, a' = b.put o.dst v ∧ S (updX x i v) (updL L i) w' ∧ V i v w' ∧ AllPX (ops := ops) V x L w w' K) → K' a' w') →
   if Region.wanted o (yielded ops b.tmps) = true then Oper.wp P o b w K' QF else K' (b.put o.dst undef) w) : RelyStepX P ops ds js ps a0 S V i := by
 intro x L w hS hL hV hd
 rw [hJ] at hV ⊢
 rw [hK]
 exact StepV.mk ho (fun K' hK' => h x L w hS hL hd hV _ rfl K' hK')
theorem wp_region_relyx {id : Nat} {a0 : Act} {w : World} {Q : Exit → Act → World → Prop} (S : (Nat → Value) → (Nat → Bool) → World → Prop) (V : Nat → Value → World → Prop) (ds : List (Option Tmp)) (js es ps : List (List Nat)) (is : List Nat) (N : Nat) (hm : P.follows .mixedOrders = true)
  (hok : relyB ops ds js es ps N = true) (hjs : js.all (fun l => l.all (fun j => decide (j < N))) = true) (his : List.range ops.size = is) (hS : S (fun _ => undef) (fun _ => false) w.drew) (hI : ∀ j, j < N → ops.size ≤ j → V j undef w.drew) (hsteps : RelyStepsX P ops ds js ps a0 S V is)
  (hend : ∀ (x : Nat → Value) (L : Nat → Bool) (w : World), S x L w → (∀ j, j < ops.size → L j = true) → (∀ j, j < N → (is.all fun i => !(es.getD i []).contains j) = true → V j (x j) w) → Q .normal (putsOf ds x a0 is) w) : (Code.region id ops true).wp P Q a0 w := by
 subst his
 have hjs2 : ∀ i j, i < ops.size → j ∈ js.getD i [] → j < N := fun i j _ hj => by
  rw [List.getD_eq_getElem?_getD] at hj
  cases hg : js[i]? with
  | none => rw [hg] at hj; cases hj
  | some l =>
   rw [hg] at hj
   have := List.all_eq_true.1 (List.all_eq_true.1 hjs l (List.mem_of_getElem? hg)) j hj
   simpa using this
 refine wp_region_any hm (wpAny_relyx (Rely.of hok) hjs2 (fun i hi => hsteps i (List.mem_range.2 hi)) (fun x L w h1 hL h2 => hend x L w h1 hL (fun j hj hn => h2 j hj (fun i hi hc => ?_))) ops.size _ a0 (fun _ => undef) _ (by simp) (fun j hj h => ?_) ?_ (by rw [none_listed]; exact hS) (fun j hj h hn => ?_) ⟨rfl, rfl, fun j t hj h => ?_, fun _ _ => rfl⟩)
 ·have := List.all_eq_true.1 hn i (List.mem_range.2 hi)
  rw [List.contains_iff_mem.2 hc] at this
  cases this
 ·simp [hj] at h
 ·unfold unl
  refine Nat.le_trans List.countP_le_length (by simp)
 ·refine hI j hj (Nat.le_of_not_lt fun hj => ?_)
  have := h hj
  simp [hj] at this
 ·simp [hj] at h
end
structure Bf where
 P : Value → World → Prop
 mono : ∀ u q q', Below q.heap.size q q' → P u q → P u q'
 lit : Bool
 free : lit = true → ∀ u q q', P u q → P u q'
def Bf.any : Bf := ⟨fun _ _ => True, fun _ _ _ _ _ => trivial, true, fun _ _ _ _ _ => trivial⟩
def Bf.eq (v : Value) : Bf := ⟨fun u _ => u = v, fun _ _ _ _ h => h, true, fun _ _ _ _ h => h⟩
def Bf.own (N : Nat) (e : TypeId) (sz n : Nat) (xs : List Value) : Bf := ⟨fun u q => q.ownsRow N e sz u n xs, fun _ _ _ b h => owns_kept h (Kept.of_below b) (fun _ _ _ _ hf => hf), false, fun h => nomatch h⟩
def Bf.of (P : Value → World → Prop) (h : ∀ u q q', Below q.heap.size q q' → P u q → P u q') : Bf := ⟨P, h, false, fun h => nomatch h⟩
def bfV (fs : List Bf) (j : Nat) (u : Value) (q : World) : Prop := (fs.getD j .any).P u q
section
variable {fs : List Bf} {j : Nat} {u : Value} {q q' : World}
theorem bfV_below (hb : Below q.heap.size q q') (h : bfV fs j u q) : bfV fs j u q' := (fs.getD j .any).mono _ _ _ hb h
theorem bfV_lit {l : List Nat} (hl : l.all (fun j => (fs.getD j .any).lit) = true) (hj : j ∈ l) (h : bfV fs j u q) : bfV fs j u q' := (fs.getD j .any).free (List.all_eq_true.1 hl j hj) _ _ _ h
end
def PuS (w9 : World) (vt : Value) (F o ia it : Nat) (all pre : List Nat) (R : Value → World → Prop) (x : Nat → Value) (L : Nat → Bool) (q : World) : Prop :=
 ∃ q1, (L it = false → q = q1) ∧ (L it = true → q = q1.setCell ⟨F, o, none⟩ (x ia) ∧ ∀ j ∈ all, L j = true) ∧ Kept (fun k => vt.ownBlock = some k) w9 q1 ∧ (L ia = false → Below w9.heap.size w9 q1) ∧ (L ia = true → R (x ia) q1 ∧ ∀ j ∈ pre, L j = true)
section
variable {w9 : World} {vt v : Value} {F o ia it : Nat} {all pre : List Nat} {R : Value → World → Prop} {x : Nat → Value} {L : Nat → Bool} {q q' : World} {i : Nat}
theorem pupdL_ne {k : Nat} (h : k ≠ i) : updL L i k = L k := by unfold updL; simp [h]
theorem pupdL_self : updL L i i = true := by unfold updL; simp
theorem pupdX_ne {k : Nat} (h : k ≠ i) : updX x i v k = x k := if_neg h
theorem pupdX_self : updX x i v i = v := if_pos rfl
theorem pupdL_le {k : Nat} (h : L k = true) : updL L i k = true := by unfold updL; simp [h]
theorem pu_start : PuS w9 vt F o ia it all pre R x (fun _ => false) (w9.drewN 1) := ⟨_, fun _ => rfl, fun h => (Bool.false_ne_true h).elim, Kept.drewN _ _ _, fun _ => below_drewN (Below.refl _ _) 1, fun h => (Bool.false_ne_true h).elim⟩
theorem pu_no (h : PuS w9 vt F o ia it all pre R x L q) (hL : L i = false) (hi : all.contains i = true) : L it = false := by
 obtain ⟨q1, _, h2, _⟩ := h
 by_cases h16 : L it = true
 ·have := (h2 h16).2 i (List.contains_iff_mem.1 hi)
  rw [hL] at this; exact (Bool.false_ne_true this).elim
 ·exact Bool.eq_false_iff.2 h16
theorem pu_op (hi : (i != it && i != ia) = true) (h : PuS w9 vt F o ia it all pre R x L q) (hL : L i = false := by assumption) : PuS w9 vt F o ia it all pre R (updX x i v) (updL L i) q := by
 rw [Bool.and_eq_true, bne_iff_ne, bne_iff_ne] at hi
 obtain ⟨q1, h1, h2, h3, h4, h5⟩ := h
 refine ⟨q1, fun e => h1 ?_, fun e => ?_, h3, fun e => h4 ?_, fun e => ?_⟩
 ·rwa [pupdL_ne (Ne.symm hi.1)] at e
 ·rw [pupdL_ne (Ne.symm hi.1)] at e
  rw [pupdX_ne (Ne.symm hi.2)]; exact ⟨(h2 e).1, fun j hj => pupdL_le ((h2 e).2 j hj)⟩
 ·rwa [pupdL_ne (Ne.symm hi.2)] at e
 ·rw [pupdL_ne (Ne.symm hi.2)] at e
  rw [pupdX_ne (Ne.symm hi.2)]; exact ⟨(h5 e).1, fun j hj => pupdL_le ((h5 e).2 j hj)⟩
theorem pu_bel (h : PuS w9 vt F o ia it all pre R x L q) (hL : L ia = false) (hi : all.contains ia = true) : Below w9.heap.size w9 q := by
 have h16 := pu_no h hL hi
 obtain ⟨q1, h1, _, _, h4, _⟩ := h
 rw [h1 h16]; exact h4 hL
theorem pu_at (h : PuS w9 vt F o ia it all pre R x L q) (hL : L i = false) (hi : all.contains i = true) : Kept (fun k => vt.ownBlock = some k) w9 q := by
 have h16 := pu_no h hL hi
 obtain ⟨q1, h1, _, h3, _⟩ := h
 rw [h1 h16]; exact h3
theorem pu_not (h : PuS w9 vt F o ia it all pre R x L q) (hi : pre.contains i = true) (hL : L i = false) : L ia = false := by
 by_cases ha : L ia = true
 ·obtain ⟨q1, _, _, _, _, h5⟩ := h
  have := (h5 ha).2 i (List.contains_iff_mem.1 hi)
  rw [hL] at this; exact (Bool.false_ne_true this).elim
 ·exact Bool.eq_false_iff.2 ha
theorem pu_more (hi : (i != it && (i != ia && (all.contains ia && pre.contains i))) = true) (h : PuS w9 vt F o ia it all pre R x L q) (hb : Below q.heap.size q q') (hL : L i = false := by assumption) : PuS w9 vt F o ia it all pre R (updX x i v) (updL L i) q' := by
 rw [Bool.and_eq_true, bne_iff_ne, Bool.and_eq_true, bne_iff_ne, Bool.and_eq_true] at hi
 have hA := pu_not h hi.2.2.2 hL
 have h16 := pu_no h hA hi.2.2.1
 have hbl := pu_bel h hA hi.2.2.1
 have hbq := then_ hbl hb
 refine ⟨q', fun _ => rfl, fun e => ?_, (Kept.of_below hbq).mono (fun _ _ (hx : False) => hx.elim), fun _ => hbq, fun e => ?_⟩
 ·rw [pupdL_ne (Ne.symm hi.1), h16] at e; exact (Bool.false_ne_true e).elim
 ·rw [pupdL_ne (Ne.symm hi.2.1), hA] at e; exact (Bool.false_ne_true e).elim
theorem pu_app (hi : (ia != it && all.contains ia) = true) (h : PuS w9 vt F o ia it all pre R x L q) (hk : Kept (fun k => vt.ownBlock = some k) q q') (hv : R v q') (hp : ∀ j ∈ pre, L j = true) (hL : L ia = false := by assumption) : PuS w9 vt F o ia it all pre R (updX x ia v) (updL L ia) q' := by
 rw [Bool.and_eq_true, bne_iff_ne] at hi
 have h16 := pu_no h hL hi.2
 have hb := pu_bel h hL hi.2
 refine ⟨q', fun _ => rfl, fun e => ?_, ((Kept.of_below hb).mono (fun _ _ (hx : False) => hx.elim)).trans hk (fun _ _ h => h), fun e => ?_, fun _ => ?_⟩
 ·rw [pupdL_ne (Ne.symm hi.1), h16] at e; exact (Bool.false_ne_true e).elim
 ·rw [pupdL_self] at e; exact (Bool.false_ne_true e.symm).elim
 ·rw [pupdX_self]; exact ⟨hv, fun j hj => pupdL_le (hp j hj)⟩
theorem pu_store (hi : (ia != it && all.contains ia) = true) (h : PuS w9 vt F o ia it all pre R x L q) (hall : ∀ j ∈ all, L j = true) (hL : L it = false := by assumption) : PuS w9 vt F o ia it all pre R (updX x it v) (updL L it) (q.setCell ⟨F, o, none⟩ (x ia)) := by
 rw [Bool.and_eq_true, bne_iff_ne] at hi
 have h10 := hall ia (List.contains_iff_mem.1 hi.2)
 obtain ⟨q1, h1, _, h3, _, h5⟩ := h
 have e := h1 hL
 subst e
 refine ⟨q, fun e => ?_, fun _ => ⟨by rw [pupdX_ne hi.1], fun j hj => pupdL_le (hall j hj)⟩, h3, fun e => ?_, fun _ => ?_⟩
 ·rw [pupdL_self] at e; exact (Bool.false_ne_true e.symm).elim
 ·rw [pupdL_ne hi.1, h10] at e; exact (Bool.false_ne_true e.symm).elim
 ·have h6 := h5 h10
  rw [pupdX_ne hi.1]; exact ⟨h6.1, fun j hj => pupdL_le (h6.2 j hj)⟩
theorem pu_st (h : PuS w9 vt F o ia it all pre R x L q) (hL : L it = false) (hA : L ia = true) : Kept (fun k => vt.ownBlock = some k) w9 q ∧ R (x ia) q := by
 obtain ⟨q1, h1, _, h3, _, h5⟩ := h
 have e := h1 hL
 subst e
 exact ⟨h3, (h5 hA).1⟩
theorem pu_end (h : PuS w9 vt F o ia it all pre R x L q) (h1 : L ia = true) (h2 : L it = true) : ∃ q1, q = q1.setCell ⟨F, o, none⟩ (x ia) ∧ Kept (fun k => vt.ownBlock = some k) w9 q1 ∧ R (x ia) q1 := by
 obtain ⟨q1, _, h3, h4, _, h5⟩ := h
 exact ⟨q1, (h3 h2).1, h4, (h5 h1).1⟩
end
end Go.Proofs.YtcpgneimagmknaaGreatDoor
