/-
  The bounded log: what is got.
-/
import Derived.Test.YtflaaogopcgdaaaMd
import Derived.Deep.CutBlock
namespace Go.Proofs.Ytflaaogopcgdaaa
open Go.RowKit
set_option linter.unusedVariables false
set_option linter.unusedSimpArgs false
def leastG (G : List Nat) : Nat := G.foldl min (G.getD 0 0)
def dropM (M : Md) : Md := { M with L := M.L.drop (leastG M.G - M.p), p := leastG M.G }
theorem foldl_min_leG (l : List Nat) : ∀ a, l.foldl min a ≤ a := by
  induction l with
  | nil => intro a; exact Nat.le_refl _
  | cons b l ih => intro a; exact Nat.le_trans (ih _) (Nat.min_le_left _ _)
theorem foldl_min_memG (l : List Nat) : ∀ a, ∀ x ∈ l, l.foldl min a ≤ x := by
  induction l with
  | nil => intro a x hx; cases hx
  | cons b l ih =>
    intro a x hx
    rw [List.foldl_cons]
    rcases List.mem_cons.1 hx with rfl | hx
    · exact Nat.le_trans (foldl_min_leG _ _) (Nat.min_le_right _ _)
    · exact ih _ x hx
theorem foldl_min_inG (l : List Nat) : ∀ a, l.foldl min a = a ∨ l.foldl min a ∈ l := by
  induction l with
  | nil => intro a; exact .inl rfl
  | cons b l ih =>
    intro a
    rw [List.foldl_cons]
    rcases ih (min a b) with h | h
    · rw [h]
      rcases Nat.le_total a b with hab | hab
      · left; exact Nat.min_eq_left hab
      · right; rw [Nat.min_eq_right hab]; exact List.mem_cons_self
    · right; exact List.mem_cons_of_mem _ h
theorem leastG_in {G : List Nat} (h : 1 ≤ G.length) : leastG G ∈ G := by
  have h0 : G.getD 0 0 ∈ G := by rw [List.mem_iff_getElem?]; exact ⟨0, by rw [List.getD_eq_getElem?_getD, List.getElem?_eq_getElem (by omega)]; rfl⟩
  rcases foldl_min_inG G (G.getD 0 0) with e | e
  · unfold leastG; rw [e]; exact h0
  · exact e
theorem leastG_le {G : List Nat} {x : Nat} (h : x ∈ G) : leastG G ≤ x := foldl_min_memG _ _ x h
theorem MdOk.drop {M : Md} (h : MdOk M) : MdOk (dropM M) := by
  obtain ⟨o1, o2, o3, o4, o5, o6, o7⟩ := h
  obtain ⟨l1, l2⟩ := o6 _ (leastG_in o3)
  unfold dropM
  refine ⟨o1, o2, o3, o4, by simp only [List.length_drop]; omega, fun x hx => ?_, by simp only [List.length_drop]; omega⟩
  have := leastG_le hx
  have := o6 x hx
  simp only [List.length_drop] at *
  omega
section
variable {w w' : World} {B g gb : Nat} {vb : Option Nat} {M : Md}
theorem cut_block {A : Option Addr} {n c k n' c' : Nat} : (Value.slice (if c = k then A else A.map (fun x => x.add k)) n' c').ownBlock = (Value.slice A n c).ownBlock := by
  by_cases h : c = k
  · rw [if_pos h]; cases A <;> rfl
  · rw [if_neg h]
    cases A with
    | none => rfl
    | some a => simp only [Option.map_some, Value.ownBlock]; unfold Addr.add; split <;> rfl
set_option maxHeartbeats 2000000 in
theorem mdDrop (h : MdAt w B g gb vb M) :
    Calls Try.prog 28 #[.pointer (some ⟨g, 0, none⟩)] w fun e w' => e = .returned (.tuple #[]) ∧ MdAt w' B g gb vb (dropM M) ∧ Kept (oneRow g) w w' := by
  obtain ⟨hok, a2, a3, a4, a5, a6, A, c, cg, hl, ho, hg, rfl⟩ := h
  have b3 := hok.2.2.2.2.2.2
  have b4 := hok.2.2.2.2.1
  have b5 := hok.2.2.2.1
  have b7 := hok.2.2.1
  have b6 := hok.2.1
  obtain ⟨l1, l2⟩ := hok.2.2.2.2.2.1 _ (leastG_in hok.2.2.1)
  have c2 := (hl.cell 2).trans (show _ = some (Value.int .u64 (M.p : Int)) from rfl)
  have c3 := (hl.cell 3).trans (show _ = some (Value.slice A M.L.length c) from rfl)
  have c4 := (hl.cell 4).trans (show _ = some (Value.slice (some ⟨gb, 0, none⟩) M.G.length cg) from rfl)
  have hlt := hl.lt
  obtain ⟨x0, hx0⟩ : ∃ x, M.G[0]? = some x := ⟨_, List.getElem?_eq_getElem (by omega)⟩
  have cg0 := owns_cell hg (cells64_get hx0)
  have HLS : Hid (leastG M.G = M.G.foldl min x0) := by show _ = _; unfold leastG; rw [List.getD_eq_getElem?_getD, hx0]; rfl
  have hg00 : (0 : Int) < (M.G.length : Int) := by omega
  obtain ⟨A', c', e, hcc, hcm⟩ := ho.form
  simp only [Value.slice.injEq, true_and] at e
  obtain ⟨rfl, rfl⟩ := e
  have hcut := ho.cut (leastG M.G - M.p) (by omega)
  rw [vals_drop] at hcut
  have hws : IntKind.u64.wrap ((leastG M.G : Int) - (M.p : Int)) = ((leastG M.G - M.p : Nat) : Int) := by rw [IntKind.wrap_u64]; omega
  have HDR : Hid (dropM M = { M with L := M.L.drop (leastG M.G - M.p), p := leastG M.G }) := rfl
  have HOK := Lib.hid hok.drop
  obtain ⟨d, hd⟩ : ∃ d, leastG M.G - M.p = d := ⟨_, rfl⟩
  have hdl : d ≤ M.L.length := by omega
  have hcb : (Value.slice (if c = d then A else A.map (fun x => x.add d)) (M.L.length - d) (c - d)).ownBlock = (Value.slice A M.L.length c).ownBlock := cut_block
  rw [hd] at hcut hws HDR
  obtain ⟨A5, hA5⟩ : ∃ A5, (if c = d then A else A.map (fun x => x.add d)) = A5 := ⟨_, rfl⟩
  rw [hA5] at hcut hcb
  unfold maxLen at hcm
  have HO := Lib.hid hcut
  have HL := Lib.hid hl
  have HG := Lib.hid hg
  have HCB := Lib.hid hcb
  have A5' := Lib.hid a5
  have A6' := Lib.hid a6
  clear ho hl hg hok hcut hcb hx0 hd a5 a6
  go_enter Try.func28, Try.ntmps28
  go_wp2
  go_loopw [2, 16] (fun x u wr => ∃ k : Nat, k ≤ M.G.length ∧ u = .int .i64 k ∧ x = .int .u64 ((M.G.take k).foldl min x0 : Nat) ∧ wr = w) (fun _ u _ => M.G.length - (intOf u).toNat)
  case atStart => exact ⟨0, by omega, rfl, rfl, rfl⟩
  case round =>
    obtain ⟨k, hk, rfl, rfl, rfl⟩ := hrel
    by_cases hlt2 : k < M.G.length
    · have hki : (k : Int) < (M.G.length : Int) := by omega
      obtain ⟨x, hx⟩ : ∃ x, M.G[k]? = some x := ⟨_, List.getElem?_eq_getElem hlt2⟩
      have cgk := owns_cell HG.out (cells64_get hx)
      have hnx : (M.G.take (k + 1)).foldl min x0 = min ((M.G.take k).foldl min x0) x := by rw [List.take_add_one, hx, Option.toList_some, List.foldl_append]; rfl
      have HNX := Lib.hid hnx
      clear hx hnx
      generalize (M.G.take k).foldl min x0 = m at *
      go_wp2
      go_roundw
      case rel => exact ⟨k + 1, by omega, by go_num, by rw [HNX.out]; congr 1; omega, trivial⟩
      case measure => simp [intOf]; omega
    · obtain rfl : k = M.G.length := by omega
      rw [List.take_of_length_le (Nat.le_refl _), ← HLS.out]
      have f3 := HL.out.free 3
      have f2 := HL.out.free 2
      have hk1 := Kept.put wr g 3 (.slice A5 (M.L.length - d) (c - d))
      have hk2 := Kept.put (wr.setCell ⟨g, 3, none⟩ (.slice A5 (M.L.length - d) (c - d))) g 2 (.int .u64 (leastG M.G : Int))
      have hkk := hk1.trans hk2 (fun _ _ h => h)
      have hl2 := (HL.out.put 3 (.slice A5 (M.L.length - d) (c - d))).put 2 (.int .u64 (leastG M.G : Int))
      have hne : (Value.slice A5 (M.L.length - d) (c - d)).ownBlock ≠ some g := by rw [HCB.out]; exact A5'.out
      have ho2 := HO.out.kept hkk (fun r e (hr : r = g) => by subst hr; exact hne e)
      have hg2 := owns_kept HG.out hkk (fun r cur e hl (hr : r = g) => by
        simp only [Value.ownBlock, Option.some.injEq] at e
        omega)
      have hst : MdAt ((wr.setCell ⟨g, 3, none⟩ (.slice A5 (M.L.length - d) (c - d))).setCell ⟨g, 2, none⟩ (.int .u64 (leastG M.G : Int))) B g gb (Value.slice A M.L.length c).ownBlock (dropM M) := by
        have hok := HOK.out
        rw [HDR.out] at hok ⊢
        have e1 : (M.L.drop d).length = M.L.length - d := List.length_drop
        refine ⟨hok, a2, a3, a4, A5'.out, A6'.out, A5, c - d, cg, ?_, ?_, hg2, ?_⟩
        · unfold mdV; simp only; rw [e1]; exact hl2
        · simp only; rw [e1]; exact ho2
        · simp only; rw [e1]; exact HCB.out
      have HST := Lib.hid (hst.later (below_drewN (Below.refl _ _) 1))
      have HKK := Lib.hid (hkk.trans (Kept.drewN (oneRow g) _ 1) (fun _ _ h => h))
      clear hst hkk hk1 hk2 hl2 hne ho2 hg2 HO HL HG HCB A5' A6' HDR HOK HLS cg0
      go_wp2_with fail
      go_region
      all_goals
        go_wp2
        go_end0
        exact ⟨rfl, HST.out, HKK.out⟩
/-! ## Get -/
def mgetE (M : Md) (j : Int) : Nat := if readsM M j = true then (if restM M j = [] then (if M.cl = true then 10 else 9) else 0) else 1
def mgetV (M : Md) (j : Int) : Int := if mgetE M j = 0 then (restM M j).headD 0 else 0
def stepG (M : Md) (j : Int) : Md := { M with G := M.G.set j.toNat (gotM M j + 1) }
def mgetM (M : Md) (j : Int) : Md := if mgetE M j = 0 then dropM (stepG M j) else M
theorem cells64_set (l : List Nat) (i x : Nat) : cells64 (l.set i x) = (cells64 l).set i (.int .u64 (x : Int)) := by unfold cells64; rw [List.map_set]
theorem MdOk.step {M : Md} (h : MdOk M) {j : Int} (hr : readsM M j = true) (hn : restM M j ≠ []) : MdOk (stepG M j) := by
  obtain ⟨o1, o2, o3, o4, o5, o6, o7⟩ := h
  obtain ⟨g1, g2⟩ := got_get hr
  obtain ⟨b1, b2⟩ := o6 _ (List.mem_of_getElem? g1)
  have h3 : gotM M j - M.p < M.L.length := by
    refine Nat.lt_of_not_le (fun h => hn ?_)
    unfold restM; exact List.drop_eq_nil_of_le h
  unfold stepG
  refine ⟨o1, o2, by simpa using o3, by simpa using o4, o5, fun x hx => ?_, o7⟩
  simp only at hx ⊢
  rcases List.mem_or_eq_of_mem_set hx with hx | rfl
  · exact o6 x hx
  · omega
set_option maxHeartbeats 2000000 in
theorem mdGet (j : Int) (h : MdAt w B g gb vb M) :
    Calls Try.prog 15 #[.pointer (some ⟨g, 0, none⟩), .int .i64 j] w fun e w' => e = .returned (.tuple #[.int .u64 (mgetV M j), .int .i64 (mgetE M j : Nat)]) ∧ MdStep w w' B g gb vb (mgetM M j) := by
  have HH := Lib.hid h
  have HRD := Lib.hid (mdReads j h)
  cases hr : readsM M j
  · have hE : mgetE M j = 1 := by unfold mgetE; rw [hr, if_neg (by decide)]
    have HV : Hid (mgetV M j = 0) := by show _ = _; unfold mgetV; rw [hE, if_neg (by decide)]
    have HM : Hid (mgetM M j = M) := by show _ = _; unfold mgetM; rw [hE, if_neg (by decide)]
    have HE := Lib.hid hE
    have HR := Lib.hid hr
    clear hE hr h
    go_enter Try.func15, Try.ntmps15
    go_wp2_with fail
    refine HRD.out.mono ?_
    rintro e w1 ⟨rfl, rfl⟩
    rw [HR.out]
    go_wp2
    go_ret2
    exact ⟨by rw [HE.out, HV.out]; rfl, by rw [HM.out]; exact .same HH.out (Below.refl _ _)⟩
  · have HR := Lib.hid hr
    have HRS := Lib.hid (mdRest j h hr)
    have HOK := Lib.hid h.1
    obtain ⟨g1, g2⟩ := got_get hr
    obtain ⟨hok, a2, a3, a4, a5, a6, A, c, cg, hl, ho, hg, hvb⟩ := h
    have c1 := (hl.cell 1).trans (show _ = some (Value.bool M.cl) from rfl)
    have hlt := hl.lt
    by_cases hn : restM M j = []
    · have HN : Hid ((restM M j).length = 0) := by show _ = _; rw [hn]; rfl
      have hE : mgetE M j = if M.cl = true then 10 else 9 := by unfold mgetE; rw [hr, if_pos rfl, if_pos hn]
      have hne : mgetE M j ≠ 0 := by rw [hE]; split <;> decide
      have HV : Hid (mgetV M j = 0) := by show _ = _; unfold mgetV; rw [if_neg hne]
      have HM : Hid (mgetM M j = M) := by show _ = _; unfold mgetM; rw [if_neg hne]
      have HE := Lib.hid hE
      clear hE hr hl ho hg hok hn g1 g2 hne a5 a6
      go_enter Try.func15, Try.ntmps15
      go_wp2_with fail
      refine HRD.out.mono ?_
      rintro e w1 ⟨rfl, rfl⟩
      rw [HR.out]
      go_wp2_with fail
      refine HRS.out.mono ?_
      rintro e w1 ⟨A1, c1', rfl, _, _, n, rfl⟩
      rw [HN.out]
      cases hcl : M.cl
      · rw [hcl] at c1
        have HE : Hid (mgetE M j = 9) := by show _ = _; rw [HE.out, hcl]; rfl
        clear hcl
        go_wp2
        go_ret2
        exact ⟨by rw [HE.out, HV.out]; rfl, by rw [HM.out]; exact .same HH.out (below_drewN (Below.refl _ _) n)⟩
      · rw [hcl] at c1
        have HE : Hid (mgetE M j = 10) := by show _ = _; rw [HE.out, hcl]; rfl
        clear hcl
        go_wp2
        go_ret2
        exact ⟨by rw [HE.out, HV.out]; rfl, by rw [HM.out]; exact .same HH.out (below_drewN (Below.refl _ _) n)⟩
    · have hE : mgetE M j = 0 := by unfold mgetE; rw [hr, if_pos rfl, if_neg hn]
      obtain ⟨v, hv⟩ : ∃ v, (restM M j)[0]? = some v := ⟨_, List.getElem?_eq_getElem (List.length_pos_iff.2 hn)⟩
      have HV : Hid (mgetV M j = v) := by show _ = _; unfold mgetV; rw [hE, if_pos rfl, List.headD_eq_head?_getD, List.head?_eq_getElem?, hv]; rfl
      have HM : Hid (mgetM M j = dropM (stepG M j)) := by show _ = _; unfold mgetM; rw [hE, if_pos rfl]
      have HE := Lib.hid hE
      have HSP := Lib.hid (hok.step hr hn)
      obtain ⟨m, rfl⟩ : ∃ m : Nat, j = m := ⟨j.toNat, by have := of_decide_eq_true hr; omega⟩
      rw [Int.toNat_natCast] at g1 g2
      have hb2 := (hok.2.2.2.2.2.1 _ (List.mem_of_getElem? g1)).2
      have hb3 := hok.2.2.2.2.2.2
      have hm : (m : Int) < (M.G.length : Int) := by omega
      obtain ⟨n0, hn0⟩ : ∃ n0, (restM M m).length = n0 := ⟨_, rfl⟩
      have hn1 : 0 < n0 := by rw [← hn0]; exact List.length_pos_iff.2 hn
      have hn2 : (0 : Int) < (n0 : Int) := by omega
      have hn3 : ((n0 : Int) == 0) = false := by rw [beq_eq_false_iff_ne]; omega
      have HN0 := Lib.hid hn0
      have HVV := Lib.hid hv
      have c4 := (hl.cell 4).trans (show _ = some (Value.slice (some ⟨gb, 0, none⟩) M.G.length cg) from rfl)
      have cgm := owns_cell hg (cells64_get g1)
      have cgf := owns_free hg (show m < M.G.length from g2)
      have hwp : IntKind.u64.wrap ((gotM M m : Int) + 1) = (gotM M m : Int) + 1 := by rw [IntKind.wrap_u64]; omega
      have hset := owns_set (u := .int .u64 ((gotM M m : Int) + 1)) hg (show m < M.G.length from g2)
      have hglt := (hg.lt gb rfl).2
      have HSET := Lib.hid hset
      have HL := Lib.hid hl
      have HO := Lib.hid ho
      have A5 := Lib.hid a5
      have A6 := Lib.hid a6
      have HVB := Lib.hid hvb
      have hG1 : (stepG M m).G.length = M.G.length := by unfold stepG; simp
      have hG2 : cells64 (stepG M m).G = (cells64 M.G).set m (.int .u64 ((gotM M m : Int) + 1)) := by unfold stepG; simp only [Int.toNat_natCast]; rw [cells64_set]; rfl
      have HG1 := Lib.hid hG1
      have HG2 := Lib.hid hG2
      clear hE hr hl ho hg hok hn g1 hv hn0 hset a5 a6 hvb hG1 hG2
      go_enter Try.func15, Try.ntmps15
      go_wp2_with fail
      refine HRD.out.mono ?_
      rintro e w1 ⟨rfl, rfl⟩
      rw [HR.out]
      go_wp2_with fail
      refine HRS.out.mono ?_
      rintro e w2 ⟨A1, c1', rfl, hs1, _, n, rfl⟩
      obtain ⟨b1, o1, rfl, hb1, d0⟩ := hs1.get (Below.refl _ _) (k := 0) (u := .int .u64 v) (by unfold vals; rw [List.getElem?_map, HVV.out]; rfl)
      rw [Nat.add_zero] at d0
      rw [HN0.out]
      clear hs1
      have hk3 : Kept (oneRow gb) w1 ((w1.drewN n).setCell ⟨gb, m, none⟩ (.int .u64 ((gotM M m : Int) + 1))) := (Kept.drewN _ w1 n).trans (Kept.put _ gb m _) (fun _ _ h => h)
      have hst : MdAt ((w1.drewN n).setCell ⟨gb, m, none⟩ (.int .u64 ((gotM M m : Int) + 1))) B g gb vb (stepG M m) := by
        refine ⟨HSP.out, a2, a3, a4, A5.out, A6.out, A, c, cg, ?_, ?_, ?_, HVB.out⟩
        · have := HL.out.kept hk3 (fun e => a4 e)
          unfold mdV; rw [HG1.out]; exact this
        · exact HO.out.kept hk3 (fun r e (hr : r = gb) => by subst hr; rw [HVB.out] at e; exact A6.out e)
        · rw [HG1.out, HG2.out]; exact HSET.out
      have HDP := Lib.hid (mdDrop hst)
      have HK3 := Lib.hid hk3
      clear hst hk3 HSET HL HO HRD HRS
      go_wp2_with fail
      refine HDP.out.mono ?_
      rintro e w4 ⟨rfl, hst4, hk4⟩
      have hkk : Kept (mdS g gb vb) w1 w4 := (HK3.out.mono (fun i _ (e : i = gb) => .inr (.inl e))).trans hk4 (fun i _ (e : i = g) => .inl e)
      go_wp2
      go_ret2
      exact ⟨by rw [HE.out, HV.out]; rfl, by rw [HM.out]; exact ⟨vb, hst4, hkk, .inl rfl⟩⟩
end
end Go.Proofs.Ytflaaogopcgdaaa
