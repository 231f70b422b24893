import Derived.Test.YtakggmfpgopcgaaZz6
namespace Go.Proofs.Ytakggmfpgopcgaa
open Go.RowKit
set_option linter.unusedVariables false
set_option linter.unusedSimpArgs false
def cat (a b : List Nat) : List Nat := a ++ b
def pT (S : Sta) (k : Nat) : List Nat := [S.th.length] ++ (S.th.take k).flatMap thL
def pG (L : List Nat) (r : Nat → Nat) (j : Nat) : List Nat := L ++ (List.range j).map r
def pR (L : List Nat) (S : Sta) (k : Nat) : List Nat := L ++ ([S.rg.length] ++ (S.rg.take k).flatMap rsL)
def pL (L : List Nat) (x : Rs) (j : Nat) : List Nat := L ++ (x.sl.take j).flatMap slL
def sN (L : List Nat) : ByteArray := textB (encs L)
theorem addS (L M N : List Nat) (hN : L ++ M = N) (h : L.length + M.length ≤ 10000000) : ∀ W : World, (Op.stringOp .add (sN L) (sN M)).run Try.prog W = .ok (.string (sN N)) W := fun W => by
 subst hN
 unfold sN
 have h1 := encs_length L
 have h2 := encs_length M
 rw [run_string_add_sum W _ _ (by rw [textB_size, textB_size]; omega), text_append, encs_app]
theorem refNum1 (n : Nat) (w : World) (hn : n < M64) : Calls Try.prog 26 #[.int .u64 (n : Int)] w fun e w' => e = .returned (.string (sN [n])) ∧ Below w.heap.size w w' := by
 have := refNumber n w hn
 unfold sN; rw [encs_one]; exact this
theorem refIs1 (b : Bool) (w : World) : Calls Try.prog 28 #[.bool b] w fun e w' => e = .returned (.string (sN [tru b])) ∧ Below w.heap.size w w' := by
 have := refIs b w
 unfold sN; rw [encs_one]; exact this
theorem refList1 (A : Option Addr) (c n : Nat) (xs : List Nat) (w : World) (h : SeqS w 1 (.slice A n c) n (cells64 xs)) (hx : ∀ n ∈ xs, n < M64) (hl : xs.length ≤ 1000000) : Calls Try.prog 27 #[.slice A n c] w fun e w' => e = .returned (.string (sN (xs.length :: xs))) ∧ Below w.heap.size w w' := by
 have hq : SeqAt w (.slice A n c) (cells64 xs) := by
  obtain ⟨h1, A', c', e, a1, a2, _, a4⟩ := h
  have hl : (cells64 xs).length = n := by rw [h1, Nat.mul_one]
  exact ⟨A', c', by rw [e, hl], by rw [hl]; exact a1, a2, a4⟩
 have := refPrintList _ xs w hq hx (by omega)
 unfold sN; rw [encs_cons]; exact this
set_option maxHeartbeats 8000000 in
set_option maxRecDepth 100000 in
theorem refPrintS (S : Sta) (A B : Option Addr) (c d : Nat) (w : World) (ht : ThsR w (.slice A S.th.length c) S.th) (hr : RgsR w (.slice B S.rg.length d) S.rg) (hok : StOk S) (henc : encB S = true) :
  Calls Try.prog 11 #[.agg (stC (.slice A S.th.length c) (.slice B S.rg.length d) S.now S.rds S.en)] w fun e w' => e = .returned (.string (sN (stL S))) ∧ Below w.heap.size w w' := by
 obtain ⟨hc1, hc2⟩ := ht.caps
 obtain ⟨hd1, hd2⟩ := hr.caps
 have HT := Lib.hid ht
 have HR := Lib.hid hr
 have HOK := Lib.hid hok
 have HI := Lib.hid (SxAt.start w (stC (.slice A S.th.length c) (.slice B S.rg.length d) S.now S.rds S.en))
 unfold encB at henc
 rw [Bool.and_eq_true, Bool.and_eq_true, Bool.and_eq_true, decide_eq_true_eq, decide_eq_true_eq] at henc
 obtain ⟨h8, g8, hta, hra⟩ := henc
 have HTA := Lib.hid (List.all_eq_true.1 hta)
 have HRA := Lib.hid (List.all_eq_true.1 hra)
 obtain ⟨now, hnow⟩ : ∃ x, S.now = x := ⟨_, rfl⟩
 obtain ⟨rds, hrds⟩ : ∃ x, S.rds = x := ⟨_, rfl⟩
 obtain ⟨en, hen⟩ : ∃ x, S.en = x := ⟨_, rfl⟩
 rw [hnow, hrds, hen] at HI ⊢
 have HSF : Hid (S.now = now ∧ S.rds = rds ∧ S.en = en) := ⟨hnow, hrds, hen⟩
 clear ht hr hok hnow hrds hen hta hra
 have x0 := (HI.out.2.cell 0).trans (show _ = some (Value.slice A S.th.length c) from rfl)
 have xl := HI.out.2.lt
 have q1 : IntKind.u64.wrap (S.th.length : Int) = (S.th.length : Int) := IntWalk.u64_in _ (by omega)
 have HC := Lib.hid (fun (q : World) => refNum1 S.th.length q (by unfold M64; omega))
 go_enter Try.func11, Try.ntmps11
 go_wp2_with fail
 generalize w.alloc _ = w1 at *
 clear x0 xl
 refine (HC.out _).mono ?_
 rintro e w2 ⟨rfl, hb2⟩
 have HI2 : Hid (SxAt w (stC (.slice A S.th.length c) (.slice B S.rg.length d) now rds en) w2) := HI.out.later hb2
 have e0 : sN [S.th.length] = sN (pT S 0) := rfl
 rw [e0]
 clear HC HI hb2 e0
 go_wp2_with fail
 go_loopw [3, 4] (fun t u wr => ∃ k : Nat, k ≤ S.th.length ∧ t = .string (sN (pT S k)) ∧ u = .int .i64 k ∧ Hid (SxAt w (stC (.slice A S.th.length c) (.slice B S.rg.length d) now rds en) wr)) (fun _ u _ => S.th.length - (intOf u).toNat)
 case atStart => exact ⟨0, by omega, rfl, rfl, HI2⟩
 case round =>
  clear HI2
  obtain ⟨k, hk, rfl, rfl, HI⟩ := hrel
  have x0 := (HI.out.2.cell 0).trans (show _ = some (Value.slice A S.th.length c) from rfl)
  have xl := HI.out.2.lt
  by_cases hlt : k < S.th.length
  ·have hki : (k : Int) < (S.th.length : Int) := by omega
   obtain ⟨x, hx⟩ : ∃ x, S.th[k]? = some x := ⟨_, List.getElem?_eq_getElem hlt⟩
   obtain ⟨T, o, Sn, ds, rfl, hTl, hcell, hsq, hs1, hs2⟩ := HT.out.at_ hx
   have hld := th_load2 (q := wr) (b := T) (off := o + k * 14) (fun j u hu => (HI.out.1.cell (p := ⟨T, o + k * 14 + j, none⟩) hTl).trans (hcell j u hu))
   have hTw := Nat.lt_of_lt_of_le hTl HI.out.1.size
   have hxe := HTA.out x (List.mem_of_getElem? hx)
   have hxo := HOK.out.th x (List.mem_of_getElem? hx)
   have hln : ((S.th.take k).flatMap thL).length ≤ k * 65600 := by
    have := flat_le (f := thL) (c := 65600) (S.th.take k) (fun y hy => thL_len (HTA.out y (List.mem_of_mem_take hy)))
    rw [List.length_take, Nat.min_eq_left hk] at this; exact this
   have HFL := Lib.hid (flat_take (f := thL) hx)
   unfold thEB at hxe
   rw [Bool.and_eq_true, Bool.and_eq_true, Bool.and_eq_true, Bool.and_eq_true, decide_eq_true_eq] at hxe
   obtain ⟨hsn, s1, s2, s3, s4⟩ := hxe
   obtain ⟨a1, ea1, ha1⟩ := smB_of s1
   obtain ⟨a2, ea2, ha2⟩ := smB_of s2
   obtain ⟨a3, ea3, ha3⟩ := smB_of s3
   obtain ⟨a4, ea4, ha4⟩ := smB_of s4
   have HTL : Hid (thL x = [a1, a2, a3, a4, x.tk] ++ ((List.range 8).map x.r ++ (x.sn.length :: x.sn))) := by
    show thL x = _
    unfold thL; rw [ea1, ea2, ea3, ea4]; rfl
   obtain ⟨_, _, _, _, htk, hrg, hsnb⟩ := hxo
   have HL := Lib.hid (Lies.made wr 40 (thC x (.slice Sn x.sn.length ds)))
   have HI1 := Lib.hid (HI.out.later ((Below.refl wr.heap.size wr).alloc (Nat.le_refl _) (.cells (thC x (.slice Sn x.sn.length ds)) 40)))
   have EA := Lib.hid (And.intro ea1 (And.intro ea2 (And.intro ea3 ea4)))
   have HSQ := Lib.hid hsq
   have HRG := Lib.hid hrg
   have HSNB := Lib.hid hsnb
   clear hcell hx s1 s2 s3 s4 ea1 ea2 ea3 ea4 hsq hrg hsnb
   go_upto_region 6 with (first | refine wpList_load_known rfl _ _ rfl T (o + k * 14) rfl _ hld ?_)
   obtain ⟨g5, hg5⟩ : ∃ n, wr.heap.size = n := ⟨_, rfl⟩
   rw [hg5] at HL ⊢
   generalize wr.alloc (.cells (thC x (.slice Sn x.sn.length ds)) 40) = w6 at *
   clear hld x0 xl hTw HI
   have ex : x = ⟨(a1 : Int), (a2 : Int), (a3 : Int), (a4 : Int), x.tk, x.r, x.sn⟩ := by rw [← EA.out.1, ← EA.out.2.1, ← EA.out.2.2.1, ← EA.out.2.2.2]
   have hl6 : Lies w6 g5 40 (thC ⟨(a1 : Int), (a2 : Int), (a3 : Int), (a4 : Int), x.tk, x.r, x.sn⟩ (.slice Sn x.sn.length ds)) := ex ▸ HL.out
   have HL := Lib.hid hl6
   clear hl6 ex
   have wr1 : IntKind.u64.wrap (a1 : Int) = (a1 : Int) := IntWalk.u64_in _ (by omega)
   have wr2 : IntKind.u64.wrap (a2 : Int) = (a2 : Int) := IntWalk.u64_in _ (by omega)
   have wr3 : IntKind.u64.wrap (a3 : Int) = (a3 : Int) := IntWalk.u64_in _ (by omega)
   have wr4 : IntKind.u64.wrap (a4 : Int) = (a4 : Int) := IntWalk.u64_in _ (by omega)
   obtain ⟨L1, hL1⟩ : ∃ L, pT S k = L := ⟨_, rfl⟩
   rw [hL1]
   have hL1l : L1.length ≤ 1 + k * 65600 := by rw [← hL1]; unfold pT; rw [List.length_append, List.length_singleton]; omega
   have HL1 : Hid (pT S k = L1) := hL1
   clear hL1
   refine wp_region_rely (fun q => Below w6.heap.size w6 q) (bfV [.eq (.string (sN L1)), .eq (.pointer (some ⟨g5, 0, none⟩)), .eq (.int .i64 (a1 : Int)), .eq (.int .u64 (a1 : Int)), .eq (.string (sN [a1])), .eq (.pointer (some ⟨g5, 1, none⟩)), .eq (.int .i64 (a2 : Int)), .eq (.int .u64 (a2 : Int)), .eq (.string (sN [a2])), .eq (.string (sN [a1, a2])), .eq (.pointer (some ⟨g5, 2, none⟩)), .eq (.int .i64 (a3 : Int)), .eq (.int .u64 (a3 : Int)), .eq (.string (sN [a3])), .eq (.string (sN [a1, a2, a3])), .eq (.pointer (some ⟨g5, 3, none⟩)), .eq (.int .i64 (a4 : Int)), .eq (.int .u64 (a4 : Int)), .eq (.string (sN [a4])), .eq (.string (sN [a1, a2, a3, a4])), .eq (.pointer (some ⟨g5, 4, none⟩)), .eq (.int .u64 (x.tk : Int)), .eq (.string (sN [x.tk])), .eq (.string (sN [a1, a2, a3, a4, x.tk])), .eq (.string (sN (cat L1 [a1, a2, a3, a4, x.tk]))), .eq (.string (sN (cat L1 [a1, a2, a3, a4, x.tk])))]) [some 27, some 28, some 29, some 30, some 31, some 32, some 33, some 34, some 35, some 36, some 37, some 38, some 39, some 40, some 41, some 42, some 43, some 44, some 45, some 46, some 47, some 48, some 49, some 50, some 51, some 3] [[], [], [1], [2], [3], [], [5], [6], [7], [4, 8], [], [10], [11], [12], [9, 13], [], [15], [16], [17], [14, 18], [], [20], [21], [19, 22], [0, 23], [24]] [[], [], [1], [1, 2], [2, 3], [], [5], [5, 6], [3, 6, 7], [3, 4, 7, 8], [], [10], [10, 11], [7, 11, 12], [4, 8, 9, 12, 13], [], [15], [15, 16], [12, 16, 17], [9, 13, 14, 17, 18], [], [20], [17, 20, 21], [14, 18, 19, 21, 22], [0, 19, 22, 23], [0, 1, 2, 3, 4, 5, 6, 7, 8, 9, 10, 11, 12, 13, 14, 15, 16, 17, 18, 19, 20, 21, 22, 23, 24]] [[1, 2, 3, 4, 5, 6, 7, 8, 9, 10, 11, 12, 13, 14, 15, 16, 17, 18, 19, 20, 21, 22, 23], [0, 3, 4, 5, 6, 7, 8, 9, 10, 11, 12, 13, 14, 15, 16, 17, 18, 19, 20, 21, 22, 23, 24], [0, 4, 5, 6, 7, 8, 9, 10, 11, 12, 13, 14, 15, 16, 17, 18, 19, 20, 21, 22, 23, 24], [0, 5, 6, 7, 8, 9, 10, 11, 12, 13, 14, 15, 16, 17, 18, 19, 20, 21, 22, 23, 24], [0, 5, 6, 7, 10, 11, 12, 13, 14, 15, 16, 17, 18, 19, 20, 21, 22, 23, 24], [0, 1, 2, 3, 4, 7, 8, 9, 10, 11, 12, 13, 14, 15, 16, 17, 18, 19, 20, 21, 22, 23, 24], [0, 1, 2, 3, 4, 8, 9, 10, 11, 12, 13, 14, 15, 16, 17, 18, 19, 20, 21, 22, 23, 24], [0, 1, 2, 3, 4, 9, 10, 11, 12, 13, 14, 15, 16, 17, 18, 19, 20, 21, 22, 23, 24], [0, 1, 4, 10, 11, 12, 14, 15, 16, 17, 18, 19, 20, 21, 22, 23, 24], [0, 1, 5, 10, 11, 12, 13, 15, 16, 17, 18, 19, 20, 21, 22, 23, 24], [0, 1, 2, 3, 4, 5, 6, 7, 8, 9, 12, 13, 14, 15, 16, 17, 18, 19, 20, 21, 22, 23, 24], [0, 1, 2, 3, 4, 5, 6, 7, 8, 9, 13, 14, 15, 16, 17, 18, 19, 20, 21, 22, 23, 24], [0, 1, 2, 3, 4, 5, 6, 7, 8, 9, 14, 15, 16, 17, 18, 19, 20, 21, 22, 23, 24], [0, 1, 2, 4, 5, 8, 9, 15, 16, 17, 19, 20, 21, 22, 23, 24], [0, 1, 2, 5, 6, 10, 15, 16, 17, 18, 20, 21, 22, 23, 24], [0, 1, 2, 3, 4, 5, 6, 7, 8, 9, 10, 11, 12, 13, 14, 17, 18, 19, 20, 21, 22, 23, 24], [0, 1, 2, 3, 4, 5, 6, 7, 8, 9, 10, 11, 12, 13, 14, 18, 19, 20, 21, 22, 23, 24], [0, 1, 2, 3, 4, 5, 6, 7, 8, 9, 10, 11, 12, 13, 14, 19, 20, 21, 22, 23, 24], [0, 1, 2, 3, 4, 5, 6, 8, 9, 10, 13, 14, 20, 21, 23, 24], [0, 1, 2, 3, 5, 6, 7, 10, 11, 15, 20, 21, 22, 24], [0, 1, 2, 3, 4, 5, 6, 7, 8, 9, 10, 11, 12, 13, 14, 15, 16, 17, 18, 19, 22, 23, 24], [0, 1, 2, 3, 4, 5, 6, 7, 8, 9, 10, 11, 12, 13, 14, 15, 16, 17, 18, 19, 23, 24], [0, 1, 2, 3, 4, 5, 6, 7, 8, 9, 10, 11, 13, 14, 15, 18, 19, 24], [0, 1, 2, 3, 4, 5, 6, 7, 8, 10, 11, 12, 15, 16], [1, 2, 3, 4, 5, 6, 7, 8, 9, 10, 11, 12, 13, 15, 16, 17, 20], []] [0, 1, 2, 3, 4, 5, 6, 7, 8, 9, 10, 11, 12, 13, 14, 15, 16, 17, 18, 19, 20, 21, 22, 23, 24, 25] 26 (by kernel_rfl) (by kernel_rfl) (by kernel_rfl) (by kernel_rfl) ?rS (fun j h1 h2 => absurd (Nat.lt_of_lt_of_le h1 (Nat.le_trans (by decide) h2)) (Nat.lt_irrefl _)) ?rT ?rE
   case rS => exact below_drewN (Below.refl _ _) 1
   case rT =>
    refine RelySteps.cons (RelyStep.mk [] [1, 2, 3, 4, 5, 6, 7, 8, 9, 10, 11, 12, 13, 14, 15, 16, 17, 18, 19, 20, 21, 22, 23] rfl rfl rfl (fun xv wS hS hV bq hb K hK => ?_)) ?_
    ·clear hV
     simp only [putsOf, List.foldl_cons, List.foldl_nil, List.getD_cons_zero, List.getD_cons_succ, List.getD_nil, cond_true, cond_false, Act.put, List.setIfInBounds_toArray, List.set_cons_zero, List.set_cons_succ] at hb
     subst hb
     rw [if_pos (by rfl)]
     go_wp2_with fail
     exact hK.out _ _ ⟨_, rfl, hS, rfl, AllP.same _⟩
    refine RelySteps.cons (RelyStep.mk [] [0, 3, 4, 5, 6, 7, 8, 9, 10, 11, 12, 13, 14, 15, 16, 17, 18, 19, 20, 21, 22, 23, 24] rfl rfl rfl (fun xv wS hS hV bq hb K hK => ?_)) ?_
    ·clear hV
     simp only [putsOf, List.foldl_cons, List.foldl_nil, List.getD_cons_zero, List.getD_cons_succ, List.getD_nil, cond_true, cond_false, Act.put, List.setIfInBounds_toArray, List.set_cons_zero, List.set_cons_succ] at hb
     subst hb
     rw [if_pos (by rfl)]
     go_wp2_with fail
     exact hK.out _ _ ⟨_, rfl, hS, rfl, AllP.same _⟩
    refine RelySteps.cons (RelyStep.mk [1] [0, 4, 5, 6, 7, 8, 9, 10, 11, 12, 13, 14, 15, 16, 17, 18, 19, 20, 21, 22, 23, 24] rfl rfl rfl (fun xv wS hS hV bq hb K hK => ?_)) ?_
    ·obtain ⟨h1, _⟩ := hV
     have h1 : xv 1 = _ := h1
     simp only [putsOf, List.foldl_cons, List.foldl_nil, List.getD_cons_zero, List.getD_cons_succ, List.getD_nil, cond_true, cond_false, Act.put, List.setIfInBounds_toArray, List.set_cons_zero, List.set_cons_succ, h1] at hb
     clear h1
     subst hb
     rw [if_pos (by rfl)]
     (have l5 := HL.out.below hS HL.out.lt; have c5 := (l5.cell 0).trans (show _ = some (Value.int .i64 (a1 : Int)) from rfl); have c6 := l5.lt; clear l5)
     go_wp2_with fail
     exact hK.out _ _ ⟨_, rfl, hS, rfl, AllP.same _⟩
    refine RelySteps.cons (RelyStep.mk [2] [0, 5, 6, 7, 8, 9, 10, 11, 12, 13, 14, 15, 16, 17, 18, 19, 20, 21, 22, 23, 24] rfl rfl rfl (fun xv wS hS hV bq hb K hK => ?_)) ?_
    ·obtain ⟨h2, _⟩ := hV
     have h2 : xv 2 = _ := h2
     simp only [putsOf, List.foldl_cons, List.foldl_nil, List.getD_cons_zero, List.getD_cons_succ, List.getD_nil, cond_true, cond_false, Act.put, List.setIfInBounds_toArray, List.set_cons_zero, List.set_cons_succ, h2] at hb
     clear h2
     subst hb
     rw [if_pos (by rfl)]
     go_wp2_with fail
     exact hK.out _ _ ⟨_, rfl, hS, rfl, AllP.same _⟩
    refine RelySteps.cons (RelyStep.mk [3] [0, 5, 6, 7, 10, 11, 12, 13, 14, 15, 16, 17, 18, 19, 20, 21, 22, 23, 24] rfl rfl rfl (fun xv wS hS hV bq hb K hK => ?_)) ?_
    ·obtain ⟨h3, _⟩ := hV
     have h3 : xv 3 = _ := h3
     simp only [putsOf, List.foldl_cons, List.foldl_nil, List.getD_cons_zero, List.getD_cons_succ, List.getD_nil, cond_true, cond_false, Act.put, List.setIfInBounds_toArray, List.set_cons_zero, List.set_cons_succ, h3] at hb
     clear h3
     subst hb
     rw [if_pos (by rfl)]
     have HSS := Lib.hid hS
     skip
     clear hS
     go_wp2_with fail
     refine (refNum1 a1 wS (by unfold M64; omega)).mono ?_
     rintro e w9 ⟨rfl, hb⟩
     exact hK.out _ _ ⟨_, rfl, then_ HSS.out hb, rfl, AllP.of _ (fun j _ _ h => bfV_below hb h)⟩
    refine RelySteps.cons (RelyStep.mk [] [0, 1, 2, 3, 4, 7, 8, 9, 10, 11, 12, 13, 14, 15, 16, 17, 18, 19, 20, 21, 22, 23, 24] rfl rfl rfl (fun xv wS hS hV bq hb K hK => ?_)) ?_
    ·clear hV
     simp only [putsOf, List.foldl_cons, List.foldl_nil, List.getD_cons_zero, List.getD_cons_succ, List.getD_nil, cond_true, cond_false, Act.put, List.setIfInBounds_toArray, List.set_cons_zero, List.set_cons_succ] at hb
     subst hb
     rw [if_pos (by rfl)]
     go_wp2_with fail
     exact hK.out _ _ ⟨_, rfl, hS, rfl, AllP.same _⟩
    refine RelySteps.cons (RelyStep.mk [5] [0, 1, 2, 3, 4, 8, 9, 10, 11, 12, 13, 14, 15, 16, 17, 18, 19, 20, 21, 22, 23, 24] rfl rfl rfl (fun xv wS hS hV bq hb K hK => ?_)) ?_
    ·obtain ⟨h5, _⟩ := hV
     have h5 : xv 5 = _ := h5
     simp only [putsOf, List.foldl_cons, List.foldl_nil, List.getD_cons_zero, List.getD_cons_succ, List.getD_nil, cond_true, cond_false, Act.put, List.setIfInBounds_toArray, List.set_cons_zero, List.set_cons_succ, h5] at hb
     clear h5
     subst hb
     rw [if_pos (by rfl)]
     (have l5 := HL.out.below hS HL.out.lt; have c5 := (l5.cell 1).trans (show _ = some (Value.int .i64 (a2 : Int)) from rfl); have c6 := l5.lt; clear l5)
     go_wp2_with fail
     exact hK.out _ _ ⟨_, rfl, hS, rfl, AllP.same _⟩
    refine RelySteps.cons (RelyStep.mk [6] [0, 1, 2, 3, 4, 9, 10, 11, 12, 13, 14, 15, 16, 17, 18, 19, 20, 21, 22, 23, 24] rfl rfl rfl (fun xv wS hS hV bq hb K hK => ?_)) ?_
    ·obtain ⟨h6, _⟩ := hV
     have h6 : xv 6 = _ := h6
     simp only [putsOf, List.foldl_cons, List.foldl_nil, List.getD_cons_zero, List.getD_cons_succ, List.getD_nil, cond_true, cond_false, Act.put, List.setIfInBounds_toArray, List.set_cons_zero, List.set_cons_succ, h6] at hb
     clear h6
     subst hb
     rw [if_pos (by rfl)]
     go_wp2_with fail
     exact hK.out _ _ ⟨_, rfl, hS, rfl, AllP.same _⟩
    refine RelySteps.cons (RelyStep.mk [7] [0, 1, 4, 10, 11, 12, 14, 15, 16, 17, 18, 19, 20, 21, 22, 23, 24] rfl rfl rfl (fun xv wS hS hV bq hb K hK => ?_)) ?_
    ·obtain ⟨h7, _⟩ := hV
     have h7 : xv 7 = _ := h7
     simp only [putsOf, List.foldl_cons, List.foldl_nil, List.getD_cons_zero, List.getD_cons_succ, List.getD_nil, cond_true, cond_false, Act.put, List.setIfInBounds_toArray, List.set_cons_zero, List.set_cons_succ, h7] at hb
     clear h7
     subst hb
     rw [if_pos (by rfl)]
     have HSS := Lib.hid hS
     skip
     clear hS
     go_wp2_with fail
     refine (refNum1 a2 wS (by unfold M64; omega)).mono ?_
     rintro e w9 ⟨rfl, hb⟩
     exact hK.out _ _ ⟨_, rfl, then_ HSS.out hb, rfl, AllP.of _ (fun j _ _ h => bfV_below hb h)⟩
    refine RelySteps.cons (RelyStep.mk [4, 8] [0, 1, 5, 10, 11, 12, 13, 15, 16, 17, 18, 19, 20, 21, 22, 23, 24] rfl rfl rfl (fun xv wS hS hV bq hb K hK => ?_)) ?_
    ·obtain ⟨h4, h8, _⟩ := hV
     have h4 : xv 4 = _ := h4
     have h8 : xv 8 = _ := h8
     simp only [putsOf, List.foldl_cons, List.foldl_nil, List.getD_cons_zero, List.getD_cons_succ, List.getD_nil, cond_true, cond_false, Act.put, List.setIfInBounds_toArray, List.set_cons_zero, List.set_cons_succ, h4, h8] at hb
     clear h4
     clear h8
     subst hb
     rw [if_pos (by rfl)]
     (have ha := addS [a1] [a2] [a1, a2] rfl (by simp only [List.length_cons, List.length_nil]; omega))
     go_wp2_with fail
     exact hK.out _ _ ⟨_, rfl, hS, rfl, AllP.same _⟩
    refine RelySteps.cons (RelyStep.mk [] [0, 1, 2, 3, 4, 5, 6, 7, 8, 9, 12, 13, 14, 15, 16, 17, 18, 19, 20, 21, 22, 23, 24] rfl rfl rfl (fun xv wS hS hV bq hb K hK => ?_)) ?_
    ·clear hV
     simp only [putsOf, List.foldl_cons, List.foldl_nil, List.getD_cons_zero, List.getD_cons_succ, List.getD_nil, cond_true, cond_false, Act.put, List.setIfInBounds_toArray, List.set_cons_zero, List.set_cons_succ] at hb
     subst hb
     rw [if_pos (by rfl)]
     go_wp2_with fail
     exact hK.out _ _ ⟨_, rfl, hS, rfl, AllP.same _⟩
    refine RelySteps.cons (RelyStep.mk [10] [0, 1, 2, 3, 4, 5, 6, 7, 8, 9, 13, 14, 15, 16, 17, 18, 19, 20, 21, 22, 23, 24] rfl rfl rfl (fun xv wS hS hV bq hb K hK => ?_)) ?_
    ·obtain ⟨h10, _⟩ := hV
     have h10 : xv 10 = _ := h10
     simp only [putsOf, List.foldl_cons, List.foldl_nil, List.getD_cons_zero, List.getD_cons_succ, List.getD_nil, cond_true, cond_false, Act.put, List.setIfInBounds_toArray, List.set_cons_zero, List.set_cons_succ, h10] at hb
     clear h10
     subst hb
     rw [if_pos (by rfl)]
     (have l5 := HL.out.below hS HL.out.lt; have c5 := (l5.cell 2).trans (show _ = some (Value.int .i64 (a3 : Int)) from rfl); have c6 := l5.lt; clear l5)
     go_wp2_with fail
     exact hK.out _ _ ⟨_, rfl, hS, rfl, AllP.same _⟩
    refine RelySteps.cons (RelyStep.mk [11] [0, 1, 2, 3, 4, 5, 6, 7, 8, 9, 14, 15, 16, 17, 18, 19, 20, 21, 22, 23, 24] rfl rfl rfl (fun xv wS hS hV bq hb K hK => ?_)) ?_
    ·obtain ⟨h11, _⟩ := hV
     have h11 : xv 11 = _ := h11
     simp only [putsOf, List.foldl_cons, List.foldl_nil, List.getD_cons_zero, List.getD_cons_succ, List.getD_nil, cond_true, cond_false, Act.put, List.setIfInBounds_toArray, List.set_cons_zero, List.set_cons_succ, h11] at hb
     clear h11
     subst hb
     rw [if_pos (by rfl)]
     go_wp2_with fail
     exact hK.out _ _ ⟨_, rfl, hS, rfl, AllP.same _⟩
    refine RelySteps.cons (RelyStep.mk [12] [0, 1, 2, 4, 5, 8, 9, 15, 16, 17, 19, 20, 21, 22, 23, 24] rfl rfl rfl (fun xv wS hS hV bq hb K hK => ?_)) ?_
    ·obtain ⟨h12, _⟩ := hV
     have h12 : xv 12 = _ := h12
     simp only [putsOf, List.foldl_cons, List.foldl_nil, List.getD_cons_zero, List.getD_cons_succ, List.getD_nil, cond_true, cond_false, Act.put, List.setIfInBounds_toArray, List.set_cons_zero, List.set_cons_succ, h12] at hb
     clear h12
     subst hb
     rw [if_pos (by rfl)]
     have HSS := Lib.hid hS
     skip
     clear hS
     go_wp2_with fail
     refine (refNum1 a3 wS (by unfold M64; omega)).mono ?_
     rintro e w9 ⟨rfl, hb⟩
     exact hK.out _ _ ⟨_, rfl, then_ HSS.out hb, rfl, AllP.of _ (fun j _ _ h => bfV_below hb h)⟩
    refine RelySteps.cons (RelyStep.mk [9, 13] [0, 1, 2, 5, 6, 10, 15, 16, 17, 18, 20, 21, 22, 23, 24] rfl rfl rfl (fun xv wS hS hV bq hb K hK => ?_)) ?_
    ·obtain ⟨h9, h13, _⟩ := hV
     have h9 : xv 9 = _ := h9
     have h13 : xv 13 = _ := h13
     simp only [putsOf, List.foldl_cons, List.foldl_nil, List.getD_cons_zero, List.getD_cons_succ, List.getD_nil, cond_true, cond_false, Act.put, List.setIfInBounds_toArray, List.set_cons_zero, List.set_cons_succ, h9, h13] at hb
     clear h9
     clear h13
     subst hb
     rw [if_pos (by rfl)]
     (have ha := addS [a1, a2] [a3] [a1, a2, a3] rfl (by simp only [List.length_cons, List.length_nil]; omega))
     go_wp2_with fail
     exact hK.out _ _ ⟨_, rfl, hS, rfl, AllP.same _⟩
    refine RelySteps.cons (RelyStep.mk [] [0, 1, 2, 3, 4, 5, 6, 7, 8, 9, 10, 11, 12, 13, 14, 17, 18, 19, 20, 21, 22, 23, 24] rfl rfl rfl (fun xv wS hS hV bq hb K hK => ?_)) ?_
    ·clear hV
     simp only [putsOf, List.foldl_cons, List.foldl_nil, List.getD_cons_zero, List.getD_cons_succ, List.getD_nil, cond_true, cond_false, Act.put, List.setIfInBounds_toArray, List.set_cons_zero, List.set_cons_succ] at hb
     subst hb
     rw [if_pos (by rfl)]
     go_wp2_with fail
     exact hK.out _ _ ⟨_, rfl, hS, rfl, AllP.same _⟩
    refine RelySteps.cons (RelyStep.mk [15] [0, 1, 2, 3, 4, 5, 6, 7, 8, 9, 10, 11, 12, 13, 14, 18, 19, 20, 21, 22, 23, 24] rfl rfl rfl (fun xv wS hS hV bq hb K hK => ?_)) ?_
    ·obtain ⟨h15, _⟩ := hV
     have h15 : xv 15 = _ := h15
     simp only [putsOf, List.foldl_cons, List.foldl_nil, List.getD_cons_zero, List.getD_cons_succ, List.getD_nil, cond_true, cond_false, Act.put, List.setIfInBounds_toArray, List.set_cons_zero, List.set_cons_succ, h15] at hb
     clear h15
     subst hb
     rw [if_pos (by rfl)]
     (have l5 := HL.out.below hS HL.out.lt; have c5 := (l5.cell 3).trans (show _ = some (Value.int .i64 (a4 : Int)) from rfl); have c6 := l5.lt; clear l5)
     go_wp2_with fail
     exact hK.out _ _ ⟨_, rfl, hS, rfl, AllP.same _⟩
    refine RelySteps.cons (RelyStep.mk [16] [0, 1, 2, 3, 4, 5, 6, 7, 8, 9, 10, 11, 12, 13, 14, 19, 20, 21, 22, 23, 24] rfl rfl rfl (fun xv wS hS hV bq hb K hK => ?_)) ?_
    ·obtain ⟨h16, _⟩ := hV
     have h16 : xv 16 = _ := h16
     simp only [putsOf, List.foldl_cons, List.foldl_nil, List.getD_cons_zero, List.getD_cons_succ, List.getD_nil, cond_true, cond_false, Act.put, List.setIfInBounds_toArray, List.set_cons_zero, List.set_cons_succ, h16] at hb
     clear h16
     subst hb
     rw [if_pos (by rfl)]
     go_wp2_with fail
     exact hK.out _ _ ⟨_, rfl, hS, rfl, AllP.same _⟩
    refine RelySteps.cons (RelyStep.mk [17] [0, 1, 2, 3, 4, 5, 6, 8, 9, 10, 13, 14, 20, 21, 23, 24] rfl rfl rfl (fun xv wS hS hV bq hb K hK => ?_)) ?_
    ·obtain ⟨h17, _⟩ := hV
     have h17 : xv 17 = _ := h17
     simp only [putsOf, List.foldl_cons, List.foldl_nil, List.getD_cons_zero, List.getD_cons_succ, List.getD_nil, cond_true, cond_false, Act.put, List.setIfInBounds_toArray, List.set_cons_zero, List.set_cons_succ, h17] at hb
     clear h17
     subst hb
     rw [if_pos (by rfl)]
     have HSS := Lib.hid hS
     skip
     clear hS
     go_wp2_with fail
     refine (refNum1 a4 wS (by unfold M64; omega)).mono ?_
     rintro e w9 ⟨rfl, hb⟩
     exact hK.out _ _ ⟨_, rfl, then_ HSS.out hb, rfl, AllP.of _ (fun j _ _ h => bfV_below hb h)⟩
    refine RelySteps.cons (RelyStep.mk [14, 18] [0, 1, 2, 3, 5, 6, 7, 10, 11, 15, 20, 21, 22, 24] rfl rfl rfl (fun xv wS hS hV bq hb K hK => ?_)) ?_
    ·obtain ⟨h14, h18, _⟩ := hV
     have h14 : xv 14 = _ := h14
     have h18 : xv 18 = _ := h18
     simp only [putsOf, List.foldl_cons, List.foldl_nil, List.getD_cons_zero, List.getD_cons_succ, List.getD_nil, cond_true, cond_false, Act.put, List.setIfInBounds_toArray, List.set_cons_zero, List.set_cons_succ, h14, h18] at hb
     clear h14
     clear h18
     subst hb
     rw [if_pos (by rfl)]
     (have ha := addS [a1, a2, a3] [a4] [a1, a2, a3, a4] rfl (by simp only [List.length_cons, List.length_nil]; omega))
     go_wp2_with fail
     exact hK.out _ _ ⟨_, rfl, hS, rfl, AllP.same _⟩
    refine RelySteps.cons (RelyStep.mk [] [0, 1, 2, 3, 4, 5, 6, 7, 8, 9, 10, 11, 12, 13, 14, 15, 16, 17, 18, 19, 22, 23, 24] rfl rfl rfl (fun xv wS hS hV bq hb K hK => ?_)) ?_
    ·clear hV
     simp only [putsOf, List.foldl_cons, List.foldl_nil, List.getD_cons_zero, List.getD_cons_succ, List.getD_nil, cond_true, cond_false, Act.put, List.setIfInBounds_toArray, List.set_cons_zero, List.set_cons_succ] at hb
     subst hb
     rw [if_pos (by rfl)]
     go_wp2_with fail
     exact hK.out _ _ ⟨_, rfl, hS, rfl, AllP.same _⟩
    refine RelySteps.cons (RelyStep.mk [20] [0, 1, 2, 3, 4, 5, 6, 7, 8, 9, 10, 11, 12, 13, 14, 15, 16, 17, 18, 19, 23, 24] rfl rfl rfl (fun xv wS hS hV bq hb K hK => ?_)) ?_
    ·obtain ⟨h20, _⟩ := hV
     have h20 : xv 20 = _ := h20
     simp only [putsOf, List.foldl_cons, List.foldl_nil, List.getD_cons_zero, List.getD_cons_succ, List.getD_nil, cond_true, cond_false, Act.put, List.setIfInBounds_toArray, List.set_cons_zero, List.set_cons_succ, h20] at hb
     clear h20
     subst hb
     rw [if_pos (by rfl)]
     (have l5 := HL.out.below hS HL.out.lt; have c5 := (l5.cell 4).trans (show _ = some (Value.int .u64 (x.tk : Int)) from rfl); have c6 := l5.lt; clear l5)
     go_wp2_with fail
     exact hK.out _ _ ⟨_, rfl, hS, rfl, AllP.same _⟩
    refine RelySteps.cons (RelyStep.mk [21] [0, 1, 2, 3, 4, 5, 6, 7, 8, 9, 10, 11, 13, 14, 15, 18, 19, 24] rfl rfl rfl (fun xv wS hS hV bq hb K hK => ?_)) ?_
    ·obtain ⟨h21, _⟩ := hV
     have h21 : xv 21 = _ := h21
     simp only [putsOf, List.foldl_cons, List.foldl_nil, List.getD_cons_zero, List.getD_cons_succ, List.getD_nil, cond_true, cond_false, Act.put, List.setIfInBounds_toArray, List.set_cons_zero, List.set_cons_succ, h21] at hb
     clear h21
     subst hb
     rw [if_pos (by rfl)]
     have HSS := Lib.hid hS
     skip
     clear hS
     go_wp2_with fail
     refine (refNum1 x.tk wS (by unfold M64; omega)).mono ?_
     rintro e w9 ⟨rfl, hb⟩
     exact hK.out _ _ ⟨_, rfl, then_ HSS.out hb, rfl, AllP.of _ (fun j _ _ h => bfV_below hb h)⟩
    refine RelySteps.cons (RelyStep.mk [19, 22] [0, 1, 2, 3, 4, 5, 6, 7, 8, 10, 11, 12, 15, 16] rfl rfl rfl (fun xv wS hS hV bq hb K hK => ?_)) ?_
    ·obtain ⟨h19, h22, _⟩ := hV
     have h19 : xv 19 = _ := h19
     have h22 : xv 22 = _ := h22
     simp only [putsOf, List.foldl_cons, List.foldl_nil, List.getD_cons_zero, List.getD_cons_succ, List.getD_nil, cond_true, cond_false, Act.put, List.setIfInBounds_toArray, List.set_cons_zero, List.set_cons_succ, h19, h22] at hb
     clear h19
     clear h22
     subst hb
     rw [if_pos (by rfl)]
     (have ha := addS [a1, a2, a3, a4] [x.tk] [a1, a2, a3, a4, x.tk] rfl (by simp only [List.length_cons, List.length_nil]; omega))
     go_wp2_with fail
     exact hK.out _ _ ⟨_, rfl, hS, rfl, AllP.same _⟩
    refine RelySteps.cons (RelyStep.mk [0, 23] [1, 2, 3, 4, 5, 6, 7, 8, 9, 10, 11, 12, 13, 15, 16, 17, 20] rfl rfl rfl (fun xv wS hS hV bq hb K hK => ?_)) ?_
    ·obtain ⟨h0, h23, _⟩ := hV
     have h0 : xv 0 = _ := h0
     have h23 : xv 23 = _ := h23
     simp only [putsOf, List.foldl_cons, List.foldl_nil, List.getD_cons_zero, List.getD_cons_succ, List.getD_nil, cond_true, cond_false, Act.put, List.setIfInBounds_toArray, List.set_cons_zero, List.set_cons_succ, h0, h23] at hb
     clear h0
     clear h23
     subst hb
     rw [if_pos (by rfl)]
     (have ha := addS L1 [a1, a2, a3, a4, x.tk] (cat L1 [a1, a2, a3, a4, x.tk]) rfl (by simp only [List.length_cons, List.length_nil]; omega))
     go_wp2_with fail
     exact hK.out _ _ ⟨_, rfl, hS, rfl, AllP.same _⟩
    refine RelySteps.cons (RelyStep.mk [24] [] rfl rfl rfl (fun xv wS hS hV bq hb K hK => ?_)) ?_
    ·obtain ⟨h24, _⟩ := hV
     have h24 : xv 24 = _ := h24
     simp only [putsOf, List.foldl_cons, List.foldl_nil, List.getD_cons_zero, List.getD_cons_succ, List.getD_nil, cond_true, cond_false, Act.put, List.setIfInBounds_toArray, List.set_cons_zero, List.set_cons_succ, h24] at hb
     clear h24
     subst hb
     rw [if_pos (by rfl)]
     go_wp2_with fail
     exact hK.out _ _ ⟨_, rfl, hS, rfl, AllP.same _⟩
    exact RelySteps.nil
   case rE =>
    intro xv wE hS hV
    have h25 := hV 25 (by decide) (by decide)
    clear hV
    simp only [putsOf, List.foldl_cons, List.foldl_nil, List.getD_cons_zero, List.getD_cons_succ, List.getD_nil, cond_true, cond_false, Act.put, List.setIfInBounds_toArray, List.set_cons_zero, List.set_cons_succ]
    have h25 : xv 25 = _ := h25
    rw [h25]; clear h25
    generalize xv 0 = y0 at *
    generalize xv 1 = y1 at *
    generalize xv 2 = y2 at *
    generalize xv 3 = y3 at *
    generalize xv 4 = y4 at *
    generalize xv 5 = y5 at *
    generalize xv 6 = y6 at *
    generalize xv 7 = y7 at *
    generalize xv 8 = y8 at *
    generalize xv 9 = y9 at *
    generalize xv 10 = y10 at *
    generalize xv 11 = y11 at *
    generalize xv 12 = y12 at *
    generalize xv 13 = y13 at *
    generalize xv 14 = y14 at *
    generalize xv 15 = y15 at *
    generalize xv 16 = y16 at *
    generalize xv 17 = y17 at *
    generalize xv 18 = y18 at *
    generalize xv 19 = y19 at *
    generalize xv 20 = y20 at *
    generalize xv 21 = y21 at *
    generalize xv 22 = y22 at *
    generalize xv 23 = y23 at *
    generalize xv 24 = y24 at *
    have HL7 := Lib.hid (HL.out.below hS HL.out.lt)
    have HI7 := Lib.hid (HI1.out.later hS)
    clear h25
    clear hS HL HI1
    generalize wE = w7 at *
    have eL : cat L1 [a1, a2, a3, a4, x.tk] = pG (cat L1 [a1, a2, a3, a4, x.tk]) x.r 0 := by unfold pG; simp
    rw [eL]
    clear eL
    go_wp2_with fail
    go_loopw [3, 6] (fun t u wr => ∃ j : Nat, j ≤ 8 ∧ t = .string (sN (pG (cat L1 [a1, a2, a3, a4, x.tk]) x.r j)) ∧ u = .int .i64 j ∧ Hid (SxAt w (stC (.slice (some ⟨T, o, none⟩) S.th.length c) (.slice B S.rg.length d) now rds en) wr) ∧ Hid (Lies wr g5 40 (thC ⟨(a1 : Int), (a2 : Int), (a3 : Int), (a4 : Int), x.tk, x.r, x.sn⟩ (.slice Sn x.sn.length ds)))) (fun _ u _ => 8 - (intOf u).toNat)
    case atStart => exact ⟨0, by omega, rfl, rfl, HI7, HL7⟩
    case round =>
     clear HI7 HL7
     obtain ⟨j, hj, rfl, rfl, HI7, HL7⟩ := hrel
     by_cases hlj : j < 8
     ·have hji : (j : Int) < 8 := by omega
      have y5 := (HL7.out.cell (5 + j)).trans (thC_reg _ _ hlj)
      have yl := HL7.out.lt
      have hrj := HRG.out j
      have HN := Lib.hid (refNum1 (x.r j) wr (by unfold M64; omega))
      have ha := addS (pG (cat L1 [a1, a2, a3, a4, x.tk]) x.r j) [x.r j] (pG (cat L1 [a1, a2, a3, a4, x.tk]) x.r (j + 1)) (by unfold pG; rw [List.range_succ, List.map_append, List.append_assoc]; rfl) (by unfold pG cat; simp; omega)
      go_wp2_with fail
      clear y5 yl
      refine HN.out.mono ?_
      rintro e w8 ⟨rfl, hb8⟩
      have HI8 := Lib.hid (HI7.out.later hb8)
      have HL8 := Lib.hid (HL7.out.below hb8 HL7.out.lt)
      clear HN HI7 HL7 hb8
      go_wp2_with fail
      go_roundw
      case rel => exact ⟨j + 1, by omega, rfl, by go_num, HI8, HL8⟩
      case measure => simp [intOf]; omega
     ·obtain rfl : j = 8 := by omega
      have y13 := (HL7.out.cell 13).trans (show _ = some (Value.slice Sn x.sn.length ds) from rfl)
      have yl := HL7.out.lt
      have HN := Lib.hid (refList1 Sn ds x.sn.length x.sn wr (HSQ.out.later HI7.out.1) (fun n hn => by have := HSNB.out n hn; unfold M64; omega) (by omega))
      have eE : pG (cat L1 [a1, a2, a3, a4, x.tk]) x.r 8 ++ (x.sn.length :: x.sn) = pT S (k + 1) := by
       unfold pT pG cat
       rw [HFL.out, HTL.out, ← HL1.out]
       unfold pT
       simp only [List.append_assoc]
      have ha := addS (pG (cat L1 [a1, a2, a3, a4, x.tk]) x.r 8) (x.sn.length :: x.sn) _ eE (by unfold pG cat; simp; omega)
      clear eE
      go_wp2_with fail
      clear y13 yl
      refine HN.out.mono ?_
      rintro e w8 ⟨rfl, hb8⟩
      have HI8 := Lib.hid (HI7.out.later hb8)
      clear HN HI7 HL7 hb8
      go_wp2_with fail
      go_roundw
      case rel => exact ⟨k + 1, by omega, rfl, by go_num, HI8⟩
      case measure => simp [intOf]; omega
  ·obtain rfl : k = S.th.length := by omega
   obtain ⟨L0, hL⟩ : ∃ L, pT S S.th.length = L := ⟨_, rfl⟩
   rw [hL]
   have hL0 : L0.length ≤ 600000 := by
    have := flat_le (f := thL) (c := 65600) S.th (fun y hy => thL_len (HTA.out y hy))
    have h2 : S.th.length * 65600 ≤ 8 * 65600 := Nat.mul_le_mul_right _ h8
    rw [← hL]
    unfold pT
    rw [List.take_length, List.length_append, List.length_singleton]
    omega
   have HLL : Hid (pT S S.th.length = L0) := hL
   clear hL HTA
   have x1 := (HI.out.2.cell 1).trans (show _ = some (Value.slice B S.rg.length d) from rfl)
   have q2 : IntKind.u64.wrap (S.rg.length : Int) = (S.rg.length : Int) := IntWalk.u64_in _ (by omega)
   have HN := Lib.hid (fun (q : World) => refNum1 S.rg.length q (by unfold M64; omega))
   have ha := addS L0 [S.rg.length] (pR L0 S 0) (by unfold pR; simp) (by simp; omega)
   go_wp2_with fail
   clear x0 x1 xl
   refine (HN.out _).mono ?_
   rintro e w2 ⟨rfl, hb2⟩
   have HI2 := Lib.hid (HI.out.later hb2)
   clear HN HI hb2
   go_wp2_with fail
   clear ha
   go_loopw [3, 7] (fun t u wr => ∃ k : Nat, k ≤ S.rg.length ∧ t = .string (sN (pR L0 S k)) ∧ u = .int .i64 k ∧ Hid (SxAt w (stC (.slice A S.th.length c) (.slice B S.rg.length d) now rds en) wr)) (fun _ u _ => S.rg.length - (intOf u).toNat)
   case atStart => exact ⟨0, by omega, rfl, rfl, HI2⟩
   case round =>
    clear HI2
    obtain ⟨k, hk, rfl, rfl, HI⟩ := hrel
    have x1 := (HI.out.2.cell 1).trans (show _ = some (Value.slice B S.rg.length d) from rfl)
    have xl := HI.out.2.lt
    by_cases hlt : k < S.rg.length
    ·have hki : (k : Int) < (S.rg.length : Int) := by omega
     obtain ⟨x, hx⟩ : ∃ x, S.rg[k]? = some x := ⟨_, List.getElem?_eq_getElem hlt⟩
     obtain ⟨T, o, S1, d1, S2, d2, rfl, hTl, hcell, ⟨hsq, p1, p2⟩, hsl, p3, p4⟩ := HR.out.at_ hx
     have hld := rg_load2 (q := wr) (b := T) (off := o + k * 4) (fun j u hu => (HI.out.1.cell (p := ⟨T, o + k * 4 + j, none⟩) hTl).trans (hcell j u hu))
     have hTw := Nat.lt_of_lt_of_le hTl HI.out.1.size
     have hxe := HRA.out x (List.mem_of_getElem? hx)
     have hxo := HOK.out.rg x (List.mem_of_getElem? hx)
     have hln : ((S.rg.take k).flatMap rsL).length ≤ k * 65600 := by
      have := flat_le (f := rsL) (c := 65600) (S.rg.take k) (fun y hy => rgL_len (HRA.out y (List.mem_of_mem_take hy)))
      rw [List.length_take, Nat.min_eq_left hk] at this; exact this
     have HFL := Lib.hid (flat_take (f := rsL) hx)
     unfold rgEB at hxe
     rw [Bool.and_eq_true, Bool.and_eq_true, decide_eq_true_eq, decide_eq_true_eq] at hxe
     obtain ⟨hhl, hsll, hsa⟩ := hxe
     have HSA := Lib.hid (List.all_eq_true.1 hsa)
     have HRL : Hid (rsL x = [x.tl] ++ ((x.hs.length :: x.hs) ++ ([tru x.cl, x.sl.length] ++ x.sl.flatMap slL))) := rfl
     obtain ⟨htl, hhb, hsb⟩ := hxo
     have HSB := Lib.hid hsb
     have HHB := Lib.hid hhb
     have HL := Lib.hid (Lies.made wr 54 (rgC2 x.tl (.slice S1 x.hs.length d1) x.cl (.slice S2 x.sl.length d2)))
     have HI1 := Lib.hid (HI.out.later ((Below.refl wr.heap.size wr).alloc (Nat.le_refl _) (.cells (rgC2 x.tl (.slice S1 x.hs.length d1) x.cl (.slice S2 x.sl.length d2)) 54)))
     have HSQ := Lib.hid hsq
     have HSLQ := Lib.hid hsl
     clear hcell hx hsq hsl hsa hsb hhb
     go_upto_region 17 with (first | refine wpList_load_known rfl _ _ rfl T (o + k * 4) rfl _ hld ?_)
     obtain ⟨g5, hg5⟩ : ∃ n, wr.heap.size = n := ⟨_, rfl⟩
     rw [hg5] at HL ⊢
     generalize wr.alloc (.cells (rgC2 x.tl (.slice S1 x.hs.length d1) x.cl (.slice S2 x.sl.length d2)) 54) = w6 at *
     clear hld x1 xl hTw HI
     have q5 : IntKind.u64.wrap (x.sl.length : Int) = (x.sl.length : Int) := IntWalk.u64_in _ (by omega)
     obtain ⟨L1, hL1⟩ : ∃ L, pR L0 S k = L := ⟨_, rfl⟩
     rw [hL1]
     have hL1l : L1.length ≤ 600001 + k * 65600 := by rw [← hL1]; unfold pR; rw [List.length_append, List.length_append, List.length_singleton]; omega
     have HL1 : Hid (pR L0 S k = L1) := hL1
     clear hL1
     refine wp_region_rely (fun q => Below w6.heap.size w6 q) (bfV [.eq (.string (sN L1)), .eq (.pointer (some ⟨g5, 0, none⟩)), .eq (.int .u64 (x.tl : Int)), .eq (.string (sN [x.tl])), .eq (.pointer (some ⟨g5, 1, none⟩)), .eq (.slice S1 x.hs.length d1), .eq (.string (sN (x.hs.length :: x.hs))), .eq (.string (sN (cat [x.tl] (x.hs.length :: x.hs)))), .eq (.pointer (some ⟨g5, 2, none⟩)), .eq (.bool x.cl), .eq (.string (sN [tru x.cl])), .eq (.string (sN (cat (cat [x.tl] (x.hs.length :: x.hs)) [tru x.cl]))), .eq (.pointer (some ⟨g5, 3, none⟩)), .eq (.slice S2 x.sl.length d2), .eq (.int .i64 (x.sl.length : Int)), .eq (.int .u64 (x.sl.length : Int)), .eq (.string (sN [x.sl.length])), .eq (.string (sN (cat (cat (cat [x.tl] (x.hs.length :: x.hs)) [tru x.cl]) [x.sl.length]))), .eq (.string (sN (cat L1 (cat (cat (cat [x.tl] (x.hs.length :: x.hs)) [tru x.cl]) [x.sl.length])))), .eq (.string (sN (cat L1 (cat (cat (cat [x.tl] (x.hs.length :: x.hs)) [tru x.cl]) [x.sl.length]))))]) [some 87, some 88, some 89, some 90, some 91, some 92, some 93, some 94, some 95, some 96, some 97, some 98, some 99, some 100, some 101, some 102, some 103, some 104, some 105, some 3] [[], [], [1], [2], [], [4], [5], [3, 6], [], [8], [9], [7, 10], [], [12], [13], [14], [15], [11, 16], [0, 17], [18]] [[], [], [1], [1, 2], [], [4], [2, 4, 5], [2, 3, 5, 6], [], [8], [5, 8, 9], [3, 6, 7, 9, 10], [], [12], [12, 13], [13, 14], [9, 14, 15], [7, 10, 11, 15, 16], [0, 11, 16, 17], [0, 1, 2, 3, 4, 5, 6, 7, 8, 9, 10, 11, 12, 13, 14, 15, 16, 17, 18]] [[1, 2, 3, 4, 5, 6, 7, 8, 9, 10, 11, 12, 13, 14, 15, 16, 17], [0, 3, 4, 5, 6, 7, 8, 9, 10, 11, 12, 13, 14, 15, 16, 17, 18], [0, 4, 5, 6, 7, 8, 9, 10, 11, 12, 13, 14, 15, 16, 17, 18], [0, 4, 5, 8, 9, 10, 11, 12, 13, 14, 15, 16, 17, 18], [0, 1, 2, 3, 6, 7, 8, 9, 10, 11, 12, 13, 14, 15, 16, 17, 18], [0, 1, 2, 3, 7, 8, 9, 10, 11, 12, 13, 14, 15, 16, 17, 18], [0, 3, 8, 9, 11, 12, 13, 14, 15, 16, 17, 18], [0, 8, 9, 10, 12, 13, 14, 15, 16, 17, 18], [0, 1, 2, 3, 4, 5, 6, 7, 10, 11, 12, 13, 14, 15, 16, 17, 18], [0, 1, 2, 3, 4, 5, 6, 7, 11, 12, 13, 14, 15, 16, 17, 18], [0, 1, 3, 6, 7, 12, 13, 14, 15, 17, 18], [0, 1, 4, 12, 13, 14, 15, 16, 18], [0, 1, 2, 3, 4, 5, 6, 7, 8, 9, 10, 11, 14, 15, 16, 17, 18], [0, 1, 2, 3, 4, 5, 6, 7, 8, 9, 10, 11, 15, 16, 17, 18], [0, 1, 2, 3, 4, 5, 6, 7, 8, 9, 10, 11, 16, 17, 18], [0, 1, 2, 3, 4, 5, 6, 7, 8, 9, 10, 11, 17, 18], [0, 1, 2, 3, 4, 6, 7, 10, 11, 12, 18], [0, 1, 2, 4, 5, 8, 12, 13], [1, 2, 3, 4, 5, 6, 8, 9, 12, 13, 14], []] [0, 1, 2, 3, 4, 5, 6, 7, 8, 9, 10, 11, 12, 13, 14, 15, 16, 17, 18, 19] 20 (by kernel_rfl) (by kernel_rfl) (by kernel_rfl) (by kernel_rfl) ?rS (fun j h1 h2 => absurd (Nat.lt_of_lt_of_le h1 (Nat.le_trans (by decide) h2)) (Nat.lt_irrefl _)) ?rT ?rE
     case rS => exact below_drewN (Below.refl _ _) 1
     case rT =>
      refine RelySteps.cons (RelyStep.mk [] [1, 2, 3, 4, 5, 6, 7, 8, 9, 10, 11, 12, 13, 14, 15, 16, 17] rfl rfl rfl (fun xv wS hS hV bq hb K hK => ?_)) ?_
      ·clear hV
       simp only [putsOf, List.foldl_cons, List.foldl_nil, List.getD_cons_zero, List.getD_cons_succ, List.getD_nil, cond_true, cond_false, Act.put, List.setIfInBounds_toArray, List.set_cons_zero, List.set_cons_succ] at hb
       subst hb
       rw [if_pos (by rfl)]
       go_wp2_with fail
       exact hK.out _ _ ⟨_, rfl, hS, rfl, AllP.same _⟩
      refine RelySteps.cons (RelyStep.mk [] [0, 3, 4, 5, 6, 7, 8, 9, 10, 11, 12, 13, 14, 15, 16, 17, 18] rfl rfl rfl (fun xv wS hS hV bq hb K hK => ?_)) ?_
      ·clear hV
       simp only [putsOf, List.foldl_cons, List.foldl_nil, List.getD_cons_zero, List.getD_cons_succ, List.getD_nil, cond_true, cond_false, Act.put, List.setIfInBounds_toArray, List.set_cons_zero, List.set_cons_succ] at hb
       subst hb
       rw [if_pos (by rfl)]
       go_wp2_with fail
       exact hK.out _ _ ⟨_, rfl, hS, rfl, AllP.same _⟩
      refine RelySteps.cons (RelyStep.mk [1] [0, 4, 5, 6, 7, 8, 9, 10, 11, 12, 13, 14, 15, 16, 17, 18] rfl rfl rfl (fun xv wS hS hV bq hb K hK => ?_)) ?_
      ·obtain ⟨h1, _⟩ := hV
       have h1 : xv 1 = _ := h1
       simp only [putsOf, List.foldl_cons, List.foldl_nil, List.getD_cons_zero, List.getD_cons_succ, List.getD_nil, cond_true, cond_false, Act.put, List.setIfInBounds_toArray, List.set_cons_zero, List.set_cons_succ, h1] at hb
       clear h1
       subst hb
       rw [if_pos (by rfl)]
       (have l5 := HL.out.below hS HL.out.lt; have c5 := (l5.cell 0).trans (show _ = some (Value.int .u64 (x.tl : Int)) from rfl); have c6 := l5.lt; clear l5)
       go_wp2_with fail
       exact hK.out _ _ ⟨_, rfl, hS, rfl, AllP.same _⟩
      refine RelySteps.cons (RelyStep.mk [2] [0, 4, 5, 8, 9, 10, 11, 12, 13, 14, 15, 16, 17, 18] rfl rfl rfl (fun xv wS hS hV bq hb K hK => ?_)) ?_
      ·obtain ⟨h2, _⟩ := hV
       have h2 : xv 2 = _ := h2
       simp only [putsOf, List.foldl_cons, List.foldl_nil, List.getD_cons_zero, List.getD_cons_succ, List.getD_nil, cond_true, cond_false, Act.put, List.setIfInBounds_toArray, List.set_cons_zero, List.set_cons_succ, h2] at hb
       clear h2
       subst hb
       rw [if_pos (by rfl)]
       have HSS := Lib.hid hS
       skip
       clear hS
       go_wp2_with fail
       refine (refNum1 x.tl wS htl).mono ?_
       rintro e w9 ⟨rfl, hb⟩
       exact hK.out _ _ ⟨_, rfl, then_ HSS.out hb, rfl, AllP.of _ (fun j _ _ h => bfV_below hb h)⟩
      refine RelySteps.cons (RelyStep.mk [] [0, 1, 2, 3, 6, 7, 8, 9, 10, 11, 12, 13, 14, 15, 16, 17, 18] rfl rfl rfl (fun xv wS hS hV bq hb K hK => ?_)) ?_
      ·clear hV
       simp only [putsOf, List.foldl_cons, List.foldl_nil, List.getD_cons_zero, List.getD_cons_succ, List.getD_nil, cond_true, cond_false, Act.put, List.setIfInBounds_toArray, List.set_cons_zero, List.set_cons_succ] at hb
       subst hb
       rw [if_pos (by rfl)]
       go_wp2_with fail
       exact hK.out _ _ ⟨_, rfl, hS, rfl, AllP.same _⟩
      refine RelySteps.cons (RelyStep.mk [4] [0, 1, 2, 3, 7, 8, 9, 10, 11, 12, 13, 14, 15, 16, 17, 18] rfl rfl rfl (fun xv wS hS hV bq hb K hK => ?_)) ?_
      ·obtain ⟨h4, _⟩ := hV
       have h4 : xv 4 = _ := h4
       simp only [putsOf, List.foldl_cons, List.foldl_nil, List.getD_cons_zero, List.getD_cons_succ, List.getD_nil, cond_true, cond_false, Act.put, List.setIfInBounds_toArray, List.set_cons_zero, List.set_cons_succ, h4] at hb
       clear h4
       subst hb
       rw [if_pos (by rfl)]
       (have l5 := HL.out.below hS HL.out.lt; have c5 := (l5.cell 1).trans (show _ = some (Value.slice S1 x.hs.length d1) from rfl); have c6 := l5.lt; clear l5)
       go_wp2_with fail
       exact hK.out _ _ ⟨_, rfl, hS, rfl, AllP.same _⟩
      refine RelySteps.cons (RelyStep.mk [5] [0, 3, 8, 9, 11, 12, 13, 14, 15, 16, 17, 18] rfl rfl rfl (fun xv wS hS hV bq hb K hK => ?_)) ?_
      ·obtain ⟨h5, _⟩ := hV
       have h5 : xv 5 = _ := h5
       simp only [putsOf, List.foldl_cons, List.foldl_nil, List.getD_cons_zero, List.getD_cons_succ, List.getD_nil, cond_true, cond_false, Act.put, List.setIfInBounds_toArray, List.set_cons_zero, List.set_cons_succ, h5] at hb
       clear h5
       subst hb
       rw [if_pos (by rfl)]
       have HSS := Lib.hid hS
       skip
       clear hS
       go_wp2_with fail
       refine (refList1 S1 d1 x.hs.length x.hs wS (HSQ.out.later (HI1.out.later HSS.out).1) HHB.out (by omega)).mono ?_
       rintro e w9 ⟨rfl, hb⟩
       exact hK.out _ _ ⟨_, rfl, then_ HSS.out hb, rfl, AllP.of _ (fun j _ _ h => bfV_below hb h)⟩
      refine RelySteps.cons (RelyStep.mk [3, 6] [0, 8, 9, 10, 12, 13, 14, 15, 16, 17, 18] rfl rfl rfl (fun xv wS hS hV bq hb K hK => ?_)) ?_
      ·obtain ⟨h3, h6, _⟩ := hV
       have h3 : xv 3 = _ := h3
       have h6 : xv 6 = _ := h6
       simp only [putsOf, List.foldl_cons, List.foldl_nil, List.getD_cons_zero, List.getD_cons_succ, List.getD_nil, cond_true, cond_false, Act.put, List.setIfInBounds_toArray, List.set_cons_zero, List.set_cons_succ, h3, h6] at hb
       clear h3
       clear h6
       subst hb
       rw [if_pos (by rfl)]
       (have ha := addS [x.tl] (x.hs.length :: x.hs) (cat [x.tl] (x.hs.length :: x.hs)) rfl (by simp; omega))
       go_wp2_with fail
       exact hK.out _ _ ⟨_, rfl, hS, rfl, AllP.same _⟩
      refine RelySteps.cons (RelyStep.mk [] [0, 1, 2, 3, 4, 5, 6, 7, 10, 11, 12, 13, 14, 15, 16, 17, 18] rfl rfl rfl (fun xv wS hS hV bq hb K hK => ?_)) ?_
      ·clear hV
       simp only [putsOf, List.foldl_cons, List.foldl_nil, List.getD_cons_zero, List.getD_cons_succ, List.getD_nil, cond_true, cond_false, Act.put, List.setIfInBounds_toArray, List.set_cons_zero, List.set_cons_succ] at hb
       subst hb
       rw [if_pos (by rfl)]
       go_wp2_with fail
       exact hK.out _ _ ⟨_, rfl, hS, rfl, AllP.same _⟩
      refine RelySteps.cons (RelyStep.mk [8] [0, 1, 2, 3, 4, 5, 6, 7, 11, 12, 13, 14, 15, 16, 17, 18] rfl rfl rfl (fun xv wS hS hV bq hb K hK => ?_)) ?_
      ·obtain ⟨h8, _⟩ := hV
       have h8 : xv 8 = _ := h8
       simp only [putsOf, List.foldl_cons, List.foldl_nil, List.getD_cons_zero, List.getD_cons_succ, List.getD_nil, cond_true, cond_false, Act.put, List.setIfInBounds_toArray, List.set_cons_zero, List.set_cons_succ, h8] at hb
       clear h8
       subst hb
       rw [if_pos (by rfl)]
       (have l5 := HL.out.below hS HL.out.lt; have c5 := (l5.cell 2).trans (show _ = some (Value.bool x.cl) from rfl); have c6 := l5.lt; clear l5)
       go_wp2_with fail
       exact hK.out _ _ ⟨_, rfl, hS, rfl, AllP.same _⟩
      refine RelySteps.cons (RelyStep.mk [9] [0, 1, 3, 6, 7, 12, 13, 14, 15, 17, 18] rfl rfl rfl (fun xv wS hS hV bq hb K hK => ?_)) ?_
      ·obtain ⟨h9, _⟩ := hV
       have h9 : xv 9 = _ := h9
       simp only [putsOf, List.foldl_cons, List.foldl_nil, List.getD_cons_zero, List.getD_cons_succ, List.getD_nil, cond_true, cond_false, Act.put, List.setIfInBounds_toArray, List.set_cons_zero, List.set_cons_succ, h9] at hb
       clear h9
       subst hb
       rw [if_pos (by rfl)]
       have HSS := Lib.hid hS
       skip
       clear hS
       go_wp2_with fail
       refine (refIs1 x.cl wS).mono ?_
       rintro e w9 ⟨rfl, hb⟩
       exact hK.out _ _ ⟨_, rfl, then_ HSS.out hb, rfl, AllP.of _ (fun j _ _ h => bfV_below hb h)⟩
      refine RelySteps.cons (RelyStep.mk [7, 10] [0, 1, 4, 12, 13, 14, 15, 16, 18] rfl rfl rfl (fun xv wS hS hV bq hb K hK => ?_)) ?_
      ·obtain ⟨h7, h10, _⟩ := hV
       have h7 : xv 7 = _ := h7
       have h10 : xv 10 = _ := h10
       simp only [putsOf, List.foldl_cons, List.foldl_nil, List.getD_cons_zero, List.getD_cons_succ, List.getD_nil, cond_true, cond_false, Act.put, List.setIfInBounds_toArray, List.set_cons_zero, List.set_cons_succ, h7, h10] at hb
       clear h7
       clear h10
       subst hb
       rw [if_pos (by rfl)]
       (have ha := addS (cat [x.tl] (x.hs.length :: x.hs)) [tru x.cl] (cat (cat [x.tl] (x.hs.length :: x.hs)) [tru x.cl]) rfl (by unfold cat; simp; omega))
       go_wp2_with fail
       exact hK.out _ _ ⟨_, rfl, hS, rfl, AllP.same _⟩
      refine RelySteps.cons (RelyStep.mk [] [0, 1, 2, 3, 4, 5, 6, 7, 8, 9, 10, 11, 14, 15, 16, 17, 18] rfl rfl rfl (fun xv wS hS hV bq hb K hK => ?_)) ?_
      ·clear hV
       simp only [putsOf, List.foldl_cons, List.foldl_nil, List.getD_cons_zero, List.getD_cons_succ, List.getD_nil, cond_true, cond_false, Act.put, List.setIfInBounds_toArray, List.set_cons_zero, List.set_cons_succ] at hb
       subst hb
       rw [if_pos (by rfl)]
       go_wp2_with fail
       exact hK.out _ _ ⟨_, rfl, hS, rfl, AllP.same _⟩
      refine RelySteps.cons (RelyStep.mk [12] [0, 1, 2, 3, 4, 5, 6, 7, 8, 9, 10, 11, 15, 16, 17, 18] rfl rfl rfl (fun xv wS hS hV bq hb K hK => ?_)) ?_
      ·obtain ⟨h12, _⟩ := hV
       have h12 : xv 12 = _ := h12
       simp only [putsOf, List.foldl_cons, List.foldl_nil, List.getD_cons_zero, List.getD_cons_succ, List.getD_nil, cond_true, cond_false, Act.put, List.setIfInBounds_toArray, List.set_cons_zero, List.set_cons_succ, h12] at hb
       clear h12
       subst hb
       rw [if_pos (by rfl)]
       (have l5 := HL.out.below hS HL.out.lt; have c5 := (l5.cell 3).trans (show _ = some (Value.slice S2 x.sl.length d2) from rfl); have c6 := l5.lt; clear l5)
       go_wp2_with fail
       exact hK.out _ _ ⟨_, rfl, hS, rfl, AllP.same _⟩
      refine RelySteps.cons (RelyStep.mk [13] [0, 1, 2, 3, 4, 5, 6, 7, 8, 9, 10, 11, 16, 17, 18] rfl rfl rfl (fun xv wS hS hV bq hb K hK => ?_)) ?_
      ·obtain ⟨h13, _⟩ := hV
       have h13 : xv 13 = _ := h13
       simp only [putsOf, List.foldl_cons, List.foldl_nil, List.getD_cons_zero, List.getD_cons_succ, List.getD_nil, cond_true, cond_false, Act.put, List.setIfInBounds_toArray, List.set_cons_zero, List.set_cons_succ, h13] at hb
       clear h13
       subst hb
       rw [if_pos (by rfl)]
       go_wp2_with fail
       exact hK.out _ _ ⟨_, rfl, hS, rfl, AllP.same _⟩
      refine RelySteps.cons (RelyStep.mk [14] [0, 1, 2, 3, 4, 5, 6, 7, 8, 9, 10, 11, 17, 18] rfl rfl rfl (fun xv wS hS hV bq hb K hK => ?_)) ?_
      ·obtain ⟨h14, _⟩ := hV
       have h14 : xv 14 = _ := h14
       simp only [putsOf, List.foldl_cons, List.foldl_nil, List.getD_cons_zero, List.getD_cons_succ, List.getD_nil, cond_true, cond_false, Act.put, List.setIfInBounds_toArray, List.set_cons_zero, List.set_cons_succ, h14] at hb
       clear h14
       subst hb
       rw [if_pos (by rfl)]
       go_wp2_with fail
       exact hK.out _ _ ⟨_, rfl, hS, rfl, AllP.same _⟩
      refine RelySteps.cons (RelyStep.mk [15] [0, 1, 2, 3, 4, 6, 7, 10, 11, 12, 18] rfl rfl rfl (fun xv wS hS hV bq hb K hK => ?_)) ?_
      ·obtain ⟨h15, _⟩ := hV
       have h15 : xv 15 = _ := h15
       simp only [putsOf, List.foldl_cons, List.foldl_nil, List.getD_cons_zero, List.getD_cons_succ, List.getD_nil, cond_true, cond_false, Act.put, List.setIfInBounds_toArray, List.set_cons_zero, List.set_cons_succ, h15] at hb
       clear h15
       subst hb
       rw [if_pos (by rfl)]
       have HSS := Lib.hid hS
       skip
       clear hS
       go_wp2_with fail
       refine (refNum1 x.sl.length wS (by unfold M64; omega)).mono ?_
       rintro e w9 ⟨rfl, hb⟩
       exact hK.out _ _ ⟨_, rfl, then_ HSS.out hb, rfl, AllP.of _ (fun j _ _ h => bfV_below hb h)⟩
      refine RelySteps.cons (RelyStep.mk [11, 16] [0, 1, 2, 4, 5, 8, 12, 13] rfl rfl rfl (fun xv wS hS hV bq hb K hK => ?_)) ?_
      ·obtain ⟨h11, h16, _⟩ := hV
       have h11 : xv 11 = _ := h11
       have h16 : xv 16 = _ := h16
       simp only [putsOf, List.foldl_cons, List.foldl_nil, List.getD_cons_zero, List.getD_cons_succ, List.getD_nil, cond_true, cond_false, Act.put, List.setIfInBounds_toArray, List.set_cons_zero, List.set_cons_succ, h11, h16] at hb
       clear h11
       clear h16
       subst hb
       rw [if_pos (by rfl)]
       (have ha := addS (cat (cat [x.tl] (x.hs.length :: x.hs)) [tru x.cl]) [x.sl.length] (cat (cat (cat [x.tl] (x.hs.length :: x.hs)) [tru x.cl]) [x.sl.length]) rfl (by unfold cat; simp; omega))
       go_wp2_with fail
       exact hK.out _ _ ⟨_, rfl, hS, rfl, AllP.same _⟩
      refine RelySteps.cons (RelyStep.mk [0, 17] [1, 2, 3, 4, 5, 6, 8, 9, 12, 13, 14] rfl rfl rfl (fun xv wS hS hV bq hb K hK => ?_)) ?_
      ·obtain ⟨h0, h17, _⟩ := hV
       have h0 : xv 0 = _ := h0
       have h17 : xv 17 = _ := h17
       simp only [putsOf, List.foldl_cons, List.foldl_nil, List.getD_cons_zero, List.getD_cons_succ, List.getD_nil, cond_true, cond_false, Act.put, List.setIfInBounds_toArray, List.set_cons_zero, List.set_cons_succ, h0, h17] at hb
       clear h0
       clear h17
       subst hb
       rw [if_pos (by rfl)]
       (have ha := addS L1 (cat (cat (cat [x.tl] (x.hs.length :: x.hs)) [tru x.cl]) [x.sl.length]) (cat L1 (cat (cat (cat [x.tl] (x.hs.length :: x.hs)) [tru x.cl]) [x.sl.length])) rfl (by unfold cat; simp; omega))
       go_wp2_with fail
       exact hK.out _ _ ⟨_, rfl, hS, rfl, AllP.same _⟩
      refine RelySteps.cons (RelyStep.mk [18] [] rfl rfl rfl (fun xv wS hS hV bq hb K hK => ?_)) ?_
      ·obtain ⟨h18, _⟩ := hV
       have h18 : xv 18 = _ := h18
       simp only [putsOf, List.foldl_cons, List.foldl_nil, List.getD_cons_zero, List.getD_cons_succ, List.getD_nil, cond_true, cond_false, Act.put, List.setIfInBounds_toArray, List.set_cons_zero, List.set_cons_succ, h18] at hb
       clear h18
       subst hb
       rw [if_pos (by rfl)]
       go_wp2_with fail
       exact hK.out _ _ ⟨_, rfl, hS, rfl, AllP.same _⟩
      exact RelySteps.nil
     case rE =>
      intro xv wE hS hV
      have h19 := hV 19 (by decide) (by decide)
      clear hV
      simp only [putsOf, List.foldl_cons, List.foldl_nil, List.getD_cons_zero, List.getD_cons_succ, List.getD_nil, cond_true, cond_false, Act.put, List.setIfInBounds_toArray, List.set_cons_zero, List.set_cons_succ]
      have h19 : xv 19 = _ := h19
      rw [h19]; clear h19
      generalize xv 0 = y0 at *
      generalize xv 1 = y1 at *
      generalize xv 2 = y2 at *
      generalize xv 3 = y3 at *
      generalize xv 4 = y4 at *
      generalize xv 5 = y5 at *
      generalize xv 6 = y6 at *
      generalize xv 7 = y7 at *
      generalize xv 8 = y8 at *
      generalize xv 9 = y9 at *
      generalize xv 10 = y10 at *
      generalize xv 11 = y11 at *
      generalize xv 12 = y12 at *
      generalize xv 13 = y13 at *
      generalize xv 14 = y14 at *
      generalize xv 15 = y15 at *
      generalize xv 16 = y16 at *
      generalize xv 17 = y17 at *
      generalize xv 18 = y18 at *
      have HL7 := Lib.hid (HL.out.below hS HL.out.lt)
      have HI7 := Lib.hid (HI1.out.later hS)
      clear h19 hS HL HI1
      generalize wE = w7 at *
      obtain ⟨M1, hM1⟩ : ∃ M, cat L1 (cat (cat (cat [x.tl] (x.hs.length :: x.hs)) [tru x.cl]) [x.sl.length]) = M := ⟨_, rfl⟩
      rw [hM1]
      have HM1 : Hid (M1 = pR L0 S k ++ [x.tl] ++ (x.hs.length :: x.hs) ++ [tru x.cl, x.sl.length]) := by
       show M1 = _
       rw [← hM1, ← HL1.out]; unfold cat; simp
      have hM1l : M1.length ≤ 600001 + k * 65600 + 20 := by
       rw [← hM1]; unfold cat; simp; omega
      have eL : M1 = pL M1 x 0 := by unfold pL; simp
      rw [eL]
      clear eL hM1
      go_wp2_with fail
      go_loopw [3, 9] (fun t u wr => ∃ j : Nat, j ≤ x.sl.length ∧ t = .string (sN (pL M1 x j)) ∧ u = .int .i64 j ∧ Hid (SxAt w (stC (.slice A S.th.length c) (.slice (some ⟨T, o, none⟩) S.rg.length d) now rds en) wr) ∧ Hid (Lies wr g5 54 (rgC2 x.tl (.slice S1 x.hs.length d1) x.cl (.slice S2 x.sl.length d2)))) (fun _ u _ => x.sl.length - (intOf u).toNat)
      case atStart => exact ⟨0, by omega, rfl, rfl, HI7, HL7⟩
      case round =>
       clear HI7 HL7
       obtain ⟨j, hj, rfl, rfl, HI7, HL7⟩ := hrel
       have y3 := (HL7.out.cell 3).trans (show _ = some (Value.slice S2 x.sl.length d2) from rfl)
       have yl := HL7.out.lt
       by_cases hlj : j < x.sl.length
       ·have hji : (j : Int) < (x.sl.length : Int) := by omega
        obtain ⟨y, hy⟩ : ∃ y, x.sl[j]? = some y := ⟨_, List.getElem?_eq_getElem hlj⟩
        obtain ⟨b3, o3, rfl, hbl, hc3⟩ := SeqS.at_ slF_length (by decide) HSLQ.out hy
        obtain ⟨a5, ea5, ha5⟩ := smB_of (HSA.out y (List.mem_of_getElem? hy))
        obtain ⟨v1, v2, _⟩ := HSB.out y (List.mem_of_getElem? hy)
        have z0 := Lib.hid (hc3 0 _ (by decide) (show (slF y)[0]? = some (Value.int .u64 (y.s : Int)) from rfl))
        have z1 := Lib.hid (hc3 1 _ (by decide) (show (slF y)[1]? = some (Value.int .u64 (y.v : Int)) from rfl))
        have z2 := Lib.hid (hc3 2 _ (by decide) (show (slF y)[2]? = some (Value.int .i64 (a5 : Int)) by rw [← ea5]; rfl))
        have HFS := Lib.hid (flat_take (f := slL) hy)
        have HSLY : Hid (slL y = [y.s, y.v, a5]) := by
         show slL y = _
         unfold slL; rw [ea5]; rfl
        have q6 : IntKind.u64.wrap (a5 : Int) = (a5 : Int) := IntWalk.u64_in _ (by omega)
        have hsx : (pL M1 x j).length ≤ 600001 + k * 65600 + 20 + j * 3 := by
         have := flat_le (f := slL) (c := 3) (x.sl.take j) (fun y _ => by simp [slL])
         rw [List.length_take, Nat.min_eq_left hj] at this
         unfold pL; rw [List.length_append]; omega
        clear hc3 ea5 hy
        go_wp2_with fail
        clear y3 yl
        obtain ⟨L2, hL2⟩ : ∃ L, pL M1 x j = L := ⟨_, rfl⟩
        rw [hL2]
        rw [hL2] at hsx
        have HL2 : Hid (pL M1 x j = L2) := hL2
        clear hL2
        refine wp_region_rely (fun q => Below wr.heap.size wr q) (bfV [.eq (.string (sN L2)), .eq (.pointer (some ⟨g5, 3, none⟩)), .eq (.slice (some ⟨b3, o3, none⟩) x.sl.length d2), .eq (.int .i64 (j : Int)), .eq (.pointer (some ⟨b3, o3 + j * 3, none⟩)), .eq (.pointer (some ⟨b3, o3 + j * 3, none⟩)), .eq (.int .u64 (y.s : Int)), .eq (.string (sN [y.s])), .eq (.pointer (some ⟨g5, 3, none⟩)), .eq (.slice (some ⟨b3, o3, none⟩) x.sl.length d2), .eq (.int .i64 (j : Int)), .eq (.pointer (some ⟨b3, o3 + j * 3, none⟩)), .eq (.pointer (some ⟨b3, o3 + j * 3 + 1, none⟩)), .eq (.int .u64 (y.v : Int)), .eq (.string (sN [y.v])), .eq (.string (sN [y.s, y.v])), .eq (.pointer (some ⟨g5, 3, none⟩)), .eq (.slice (some ⟨b3, o3, none⟩) x.sl.length d2), .eq (.int .i64 (j : Int)), .eq (.pointer (some ⟨b3, o3 + j * 3, none⟩)), .eq (.pointer (some ⟨b3, o3 + j * 3 + 2, none⟩)), .eq (.int .i64 (a5 : Int)), .eq (.int .u64 (a5 : Int)), .eq (.string (sN [a5])), .eq (.string (sN [y.s, y.v, a5])), .eq (.string (sN (cat L2 [y.s, y.v, a5]))), .eq (.string (sN (cat L2 [y.s, y.v, a5])))]) [some 113, some 114, some 115, some 116, some 117, some 118, some 119, some 120, some 121, some 122, some 123, some 124, some 125, some 126, some 127, some 128, some 129, some 130, some 131, some 132, some 133, some 134, some 135, some 136, some 137, some 138, some 3] [[], [], [1], [], [2, 3], [4], [5], [6], [], [8], [], [9, 10], [11], [12], [13], [7, 14], [], [16], [], [17, 18], [19], [20], [21], [22], [15, 23], [0, 24], [25]] [[], [], [1], [], [1, 2, 3], [2, 3, 4], [4, 5], [5, 6], [], [8], [], [8, 9, 10], [9, 10, 11], [11, 12], [6, 12, 13], [6, 7, 13, 14], [], [16], [], [16, 17, 18], [17, 18, 19], [19, 20], [20, 21], [13, 21, 22], [7, 14, 15, 22, 23], [0, 15, 23, 24], [0, 1, 2, 3, 4, 5, 6, 7, 8, 9, 10, 11, 12, 13, 14, 15, 16, 17, 18, 19, 20, 21, 22, 23, 24, 25]] [[1, 2, 3, 4, 5, 6, 7, 8, 9, 10, 11, 12, 13, 14, 15, 16, 17, 18, 19, 20, 21, 22, 23, 24], [0, 3, 4, 5, 6, 7, 8, 9, 10, 11, 12, 13, 14, 15, 16, 17, 18, 19, 20, 21, 22, 23, 24, 25], [0, 3, 5, 6, 7, 8, 9, 10, 11, 12, 13, 14, 15, 16, 17, 18, 19, 20, 21, 22, 23, 24, 25], [0, 1, 2, 5, 6, 7, 8, 9, 10, 11, 12, 13, 14, 15, 16, 17, 18, 19, 20, 21, 22, 23, 24, 25], [0, 6, 7, 8, 9, 10, 11, 12, 13, 14, 15, 16, 17, 18, 19, 20, 21, 22, 23, 24, 25], [0, 7, 8, 9, 10, 11, 12, 13, 14, 15, 16, 17, 18, 19, 20, 21, 22, 23, 24, 25], [0, 1, 8, 9, 10, 11, 12, 13, 14, 15, 16, 17, 18, 19, 20, 21, 22, 23, 24, 25], [0, 1, 2, 3, 8, 9, 10, 11, 12, 13, 16, 17, 18, 19, 20, 21, 22, 23, 24, 25], [0, 1, 2, 3, 4, 5, 6, 7, 10, 11, 12, 13, 14, 15, 16, 17, 18, 19, 20, 21, 22, 23, 24, 25], [0, 1, 2, 3, 4, 5, 6, 7, 10, 12, 13, 14, 15, 16, 17, 18, 19, 20, 21, 22, 23, 24, 25], [0, 1, 2, 3, 4, 5, 6, 7, 8, 9, 12, 13, 14, 15, 16, 17, 18, 19, 20, 21, 22, 23, 24, 25], [0, 1, 2, 3, 4, 5, 6, 7, 13, 14, 15, 16, 17, 18, 19, 20, 21, 22, 23, 24, 25], [0, 1, 2, 3, 4, 5, 6, 7, 14, 15, 16, 17, 18, 19, 20, 21, 22, 23, 24, 25], [0, 1, 2, 3, 4, 5, 6, 7, 8, 15, 16, 17, 18, 19, 20, 21, 22, 23, 24, 25], [0, 1, 2, 3, 4, 7, 8, 9, 10, 16, 17, 18, 19, 20, 21, 22, 24, 25], [0, 1, 2, 3, 4, 8, 9, 10, 11, 16, 17, 18, 19, 20, 21, 22, 23, 25], [0, 1, 2, 3, 4, 5, 6, 7, 8, 9, 10, 11, 12, 13, 14, 15, 18, 19, 20, 21, 22, 23, 24, 25], [0, 1, 2, 3, 4, 5, 6, 7, 8, 9, 10, 11, 12, 13, 14, 15, 18, 20, 21, 22, 23, 24, 25], [0, 1, 2, 3, 4, 5, 6, 7, 8, 9, 10, 11, 12, 13, 14, 15, 16, 17, 20, 21, 22, 23, 24, 25], [0, 1, 2, 3, 4, 5, 6, 7, 8, 9, 10, 11, 12, 13, 14, 15, 21, 22, 23, 24, 25], [0, 1, 2, 3, 4, 5, 6, 7, 8, 9, 10, 11, 12, 13, 14, 15, 22, 23, 24, 25], [0, 1, 2, 3, 4, 5, 6, 7, 8, 9, 10, 11, 12, 13, 14, 15, 16, 23, 24, 25], [0, 1, 2, 3, 4, 5, 6, 7, 8, 9, 10, 11, 12, 13, 14, 15, 16, 17, 18, 24, 25], [0, 1, 2, 3, 4, 5, 7, 8, 9, 10, 11, 14, 15, 16, 17, 18, 19, 25], [0, 1, 2, 3, 4, 5, 8, 9, 10, 11, 12, 16, 17, 18, 19, 20], [1, 2, 3, 4, 5, 6, 8, 9, 10, 11, 12, 13, 16, 17, 18, 19, 20, 21], []] [0, 1, 2, 3, 4, 5, 6, 7, 8, 9, 10, 11, 12, 13, 14, 15, 16, 17, 18, 19, 20, 21, 22, 23, 24, 25, 26] 27 (by kernel_rfl) (by kernel_rfl) (by kernel_rfl) (by kernel_rfl) ?rS (fun j h1 h2 => absurd (Nat.lt_of_lt_of_le h1 (Nat.le_trans (by decide) h2)) (Nat.lt_irrefl _)) ?rT ?rE
        case rS => exact below_drewN (Below.refl _ _) 1
        case rT =>
         refine RelySteps.cons (RelyStep.mk [] [1, 2, 3, 4, 5, 6, 7, 8, 9, 10, 11, 12, 13, 14, 15, 16, 17, 18, 19, 20, 21, 22, 23, 24] rfl rfl rfl (fun xv wS hS hV bq hb K hK => ?_)) ?_
         ·clear hV
          simp only [putsOf, List.foldl_cons, List.foldl_nil, List.getD_cons_zero, List.getD_cons_succ, List.getD_nil, cond_true, cond_false, Act.put, List.setIfInBounds_toArray, List.set_cons_zero, List.set_cons_succ] at hb
          subst hb
          rw [if_pos (by rfl)]
          go_wp2_with fail
          exact hK.out _ _ ⟨_, rfl, hS, rfl, AllP.same _⟩
         refine RelySteps.cons (RelyStep.mk [] [0, 3, 4, 5, 6, 7, 8, 9, 10, 11, 12, 13, 14, 15, 16, 17, 18, 19, 20, 21, 22, 23, 24, 25] rfl rfl rfl (fun xv wS hS hV bq hb K hK => ?_)) ?_
         ·clear hV
          simp only [putsOf, List.foldl_cons, List.foldl_nil, List.getD_cons_zero, List.getD_cons_succ, List.getD_nil, cond_true, cond_false, Act.put, List.setIfInBounds_toArray, List.set_cons_zero, List.set_cons_succ] at hb
          subst hb
          rw [if_pos (by rfl)]
          go_wp2_with fail
          exact hK.out _ _ ⟨_, rfl, hS, rfl, AllP.same _⟩
         refine RelySteps.cons (RelyStep.mk [1] [0, 3, 5, 6, 7, 8, 9, 10, 11, 12, 13, 14, 15, 16, 17, 18, 19, 20, 21, 22, 23, 24, 25] rfl rfl rfl (fun xv wS hS hV bq hb K hK => ?_)) ?_
         ·obtain ⟨h1, _⟩ := hV
          have h1 : xv 1 = _ := h1
          simp only [putsOf, List.foldl_cons, List.foldl_nil, List.getD_cons_zero, List.getD_cons_succ, List.getD_nil, cond_true, cond_false, Act.put, List.setIfInBounds_toArray, List.set_cons_zero, List.set_cons_succ, h1] at hb
          clear h1
          subst hb
          rw [if_pos (by rfl)]
          (have l5 := HL7.out.below hS HL7.out.lt; have c5 := (l5.cell 3).trans (show _ = some (Value.slice (some ⟨b3, o3, none⟩) x.sl.length d2) from rfl); have c6 := l5.lt; clear l5)
          go_wp2_with fail
          exact hK.out _ _ ⟨_, rfl, hS, rfl, AllP.same _⟩
         refine RelySteps.cons (RelyStep.mk [] [0, 1, 2, 5, 6, 7, 8, 9, 10, 11, 12, 13, 14, 15, 16, 17, 18, 19, 20, 21, 22, 23, 24, 25] rfl rfl rfl (fun xv wS hS hV bq hb K hK => ?_)) ?_
         ·clear hV
          simp only [putsOf, List.foldl_cons, List.foldl_nil, List.getD_cons_zero, List.getD_cons_succ, List.getD_nil, cond_true, cond_false, Act.put, List.setIfInBounds_toArray, List.set_cons_zero, List.set_cons_succ] at hb
          subst hb
          rw [if_pos (by rfl)]
          go_wp2_with fail
          exact hK.out _ _ ⟨_, rfl, hS, rfl, AllP.same _⟩
         refine RelySteps.cons (RelyStep.mk [2, 3] [0, 6, 7, 8, 9, 10, 11, 12, 13, 14, 15, 16, 17, 18, 19, 20, 21, 22, 23, 24, 25] rfl rfl rfl (fun xv wS hS hV bq hb K hK => ?_)) ?_
         ·obtain ⟨h2, h3, _⟩ := hV
          have h2 : xv 2 = _ := h2
          have h3 : xv 3 = _ := h3
          simp only [putsOf, List.foldl_cons, List.foldl_nil, List.getD_cons_zero, List.getD_cons_succ, List.getD_nil, cond_true, cond_false, Act.put, List.setIfInBounds_toArray, List.set_cons_zero, List.set_cons_succ, h2, h3] at hb
          clear h2
          clear h3
          subst hb
          rw [if_pos (by rfl)]
          go_wp2_with fail
          exact hK.out _ _ ⟨_, rfl, hS, rfl, AllP.same _⟩
         refine RelySteps.cons (RelyStep.mk [4] [0, 7, 8, 9, 10, 11, 12, 13, 14, 15, 16, 17, 18, 19, 20, 21, 22, 23, 24, 25] rfl rfl rfl (fun xv wS hS hV bq hb K hK => ?_)) ?_
         ·obtain ⟨h4, _⟩ := hV
          have h4 : xv 4 = _ := h4
          simp only [putsOf, List.foldl_cons, List.foldl_nil, List.getD_cons_zero, List.getD_cons_succ, List.getD_nil, cond_true, cond_false, Act.put, List.setIfInBounds_toArray, List.set_cons_zero, List.set_cons_succ, h4] at hb
          clear h4
          subst hb
          rw [if_pos (by rfl)]
          go_wp2_with fail
          exact hK.out _ _ ⟨_, rfl, hS, rfl, AllP.same _⟩
         refine RelySteps.cons (RelyStep.mk [5] [0, 1, 8, 9, 10, 11, 12, 13, 14, 15, 16, 17, 18, 19, 20, 21, 22, 23, 24, 25] rfl rfl rfl (fun xv wS hS hV bq hb K hK => ?_)) ?_
         ·obtain ⟨h5, _⟩ := hV
          have h5 : xv 5 = _ := h5
          simp only [putsOf, List.foldl_cons, List.foldl_nil, List.getD_cons_zero, List.getD_cons_succ, List.getD_nil, cond_true, cond_false, Act.put, List.setIfInBounds_toArray, List.set_cons_zero, List.set_cons_succ, h5] at hb
          clear h5
          subst hb
          rw [if_pos (by rfl)]
          (have c5 : wS.cell? ⟨b3, o3 + j * 3, none⟩ = some (Value.int .u64 (y.s : Int)) := ((HI7.out.later hS).1.cell (p := ⟨b3, o3 + j * 3, none⟩) hbl).trans z0.out; have c6 := Nat.lt_of_lt_of_le hbl (HI7.out.later hS).1.size)
          go_wp2_with fail
          exact hK.out _ _ ⟨_, rfl, hS, rfl, AllP.same _⟩
         refine RelySteps.cons (RelyStep.mk [6] [0, 1, 2, 3, 8, 9, 10, 11, 12, 13, 16, 17, 18, 19, 20, 21, 22, 23, 24, 25] rfl rfl rfl (fun xv wS hS hV bq hb K hK => ?_)) ?_
         ·obtain ⟨h6, _⟩ := hV
          have h6 : xv 6 = _ := h6
          simp only [putsOf, List.foldl_cons, List.foldl_nil, List.getD_cons_zero, List.getD_cons_succ, List.getD_nil, cond_true, cond_false, Act.put, List.setIfInBounds_toArray, List.set_cons_zero, List.set_cons_succ, h6] at hb
          clear h6
          subst hb
          rw [if_pos (by rfl)]
          have HSS := Lib.hid hS
          skip
          clear hS
          go_wp2_with fail
          refine (refNum1 y.s wS v1).mono ?_
          rintro e w9 ⟨rfl, hb⟩
          exact hK.out _ _ ⟨_, rfl, then_ HSS.out hb, rfl, AllP.of _ (fun j _ _ h => bfV_below hb h)⟩
         refine RelySteps.cons (RelyStep.mk [] [0, 1, 2, 3, 4, 5, 6, 7, 10, 11, 12, 13, 14, 15, 16, 17, 18, 19, 20, 21, 22, 23, 24, 25] rfl rfl rfl (fun xv wS hS hV bq hb K hK => ?_)) ?_
         ·clear hV
          simp only [putsOf, List.foldl_cons, List.foldl_nil, List.getD_cons_zero, List.getD_cons_succ, List.getD_nil, cond_true, cond_false, Act.put, List.setIfInBounds_toArray, List.set_cons_zero, List.set_cons_succ] at hb
          subst hb
          rw [if_pos (by rfl)]
          go_wp2_with fail
          exact hK.out _ _ ⟨_, rfl, hS, rfl, AllP.same _⟩
         refine RelySteps.cons (RelyStep.mk [8] [0, 1, 2, 3, 4, 5, 6, 7, 10, 12, 13, 14, 15, 16, 17, 18, 19, 20, 21, 22, 23, 24, 25] rfl rfl rfl (fun xv wS hS hV bq hb K hK => ?_)) ?_
         ·obtain ⟨h8, _⟩ := hV
          have h8 : xv 8 = _ := h8
          simp only [putsOf, List.foldl_cons, List.foldl_nil, List.getD_cons_zero, List.getD_cons_succ, List.getD_nil, cond_true, cond_false, Act.put, List.setIfInBounds_toArray, List.set_cons_zero, List.set_cons_succ, h8] at hb
          clear h8
          subst hb
          rw [if_pos (by rfl)]
          (have l5 := HL7.out.below hS HL7.out.lt; have c5 := (l5.cell 3).trans (show _ = some (Value.slice (some ⟨b3, o3, none⟩) x.sl.length d2) from rfl); have c6 := l5.lt; clear l5)
          go_wp2_with fail
          exact hK.out _ _ ⟨_, rfl, hS, rfl, AllP.same _⟩
         refine RelySteps.cons (RelyStep.mk [] [0, 1, 2, 3, 4, 5, 6, 7, 8, 9, 12, 13, 14, 15, 16, 17, 18, 19, 20, 21, 22, 23, 24, 25] rfl rfl rfl (fun xv wS hS hV bq hb K hK => ?_)) ?_
         ·clear hV
          simp only [putsOf, List.foldl_cons, List.foldl_nil, List.getD_cons_zero, List.getD_cons_succ, List.getD_nil, cond_true, cond_false, Act.put, List.setIfInBounds_toArray, List.set_cons_zero, List.set_cons_succ] at hb
          subst hb
          rw [if_pos (by rfl)]
          go_wp2_with fail
          exact hK.out _ _ ⟨_, rfl, hS, rfl, AllP.same _⟩
         refine RelySteps.cons (RelyStep.mk [9, 10] [0, 1, 2, 3, 4, 5, 6, 7, 13, 14, 15, 16, 17, 18, 19, 20, 21, 22, 23, 24, 25] rfl rfl rfl (fun xv wS hS hV bq hb K hK => ?_)) ?_
         ·obtain ⟨h9, h10, _⟩ := hV
          have h9 : xv 9 = _ := h9
          have h10 : xv 10 = _ := h10
          simp only [putsOf, List.foldl_cons, List.foldl_nil, List.getD_cons_zero, List.getD_cons_succ, List.getD_nil, cond_true, cond_false, Act.put, List.setIfInBounds_toArray, List.set_cons_zero, List.set_cons_succ, h9, h10] at hb
          clear h9
          clear h10
          subst hb
          rw [if_pos (by rfl)]
          go_wp2_with fail
          exact hK.out _ _ ⟨_, rfl, hS, rfl, AllP.same _⟩
         refine RelySteps.cons (RelyStep.mk [11] [0, 1, 2, 3, 4, 5, 6, 7, 14, 15, 16, 17, 18, 19, 20, 21, 22, 23, 24, 25] rfl rfl rfl (fun xv wS hS hV bq hb K hK => ?_)) ?_
         ·obtain ⟨h11, _⟩ := hV
          have h11 : xv 11 = _ := h11
          simp only [putsOf, List.foldl_cons, List.foldl_nil, List.getD_cons_zero, List.getD_cons_succ, List.getD_nil, cond_true, cond_false, Act.put, List.setIfInBounds_toArray, List.set_cons_zero, List.set_cons_succ, h11] at hb
          clear h11
          subst hb
          rw [if_pos (by rfl)]
          go_wp2_with fail
          exact hK.out _ _ ⟨_, rfl, hS, rfl, AllP.same _⟩
         refine RelySteps.cons (RelyStep.mk [12] [0, 1, 2, 3, 4, 5, 6, 7, 8, 15, 16, 17, 18, 19, 20, 21, 22, 23, 24, 25] rfl rfl rfl (fun xv wS hS hV bq hb K hK => ?_)) ?_
         ·obtain ⟨h12, _⟩ := hV
          have h12 : xv 12 = _ := h12
          simp only [putsOf, List.foldl_cons, List.foldl_nil, List.getD_cons_zero, List.getD_cons_succ, List.getD_nil, cond_true, cond_false, Act.put, List.setIfInBounds_toArray, List.set_cons_zero, List.set_cons_succ, h12] at hb
          clear h12
          subst hb
          rw [if_pos (by rfl)]
          (have c5 : wS.cell? ⟨b3, o3 + j * 3 + 1, none⟩ = some (Value.int .u64 (y.v : Int)) := ((HI7.out.later hS).1.cell (p := ⟨b3, o3 + j * 3 + 1, none⟩) hbl).trans z1.out; have c6 := Nat.lt_of_lt_of_le hbl (HI7.out.later hS).1.size)
          go_wp2_with fail
          exact hK.out _ _ ⟨_, rfl, hS, rfl, AllP.same _⟩
         refine RelySteps.cons (RelyStep.mk [13] [0, 1, 2, 3, 4, 7, 8, 9, 10, 16, 17, 18, 19, 20, 21, 22, 24, 25] rfl rfl rfl (fun xv wS hS hV bq hb K hK => ?_)) ?_
         ·obtain ⟨h13, _⟩ := hV
          have h13 : xv 13 = _ := h13
          simp only [putsOf, List.foldl_cons, List.foldl_nil, List.getD_cons_zero, List.getD_cons_succ, List.getD_nil, cond_true, cond_false, Act.put, List.setIfInBounds_toArray, List.set_cons_zero, List.set_cons_succ, h13] at hb
          clear h13
          subst hb
          rw [if_pos (by rfl)]
          have HSS := Lib.hid hS
          skip
          clear hS
          go_wp2_with fail
          refine (refNum1 y.v wS v2).mono ?_
          rintro e w9 ⟨rfl, hb⟩
          exact hK.out _ _ ⟨_, rfl, then_ HSS.out hb, rfl, AllP.of _ (fun j _ _ h => bfV_below hb h)⟩
         refine RelySteps.cons (RelyStep.mk [7, 14] [0, 1, 2, 3, 4, 8, 9, 10, 11, 16, 17, 18, 19, 20, 21, 22, 23, 25] rfl rfl rfl (fun xv wS hS hV bq hb K hK => ?_)) ?_
         ·obtain ⟨h7, h14, _⟩ := hV
          have h7 : xv 7 = _ := h7
          have h14 : xv 14 = _ := h14
          simp only [putsOf, List.foldl_cons, List.foldl_nil, List.getD_cons_zero, List.getD_cons_succ, List.getD_nil, cond_true, cond_false, Act.put, List.setIfInBounds_toArray, List.set_cons_zero, List.set_cons_succ, h7, h14] at hb
          clear h7
          clear h14
          subst hb
          rw [if_pos (by rfl)]
          (have ha := addS [y.s] [y.v] [y.s, y.v] rfl (by simp only [List.length_cons, List.length_nil]; omega))
          go_wp2_with fail
          exact hK.out _ _ ⟨_, rfl, hS, rfl, AllP.same _⟩
         refine RelySteps.cons (RelyStep.mk [] [0, 1, 2, 3, 4, 5, 6, 7, 8, 9, 10, 11, 12, 13, 14, 15, 18, 19, 20, 21, 22, 23, 24, 25] rfl rfl rfl (fun xv wS hS hV bq hb K hK => ?_)) ?_
         ·clear hV
          simp only [putsOf, List.foldl_cons, List.foldl_nil, List.getD_cons_zero, List.getD_cons_succ, List.getD_nil, cond_true, cond_false, Act.put, List.setIfInBounds_toArray, List.set_cons_zero, List.set_cons_succ] at hb
          subst hb
          rw [if_pos (by rfl)]
          go_wp2_with fail
          exact hK.out _ _ ⟨_, rfl, hS, rfl, AllP.same _⟩
         refine RelySteps.cons (RelyStep.mk [16] [0, 1, 2, 3, 4, 5, 6, 7, 8, 9, 10, 11, 12, 13, 14, 15, 18, 20, 21, 22, 23, 24, 25] rfl rfl rfl (fun xv wS hS hV bq hb K hK => ?_)) ?_
         ·obtain ⟨h16, _⟩ := hV
          have h16 : xv 16 = _ := h16
          simp only [putsOf, List.foldl_cons, List.foldl_nil, List.getD_cons_zero, List.getD_cons_succ, List.getD_nil, cond_true, cond_false, Act.put, List.setIfInBounds_toArray, List.set_cons_zero, List.set_cons_succ, h16] at hb
          clear h16
          subst hb
          rw [if_pos (by rfl)]
          (have l5 := HL7.out.below hS HL7.out.lt; have c5 := (l5.cell 3).trans (show _ = some (Value.slice (some ⟨b3, o3, none⟩) x.sl.length d2) from rfl); have c6 := l5.lt; clear l5)
          go_wp2_with fail
          exact hK.out _ _ ⟨_, rfl, hS, rfl, AllP.same _⟩
         refine RelySteps.cons (RelyStep.mk [] [0, 1, 2, 3, 4, 5, 6, 7, 8, 9, 10, 11, 12, 13, 14, 15, 16, 17, 20, 21, 22, 23, 24, 25] rfl rfl rfl (fun xv wS hS hV bq hb K hK => ?_)) ?_
         ·clear hV
          simp only [putsOf, List.foldl_cons, List.foldl_nil, List.getD_cons_zero, List.getD_cons_succ, List.getD_nil, cond_true, cond_false, Act.put, List.setIfInBounds_toArray, List.set_cons_zero, List.set_cons_succ] at hb
          subst hb
          rw [if_pos (by rfl)]
          go_wp2_with fail
          exact hK.out _ _ ⟨_, rfl, hS, rfl, AllP.same _⟩
         refine RelySteps.cons (RelyStep.mk [17, 18] [0, 1, 2, 3, 4, 5, 6, 7, 8, 9, 10, 11, 12, 13, 14, 15, 21, 22, 23, 24, 25] rfl rfl rfl (fun xv wS hS hV bq hb K hK => ?_)) ?_
         ·obtain ⟨h17, h18, _⟩ := hV
          have h17 : xv 17 = _ := h17
          have h18 : xv 18 = _ := h18
          simp only [putsOf, List.foldl_cons, List.foldl_nil, List.getD_cons_zero, List.getD_cons_succ, List.getD_nil, cond_true, cond_false, Act.put, List.setIfInBounds_toArray, List.set_cons_zero, List.set_cons_succ, h17, h18] at hb
          clear h17
          clear h18
          subst hb
          rw [if_pos (by rfl)]
          go_wp2_with fail
          exact hK.out _ _ ⟨_, rfl, hS, rfl, AllP.same _⟩
         refine RelySteps.cons (RelyStep.mk [19] [0, 1, 2, 3, 4, 5, 6, 7, 8, 9, 10, 11, 12, 13, 14, 15, 22, 23, 24, 25] rfl rfl rfl (fun xv wS hS hV bq hb K hK => ?_)) ?_
         ·obtain ⟨h19, _⟩ := hV
          have h19 : xv 19 = _ := h19
          simp only [putsOf, List.foldl_cons, List.foldl_nil, List.getD_cons_zero, List.getD_cons_succ, List.getD_nil, cond_true, cond_false, Act.put, List.setIfInBounds_toArray, List.set_cons_zero, List.set_cons_succ, h19] at hb
          clear h19
          subst hb
          rw [if_pos (by rfl)]
          go_wp2_with fail
          exact hK.out _ _ ⟨_, rfl, hS, rfl, AllP.same _⟩
         refine RelySteps.cons (RelyStep.mk [20] [0, 1, 2, 3, 4, 5, 6, 7, 8, 9, 10, 11, 12, 13, 14, 15, 16, 23, 24, 25] rfl rfl rfl (fun xv wS hS hV bq hb K hK => ?_)) ?_
         ·obtain ⟨h20, _⟩ := hV
          have h20 : xv 20 = _ := h20
          simp only [putsOf, List.foldl_cons, List.foldl_nil, List.getD_cons_zero, List.getD_cons_succ, List.getD_nil, cond_true, cond_false, Act.put, List.setIfInBounds_toArray, List.set_cons_zero, List.set_cons_succ, h20] at hb
          clear h20
          subst hb
          rw [if_pos (by rfl)]
          (have c5 : wS.cell? ⟨b3, o3 + j * 3 + 2, none⟩ = some (Value.int .i64 (a5 : Int)) := ((HI7.out.later hS).1.cell (p := ⟨b3, o3 + j * 3 + 2, none⟩) hbl).trans z2.out; have c6 := Nat.lt_of_lt_of_le hbl (HI7.out.later hS).1.size)
          go_wp2_with fail
          exact hK.out _ _ ⟨_, rfl, hS, rfl, AllP.same _⟩
         refine RelySteps.cons (RelyStep.mk [21] [0, 1, 2, 3, 4, 5, 6, 7, 8, 9, 10, 11, 12, 13, 14, 15, 16, 17, 18, 24, 25] rfl rfl rfl (fun xv wS hS hV bq hb K hK => ?_)) ?_
         ·obtain ⟨h21, _⟩ := hV
          have h21 : xv 21 = _ := h21
          simp only [putsOf, List.foldl_cons, List.foldl_nil, List.getD_cons_zero, List.getD_cons_succ, List.getD_nil, cond_true, cond_false, Act.put, List.setIfInBounds_toArray, List.set_cons_zero, List.set_cons_succ, h21] at hb
          clear h21
          subst hb
          rw [if_pos (by rfl)]
          go_wp2_with fail
          exact hK.out _ _ ⟨_, rfl, hS, rfl, AllP.same _⟩
         refine RelySteps.cons (RelyStep.mk [22] [0, 1, 2, 3, 4, 5, 7, 8, 9, 10, 11, 14, 15, 16, 17, 18, 19, 25] rfl rfl rfl (fun xv wS hS hV bq hb K hK => ?_)) ?_
         ·obtain ⟨h22, _⟩ := hV
          have h22 : xv 22 = _ := h22
          simp only [putsOf, List.foldl_cons, List.foldl_nil, List.getD_cons_zero, List.getD_cons_succ, List.getD_nil, cond_true, cond_false, Act.put, List.setIfInBounds_toArray, List.set_cons_zero, List.set_cons_succ, h22] at hb
          clear h22
          subst hb
          rw [if_pos (by rfl)]
          have HSS := Lib.hid hS
          skip
          clear hS
          go_wp2_with fail
          refine (refNum1 a5 wS (by unfold M64; omega)).mono ?_
          rintro e w9 ⟨rfl, hb⟩
          exact hK.out _ _ ⟨_, rfl, then_ HSS.out hb, rfl, AllP.of _ (fun j _ _ h => bfV_below hb h)⟩
         refine RelySteps.cons (RelyStep.mk [15, 23] [0, 1, 2, 3, 4, 5, 8, 9, 10, 11, 12, 16, 17, 18, 19, 20] rfl rfl rfl (fun xv wS hS hV bq hb K hK => ?_)) ?_
         ·obtain ⟨h15, h23, _⟩ := hV
          have h15 : xv 15 = _ := h15
          have h23 : xv 23 = _ := h23
          simp only [putsOf, List.foldl_cons, List.foldl_nil, List.getD_cons_zero, List.getD_cons_succ, List.getD_nil, cond_true, cond_false, Act.put, List.setIfInBounds_toArray, List.set_cons_zero, List.set_cons_succ, h15, h23] at hb
          clear h15
          clear h23
          subst hb
          rw [if_pos (by rfl)]
          (have ha := addS [y.s, y.v] [a5] [y.s, y.v, a5] rfl (by simp only [List.length_cons, List.length_nil]; omega))
          go_wp2_with fail
          exact hK.out _ _ ⟨_, rfl, hS, rfl, AllP.same _⟩
         refine RelySteps.cons (RelyStep.mk [0, 24] [1, 2, 3, 4, 5, 6, 8, 9, 10, 11, 12, 13, 16, 17, 18, 19, 20, 21] rfl rfl rfl (fun xv wS hS hV bq hb K hK => ?_)) ?_
         ·obtain ⟨h0, h24, _⟩ := hV
          have h0 : xv 0 = _ := h0
          have h24 : xv 24 = _ := h24
          simp only [putsOf, List.foldl_cons, List.foldl_nil, List.getD_cons_zero, List.getD_cons_succ, List.getD_nil, cond_true, cond_false, Act.put, List.setIfInBounds_toArray, List.set_cons_zero, List.set_cons_succ, h0, h24] at hb
          clear h0
          clear h24
          subst hb
          rw [if_pos (by rfl)]
          (have ha := addS L2 [y.s, y.v, a5] (cat L2 [y.s, y.v, a5]) rfl (by simp only [List.length_cons, List.length_nil]; omega))
          go_wp2_with fail
          exact hK.out _ _ ⟨_, rfl, hS, rfl, AllP.same _⟩
         refine RelySteps.cons (RelyStep.mk [25] [] rfl rfl rfl (fun xv wS hS hV bq hb K hK => ?_)) ?_
         ·obtain ⟨h25, _⟩ := hV
          have h25 : xv 25 = _ := h25
          simp only [putsOf, List.foldl_cons, List.foldl_nil, List.getD_cons_zero, List.getD_cons_succ, List.getD_nil, cond_true, cond_false, Act.put, List.setIfInBounds_toArray, List.set_cons_zero, List.set_cons_succ, h25] at hb
          clear h25
          subst hb
          rw [if_pos (by rfl)]
          go_wp2_with fail
          exact hK.out _ _ ⟨_, rfl, hS, rfl, AllP.same _⟩
         exact RelySteps.nil
        case rE =>
         intro xv wE hS hV
         have h26 := hV 26 (by decide) (by decide)
         clear hV
         simp only [putsOf, List.foldl_cons, List.foldl_nil, List.getD_cons_zero, List.getD_cons_succ, List.getD_nil, cond_true, cond_false, Act.put, List.setIfInBounds_toArray, List.set_cons_zero, List.set_cons_succ]
         have h26 : xv 26 = _ := h26
         rw [h26]; clear h26
         generalize xv 0 = y0 at *
         generalize xv 1 = y1 at *
         generalize xv 2 = y2 at *
         generalize xv 3 = y3 at *
         generalize xv 4 = y4 at *
         generalize xv 5 = y5 at *
         generalize xv 6 = y6 at *
         generalize xv 7 = y7 at *
         generalize xv 8 = y8 at *
         generalize xv 9 = y9 at *
         generalize xv 10 = y10 at *
         generalize xv 11 = y11 at *
         generalize xv 12 = y12 at *
         generalize xv 13 = y13 at *
         generalize xv 14 = y14 at *
         generalize xv 15 = y15 at *
         generalize xv 16 = y16 at *
         generalize xv 17 = y17 at *
         generalize xv 18 = y18 at *
         generalize xv 19 = y19 at *
         generalize xv 20 = y20 at *
         generalize xv 21 = y21 at *
         generalize xv 22 = y22 at *
         generalize xv 23 = y23 at *
         generalize xv 24 = y24 at *
         generalize xv 25 = y25 at *
         have HL8 := Lib.hid (HL7.out.below hS HL7.out.lt)
         have HI8 := Lib.hid (HI7.out.later hS)
         clear h26 hS HL7 HI7
         generalize wE = w8 at *
         have eL : cat L2 [y.s, y.v, a5] = pL M1 x (j + 1) := by
          unfold cat
          rw [← HL2.out]
          unfold pL
          rw [HFS.out, HSLY.out, List.append_assoc]
         rw [eL]
         clear eL
         go_wp2_with fail
         go_roundw
         case rel => exact ⟨j + 1, by omega, rfl, by go_num, HI8, HL8⟩
         case measure => simp [intOf]; omega
       ·obtain rfl : j = x.sl.length := by omega
        have eL : pL M1 x x.sl.length = pR L0 S (k + 1) := by
         unfold pL
         rw [List.take_length, HM1.out]
         unfold pR
         rw [HFL.out, HRL.out]
         simp only [List.append_assoc]
        rw [eL]
        clear eL
        go_wp2_with fail
        go_roundw
        case rel => exact ⟨k + 1, by omega, rfl, by go_num, HI7⟩
        case measure => simp [intOf]; omega
    ·obtain rfl : k = S.rg.length := by omega
     obtain ⟨M2, hM2⟩ : ∃ M, pR L0 S S.rg.length = M := ⟨_, rfl⟩
     rw [hM2]
     have hM2l : M2.length ≤ 1300000 := by
      have := flat_le (f := rsL) (c := 65600) S.rg (fun y hy => rgL_len (HRA.out y hy))
      have h2 : S.rg.length * 65600 ≤ 8 * 65600 := Nat.mul_le_mul_right _ g8
      rw [← hM2]
      unfold pR
      rw [List.take_length, List.length_append, List.length_append, List.length_singleton]
      omega
     have HM2 : Hid (pR L0 S S.rg.length = M2) := hM2
     have hnw := HOK.out.now
     have hrd := HOK.out.rds
     rw [HSF.out.1] at hnw
     rw [HSF.out.2.1] at hrd
     have HB := Lib.hid HI.out.2
     clear hM2
     go_wp2_with fail
     clear x1 xl
     refine wp_region_rely (fun q => Below wr.heap.size wr q) (bfV [.eq (.string (sN M2)), .eq (.pointer (some ⟨w.heap.size, 2, none⟩)), .eq (.int .u64 (now : Int)), .eq (.string (sN [now])), .eq (.string (sN (cat M2 [now]))), .eq (.pointer (some ⟨w.heap.size, 3, none⟩)), .eq (.int .u64 (rds : Int)), .eq (.string (sN [rds])), .eq (.string (sN (cat (cat M2 [now]) [rds]))), .eq (.pointer (some ⟨w.heap.size, 4, none⟩)), .eq (.bool en), .eq (.string (sN [tru en])), .eq (.string (sN (cat (cat (cat M2 [now]) [rds]) [tru en]))), .eq (.string (sN (cat (cat (cat M2 [now]) [rds]) [tru en])))]) [some 139, some 140, some 141, some 142, some 143, some 144, some 145, some 146, some 147, some 148, some 149, some 150, some 151, some 2] [[], [], [1], [2], [0, 3], [], [5], [6], [4, 7], [], [9], [10], [8, 11], [12]] [[], [], [1], [1, 2], [0, 2, 3], [], [5], [2, 5, 6], [0, 3, 4, 6, 7], [], [9], [6, 9, 10], [4, 7, 8, 10, 11], [0, 1, 2, 3, 4, 5, 6, 7, 8, 9, 10, 11, 12]] [[1, 2, 3, 5, 6, 7, 8, 9, 10, 11, 12], [0, 3, 4, 5, 6, 7, 8, 9, 10, 11, 12], [0, 4, 5, 6, 7, 8, 9, 10, 11, 12], [0, 5, 6, 8, 9, 10, 11, 12], [5, 6, 7, 9, 10, 11, 12], [0, 1, 2, 3, 4, 7, 8, 9, 10, 11, 12], [0, 1, 2, 3, 4, 8, 9, 10, 11, 12], [0, 3, 4, 9, 10, 12], [1, 9, 10, 11], [0, 1, 2, 3, 4, 5, 6, 7, 8, 11, 12], [0, 1, 2, 3, 4, 5, 6, 7, 8, 12], [0, 1, 3, 4, 7, 8], [1, 2, 5], []] [0, 1, 2, 3, 4, 5, 6, 7, 8, 9, 10, 11, 12, 13] 14 (by kernel_rfl) (by kernel_rfl) (by kernel_rfl) (by kernel_rfl) ?rS (fun j h1 h2 => absurd (Nat.lt_of_lt_of_le h1 (Nat.le_trans (by decide) h2)) (Nat.lt_irrefl _)) ?rT ?rE
     case rS => exact below_drewN (Below.refl _ _) 1
     case rT =>
      refine RelySteps.cons (RelyStep.mk [] [1, 2, 3, 5, 6, 7, 8, 9, 10, 11, 12] rfl rfl rfl (fun xv wS hS hV bq hb K hK => ?_)) ?_
      ·clear hV
       simp only [putsOf, List.foldl_cons, List.foldl_nil, List.getD_cons_zero, List.getD_cons_succ, List.getD_nil, cond_true, cond_false, Act.put, List.setIfInBounds_toArray, List.set_cons_zero, List.set_cons_succ] at hb
       subst hb
       rw [if_pos (by rfl)]
       go_wp2_with fail
       exact hK.out _ _ ⟨_, rfl, hS, rfl, AllP.same _⟩
      refine RelySteps.cons (RelyStep.mk [] [0, 3, 4, 5, 6, 7, 8, 9, 10, 11, 12] rfl rfl rfl (fun xv wS hS hV bq hb K hK => ?_)) ?_
      ·clear hV
       simp only [putsOf, List.foldl_cons, List.foldl_nil, List.getD_cons_zero, List.getD_cons_succ, List.getD_nil, cond_true, cond_false, Act.put, List.setIfInBounds_toArray, List.set_cons_zero, List.set_cons_succ] at hb
       subst hb
       rw [if_pos (by rfl)]
       go_wp2_with fail
       exact hK.out _ _ ⟨_, rfl, hS, rfl, AllP.same _⟩
      refine RelySteps.cons (RelyStep.mk [1] [0, 4, 5, 6, 7, 8, 9, 10, 11, 12] rfl rfl rfl (fun xv wS hS hV bq hb K hK => ?_)) ?_
      ·obtain ⟨h1, _⟩ := hV
       have h1 : xv 1 = _ := h1
       simp only [putsOf, List.foldl_cons, List.foldl_nil, List.getD_cons_zero, List.getD_cons_succ, List.getD_nil, cond_true, cond_false, Act.put, List.setIfInBounds_toArray, List.set_cons_zero, List.set_cons_succ, h1] at hb
       clear h1
       subst hb
       rw [if_pos (by rfl)]
       (have l5 := HB.out.below hS HB.out.lt; have c5 := (l5.cell 2).trans (show _ = some (Value.int .u64 (now : Int)) from rfl); have c6 := l5.lt; clear l5)
       go_wp2_with fail
       exact hK.out _ _ ⟨_, rfl, hS, rfl, AllP.same _⟩
      refine RelySteps.cons (RelyStep.mk [2] [0, 5, 6, 8, 9, 10, 11, 12] rfl rfl rfl (fun xv wS hS hV bq hb K hK => ?_)) ?_
      ·obtain ⟨h2, _⟩ := hV
       have h2 : xv 2 = _ := h2
       simp only [putsOf, List.foldl_cons, List.foldl_nil, List.getD_cons_zero, List.getD_cons_succ, List.getD_nil, cond_true, cond_false, Act.put, List.setIfInBounds_toArray, List.set_cons_zero, List.set_cons_succ, h2] at hb
       clear h2
       subst hb
       rw [if_pos (by rfl)]
       have HSS := Lib.hid hS
       skip
       clear hS
       go_wp2_with fail
       refine (refNum1 now wS hnw).mono ?_
       rintro e w9 ⟨rfl, hb⟩
       exact hK.out _ _ ⟨_, rfl, then_ HSS.out hb, rfl, AllP.of _ (fun j _ _ h => bfV_below hb h)⟩
      refine RelySteps.cons (RelyStep.mk [0, 3] [5, 6, 7, 9, 10, 11, 12] rfl rfl rfl (fun xv wS hS hV bq hb K hK => ?_)) ?_
      ·obtain ⟨h0, h3, _⟩ := hV
       have h0 : xv 0 = _ := h0
       have h3 : xv 3 = _ := h3
       simp only [putsOf, List.foldl_cons, List.foldl_nil, List.getD_cons_zero, List.getD_cons_succ, List.getD_nil, cond_true, cond_false, Act.put, List.setIfInBounds_toArray, List.set_cons_zero, List.set_cons_succ, h0, h3] at hb
       clear h0
       clear h3
       subst hb
       rw [if_pos (by rfl)]
       (have ha := addS M2 [now] (cat M2 [now]) rfl (by simp only [List.length_cons, List.length_nil]; omega))
       go_wp2_with fail
       exact hK.out _ _ ⟨_, rfl, hS, rfl, AllP.same _⟩
      refine RelySteps.cons (RelyStep.mk [] [0, 1, 2, 3, 4, 7, 8, 9, 10, 11, 12] rfl rfl rfl (fun xv wS hS hV bq hb K hK => ?_)) ?_
      ·clear hV
       simp only [putsOf, List.foldl_cons, List.foldl_nil, List.getD_cons_zero, List.getD_cons_succ, List.getD_nil, cond_true, cond_false, Act.put, List.setIfInBounds_toArray, List.set_cons_zero, List.set_cons_succ] at hb
       subst hb
       rw [if_pos (by rfl)]
       go_wp2_with fail
       exact hK.out _ _ ⟨_, rfl, hS, rfl, AllP.same _⟩
      refine RelySteps.cons (RelyStep.mk [5] [0, 1, 2, 3, 4, 8, 9, 10, 11, 12] rfl rfl rfl (fun xv wS hS hV bq hb K hK => ?_)) ?_
      ·obtain ⟨h5, _⟩ := hV
       have h5 : xv 5 = _ := h5
       simp only [putsOf, List.foldl_cons, List.foldl_nil, List.getD_cons_zero, List.getD_cons_succ, List.getD_nil, cond_true, cond_false, Act.put, List.setIfInBounds_toArray, List.set_cons_zero, List.set_cons_succ, h5] at hb
       clear h5
       subst hb
       rw [if_pos (by rfl)]
       (have l5 := HB.out.below hS HB.out.lt; have c5 := (l5.cell 3).trans (show _ = some (Value.int .u64 (rds : Int)) from rfl); have c6 := l5.lt; clear l5)
       go_wp2_with fail
       exact hK.out _ _ ⟨_, rfl, hS, rfl, AllP.same _⟩
      refine RelySteps.cons (RelyStep.mk [6] [0, 3, 4, 9, 10, 12] rfl rfl rfl (fun xv wS hS hV bq hb K hK => ?_)) ?_
      ·obtain ⟨h6, _⟩ := hV
       have h6 : xv 6 = _ := h6
       simp only [putsOf, List.foldl_cons, List.foldl_nil, List.getD_cons_zero, List.getD_cons_succ, List.getD_nil, cond_true, cond_false, Act.put, List.setIfInBounds_toArray, List.set_cons_zero, List.set_cons_succ, h6] at hb
       clear h6
       subst hb
       rw [if_pos (by rfl)]
       have HSS := Lib.hid hS
       skip
       clear hS
       go_wp2_with fail
       refine (refNum1 rds wS hrd).mono ?_
       rintro e w9 ⟨rfl, hb⟩
       exact hK.out _ _ ⟨_, rfl, then_ HSS.out hb, rfl, AllP.of _ (fun j _ _ h => bfV_below hb h)⟩
      refine RelySteps.cons (RelyStep.mk [4, 7] [1, 9, 10, 11] rfl rfl rfl (fun xv wS hS hV bq hb K hK => ?_)) ?_
      ·obtain ⟨h4, h7, _⟩ := hV
       have h4 : xv 4 = _ := h4
       have h7 : xv 7 = _ := h7
       simp only [putsOf, List.foldl_cons, List.foldl_nil, List.getD_cons_zero, List.getD_cons_succ, List.getD_nil, cond_true, cond_false, Act.put, List.setIfInBounds_toArray, List.set_cons_zero, List.set_cons_succ, h4, h7] at hb
       clear h4
       clear h7
       subst hb
       rw [if_pos (by rfl)]
       (have ha := addS (cat M2 [now]) [rds] (cat (cat M2 [now]) [rds]) rfl (by unfold cat; simp; omega))
       go_wp2_with fail
       exact hK.out _ _ ⟨_, rfl, hS, rfl, AllP.same _⟩
      refine RelySteps.cons (RelyStep.mk [] [0, 1, 2, 3, 4, 5, 6, 7, 8, 11, 12] rfl rfl rfl (fun xv wS hS hV bq hb K hK => ?_)) ?_
      ·clear hV
       simp only [putsOf, List.foldl_cons, List.foldl_nil, List.getD_cons_zero, List.getD_cons_succ, List.getD_nil, cond_true, cond_false, Act.put, List.setIfInBounds_toArray, List.set_cons_zero, List.set_cons_succ] at hb
       subst hb
       rw [if_pos (by rfl)]
       go_wp2_with fail
       exact hK.out _ _ ⟨_, rfl, hS, rfl, AllP.same _⟩
      refine RelySteps.cons (RelyStep.mk [9] [0, 1, 2, 3, 4, 5, 6, 7, 8, 12] rfl rfl rfl (fun xv wS hS hV bq hb K hK => ?_)) ?_
      ·obtain ⟨h9, _⟩ := hV
       have h9 : xv 9 = _ := h9
       simp only [putsOf, List.foldl_cons, List.foldl_nil, List.getD_cons_zero, List.getD_cons_succ, List.getD_nil, cond_true, cond_false, Act.put, List.setIfInBounds_toArray, List.set_cons_zero, List.set_cons_succ, h9] at hb
       clear h9
       subst hb
       rw [if_pos (by rfl)]
       (have l5 := HB.out.below hS HB.out.lt; have c5 := (l5.cell 4).trans (show _ = some (Value.bool en) from rfl); have c6 := l5.lt; clear l5)
       go_wp2_with fail
       exact hK.out _ _ ⟨_, rfl, hS, rfl, AllP.same _⟩
      refine RelySteps.cons (RelyStep.mk [10] [0, 1, 3, 4, 7, 8] rfl rfl rfl (fun xv wS hS hV bq hb K hK => ?_)) ?_
      ·obtain ⟨h10, _⟩ := hV
       have h10 : xv 10 = _ := h10
       simp only [putsOf, List.foldl_cons, List.foldl_nil, List.getD_cons_zero, List.getD_cons_succ, List.getD_nil, cond_true, cond_false, Act.put, List.setIfInBounds_toArray, List.set_cons_zero, List.set_cons_succ, h10] at hb
       clear h10
       subst hb
       rw [if_pos (by rfl)]
       have HSS := Lib.hid hS
       skip
       clear hS
       go_wp2_with fail
       refine (refIs1 en wS).mono ?_
       rintro e w9 ⟨rfl, hb⟩
       exact hK.out _ _ ⟨_, rfl, then_ HSS.out hb, rfl, AllP.of _ (fun j _ _ h => bfV_below hb h)⟩
      refine RelySteps.cons (RelyStep.mk [8, 11] [1, 2, 5] rfl rfl rfl (fun xv wS hS hV bq hb K hK => ?_)) ?_
      ·obtain ⟨h8, h11, _⟩ := hV
       have h8 : xv 8 = _ := h8
       have h11 : xv 11 = _ := h11
       simp only [putsOf, List.foldl_cons, List.foldl_nil, List.getD_cons_zero, List.getD_cons_succ, List.getD_nil, cond_true, cond_false, Act.put, List.setIfInBounds_toArray, List.set_cons_zero, List.set_cons_succ, h8, h11] at hb
       clear h8
       clear h11
       subst hb
       rw [if_pos (by rfl)]
       (have ha := addS (cat (cat M2 [now]) [rds]) [tru en] (cat (cat (cat M2 [now]) [rds]) [tru en]) rfl (by unfold cat; simp; omega))
       go_wp2_with fail
       exact hK.out _ _ ⟨_, rfl, hS, rfl, AllP.same _⟩
      refine RelySteps.cons (RelyStep.mk [12] [] rfl rfl rfl (fun xv wS hS hV bq hb K hK => ?_)) ?_
      ·obtain ⟨h12, _⟩ := hV
       have h12 : xv 12 = _ := h12
       simp only [putsOf, List.foldl_cons, List.foldl_nil, List.getD_cons_zero, List.getD_cons_succ, List.getD_nil, cond_true, cond_false, Act.put, List.setIfInBounds_toArray, List.set_cons_zero, List.set_cons_succ, h12] at hb
       clear h12
       subst hb
       rw [if_pos (by rfl)]
       go_wp2_with fail
       exact hK.out _ _ ⟨_, rfl, hS, rfl, AllP.same _⟩
      exact RelySteps.nil
     case rE =>
      intro xv wE hS hV
      have h13 := hV 13 (by decide) (by decide)
      clear hV
      simp only [putsOf, List.foldl_cons, List.foldl_nil, List.getD_cons_zero, List.getD_cons_succ, List.getD_nil, cond_true, cond_false, Act.put, List.setIfInBounds_toArray, List.set_cons_zero, List.set_cons_succ]
      have h13 : xv 13 = _ := h13
      rw [h13]; clear h13
      generalize xv 0 = y0 at *
      generalize xv 1 = y1 at *
      generalize xv 2 = y2 at *
      generalize xv 3 = y3 at *
      generalize xv 4 = y4 at *
      generalize xv 5 = y5 at *
      generalize xv 6 = y6 at *
      generalize xv 7 = y7 at *
      generalize xv 8 = y8 at *
      generalize xv 9 = y9 at *
      generalize xv 10 = y10 at *
      generalize xv 11 = y11 at *
      generalize xv 12 = y12 at *
      have HI8 := Lib.hid (HI.out.later hS)
      clear h13 hS HI
      generalize wE = w8 at *
      have eL : cat (cat (cat M2 [now]) [rds]) [tru en] = stL S := by
       unfold cat
       rw [← HM2.out]
       unfold pR
       rw [← HLL.out]
       unfold pT stL
       rw [List.take_length, List.take_length, HSF.out.1, HSF.out.2.1, HSF.out.2.2]
       simp
      rw [eL]
      clear eL
      go_wp2_with fail
      go_ret
      exact ⟨rfl, HI8.out.1⟩
theorem stW_ok {S : Sta} (h : stW S) : StOk S ∧ encB S = true := by
 obtain ⟨⟨h1, h2⟩, ⟨h3, h4⟩, h5, h6⟩ := h
 refine ⟨⟨fun x hx => ?_, fun x hx => ?_, h5, h6⟩, ?_⟩
 ·obtain ⟨⟨a1, a2⟩, ⟨b1, b2⟩, ⟨c1, c2⟩, ⟨d1, d2⟩, e1, ⟨f1, f2⟩, g1, g2⟩ := h2 x hx
  unfold M64 at e1 f1 g2
  refine ⟨⟨by omega, by omega⟩, ⟨by omega, by omega⟩, ⟨by omega, by omega⟩, ⟨by omega, by omega⟩, by omega, fun i => ?_, fun n hn => by have := g2 n hn; omega⟩
  by_cases hi : i < 8
  ·have := f1 i hi; omega
  ·have := f2 i (by omega); omega
 ·obtain ⟨a1, ⟨b1, b2⟩, c1, c2⟩ := h4 x hx
  refine ⟨a1, b2, fun y hy => ?_⟩
  obtain ⟨d1, d2, e1, e2⟩ := c2 y hy
  exact ⟨d1, d2, by omega, by omega⟩
 ·unfold encB
  simp only [Bool.and_eq_true, decide_eq_true_eq, List.all_eq_true]
  refine ⟨h1, h3, fun x hx => ?_, fun x hx => ?_⟩
  ·obtain ⟨⟨a1, a2⟩, ⟨b1, b2⟩, ⟨c1, c2⟩, ⟨d1, d2⟩, e1, _, g1, g2⟩ := h2 x hx
   unfold thEB smB
   simp only [Bool.and_eq_true, decide_eq_true_eq]
   omega
  ·obtain ⟨a1, ⟨b1, b2⟩, c1, c2⟩ := h4 x hx
   unfold rgEB smB
   simp only [Bool.and_eq_true, decide_eq_true_eq, List.all_eq_true]
   refine ⟨b1, c1, fun y hy => ?_⟩
   obtain ⟨d1, d2, e1, e2⟩ := c2 y hy
   exact ⟨e1, e2⟩
theorem rd_is {s : ByteArray} (h : rdYes s = true) : sN (stL (rdX s)) = s ∧ stW (rdX s) := by
 have hx : rdX s = (rdSt s 0 false).1 := by unfold rdX; rw [if_pos h]
 have h2 := h
 unfold rdYes at h2
 rw [Bool.and_eq_true, Bool.not_eq_true', Bool.not_eq_true', decide_eq_false_iff_not] at h2
 obtain ⟨h3, h4⟩ := good_St.snd s 0 (Nat.zero_le _) h2.1
 have h5 : restOf s (rdSt s 0 false).2.1 = [] := by
  refine List.eq_nil_of_length_eq_zero ?_
  rw [restOf_length]; omega
 rw [h5, List.append_nil] at h3
 rw [hx]
 refine ⟨?_, h4⟩
 unfold sN textB
 rw [← h3]
 unfold restOf
 rw [List.drop_zero]
theorem refSameO (A B : Option Addr) (c d : Nat) (w : World) (hc : c ≤ 9223372036854775807) (hd : d ≤ 9223372036854775807) : Calls Try.prog 9 #[.agg (st0 A c B d), .agg stZ2] w fun e w' => e = .returned (.bool true) ∧ Below w.heap.size w w' := by
 have HB : Hid (Below w.heap.size w ((w.alloc (.cells (st0 A c B d) 26)).alloc (.cells stZ2 26))) := ((Below.refl _ _).alloc (Nat.le_refl _) _).alloc (by simp) _
 have l0 := (Lies.made w 26 (st0 A c B d)).alloc (.cells stZ2 26)
 have l1 := Lies.made (w.alloc (.cells (st0 A c B d) 26)) 26 stZ2
 rw [World.size_alloc] at l1
 have HL0 := Lib.hid l0
 have HL1 := Lib.hid l1
 clear l0 l1
 go_enter Try.func9, Try.ntmps9
 go_upto_region 1 with (fail)
 generalize (w.alloc (.cells (st0 A c B d) 26)).alloc (.cells stZ2 26) = w1 at *
 have hld0 := st_loadL2 HL0.out
 have hld1 : (loadVar 26 ⟨w.heap.size + 1, 0, none⟩).run Try.prog w1 = .ok (.agg stZ2) w1 := st_loadL2 (n := 0) (r := 0) (e := false) (tv := .slice none 0 0) (rv := .slice none 0 0) HL1.out
 have HS := Lib.hid (refSame0 A B c d w1 hc hd)
 refine wp_region_lit ?_
 refine wpList_load_known rfl _ _ rfl w.heap.size 0 rfl _ hld0 ?_
 refine wpList_load_known rfl _ _ rfl (w.heap.size + 1) 0 rfl _ hld1 ?_
 clear hld0 hld1 HL0 HL1
 go_wp2_with fail
 refine HS.out.mono ?_
 rintro e w2 ⟨rfl, hb2⟩
 have HB2 := Lib.hid (HB.out.trans (hb2.mono HB.out.size))
 clear hb2 HS HB
 go_wp2_with fail
 go_ret
 exact ⟨rfl, HB2.out⟩
theorem seq_litZ {w : World} {g n : Nat} {T : TypeId} {cs : Array Value} {xs : List Int} (h : Lies w g T cs) (he : cellsZ xs = cs.toList) (hn : xs.length = n) (h9 : n ≤ 1000 := by decide) : SeqAt w (.slice (some ⟨g, 0, none⟩) n n) (cellsZ xs) := by
 subst hn
 have hl : (cellsZ xs).length = xs.length := by simp [cellsZ]
 refine ⟨some ⟨g, 0, none⟩, xs.length, by rw [hl], by rw [hl]; exact Nat.le_refl _, ?_, fun k u hu => ⟨g, 0, rfl, ?_⟩⟩
 ·unfold maxLen; omega
 ·rw [Nat.zero_add, h.cell, ← hu, he, Array.getElem?_toList]
set_option maxHeartbeats 8000000 in
set_option maxRecDepth 100000 in
theorem refWritten (S : Sta) (A B : Option Addr) (c d : Nat) (w : World) (ht : ThsR w (.slice A S.th.length c) S.th) (hr : RgsR w (.slice B S.rg.length d) S.rg) :
  Calls Try.prog 10 #[.agg (stC (.slice A S.th.length c) (.slice B S.rg.length d) S.now S.rds S.en)] w fun e w' => e = .returned (.bool (encB S)) ∧ Below w.heap.size w w' := by
 obtain ⟨hc1, hc2⟩ := ht.caps
 obtain ⟨hd1, hd2⟩ := hr.caps
 have HT := Lib.hid ht
 have HR := Lib.hid hr
 have HD : Hid (encB S = (decide (S.th.length ≤ 8) && (decide (S.rg.length ≤ 8) && (S.th.all thEB && S.rg.all rgEB)))) := rfl
 have HI := Lib.hid (SxAt.start w (stC (.slice A S.th.length c) (.slice B S.rg.length d) S.now S.rds S.en))
 obtain ⟨now, hnow⟩ : ∃ x, S.now = x := ⟨_, rfl⟩
 obtain ⟨rds, hrds⟩ : ∃ x, S.rds = x := ⟨_, rfl⟩
 obtain ⟨en, hen⟩ : ∃ x, S.en = x := ⟨_, rfl⟩
 rw [hnow, hrds, hen] at HI ⊢
 clear ht hr hnow hrds hen
 have x0 := (HI.out.2.cell 0).trans (show _ = some (Value.slice A S.th.length c) from rfl)
 have x1 := (HI.out.2.cell 1).trans (show _ = some (Value.slice B S.rg.length d) from rfl)
 have xl := HI.out.2.lt
 by_cases h8 : S.th.length ≤ 8
 case neg =>
  have q1 : decide ((S.th.length : Int) > 8) = true := decide_eq_true (by omega)
  have q2 : decide ((8 : Int) < (S.th.length : Int)) = true := decide_eq_true (by omega)
  have hE : encB S = false := by rw [HD.out, decide_eq_false h8]; rfl
  go_enter Try.func10, Try.ntmps10
  go_wp2_with fail
  go_ret
  exact ⟨ret_bool hE.symm, HI.out.1⟩
 have q1 : decide ((S.th.length : Int) > 8) = false := decide_eq_false (by omega)
 have q2 : decide ((8 : Int) < (S.th.length : Int)) = false := decide_eq_false (by omega)
 have q20 : ¬ 8 < S.th.length := by omega
 by_cases g8 : S.rg.length ≤ 8
 case neg =>
  have q3 : decide ((S.rg.length : Int) > 8) = true := decide_eq_true (by omega)
  have q4 : decide ((8 : Int) < (S.rg.length : Int)) = true := decide_eq_true (by omega)
  have hE : encB S = false := by rw [HD.out, decide_eq_false g8, Bool.false_and, Bool.and_false]
  go_enter Try.func10, Try.ntmps10
  go_wp2_with fail
  go_ret
  exact ⟨ret_bool hE.symm, HI.out.1⟩
 have q3 : decide ((S.rg.length : Int) > 8) = false := decide_eq_false (by omega)
 have q4 : decide ((8 : Int) < (S.rg.length : Int)) = false := decide_eq_false (by omega)
 have q40 : ¬ 8 < S.rg.length := by omega
 have HD := Lib.hid (HD.out.trans (show _ = (S.th.all thEB && S.rg.all rgEB) by rw [decide_eq_true h8, decide_eq_true g8]; rfl))
 go_enter Try.func10, Try.ntmps10
 go_wp2_with fail
 generalize w.alloc _ = w1 at *
 clear x0 x1 xl
 go_loopw [3] (fun u wr => ∃ k : Nat, k ≤ S.th.length ∧ u = .int .i64 k ∧ Hid (∀ y ∈ S.th.take k, thEB y = true) ∧ Hid (SxAt w (stC (.slice A S.th.length c) (.slice B S.rg.length d) now rds en) wr)) (fun u _ => S.th.length - (intOf u).toNat)
 case atStart => exact ⟨0, by omega, rfl, (by show ∀ y ∈ S.th.take 0, _; simp), HI⟩
 case round =>
  clear HI
  obtain ⟨k, hk, rfl, HA, HI⟩ := hrel
  have x0 := (HI.out.2.cell 0).trans (show _ = some (Value.slice A S.th.length c) from rfl)
  have xl := HI.out.2.lt
  by_cases hlt : k < S.th.length
  ·have hki : (k : Int) < (S.th.length : Int) := by omega
   obtain ⟨x, hx⟩ : ∃ x, S.th[k]? = some x := ⟨_, List.getElem?_eq_getElem hlt⟩
   obtain ⟨T, o, Sn, ds, rfl, hTl, hcell, _, hs1, hs2⟩ := (HT.out.later HI.out.1).at_ hx
   have hld := th_load2 hcell
   have HX := Lib.hid hx
   have hE : Hid (thEB x = (decide (x.sn.length ≤ 65536) && (smB x.at_ && (smB x.ph && (smB x.rg && smB x.st))))) := rfl
   have hb := (Below.refl wr.heap.size wr).alloc (Nat.le_refl _) (.cells (thC x (.slice Sn x.sn.length ds)) 40)
   have HI2 := Lib.hid (HI.out.later hb)
   have HL := Lib.hid (Lies.made wr 40 (thC x (.slice Sn x.sn.length ds)))
   have y0 := (HL.out.cell 0).trans (show _ = some (Value.int .i64 x.at_) from rfl)
   have y1 := (HL.out.cell 1).trans (show _ = some (Value.int .i64 x.ph) from rfl)
   have y2 := (HL.out.cell 2).trans (show _ = some (Value.int .i64 x.rg) from rfl)
   have y3 := (HL.out.cell 3).trans (show _ = some (Value.int .i64 x.st) from rfl)
   have y6 := (HL.out.cell 13).trans (show _ = some (Value.slice Sn x.sn.length ds) from rfl)
   have yl := HL.out.lt
   clear hcell hx hb HI
   clear y0 y1 y2 y3 y6 yl
   go_upto_region 7 with (first | refine wpList_load_known rfl _ _ rfl T (o + k * 14) rfl _ hld ?_)
   obtain ⟨g5, hg5⟩ : ∃ n, wr.heap.size = n := ⟨_, rfl⟩
   rw [hg5] at HL ⊢
   generalize wr.alloc (.cells (thC x (.slice Sn x.sn.length ds)) 40) = w6 at *
   clear hld x0 xl hTl
   have y0 := (HL.out.cell 0).trans (show _ = some (Value.int .i64 x.at_) from rfl)
   have y1 := (HL.out.cell 1).trans (show _ = some (Value.int .i64 x.ph) from rfl)
   have y2 := (HL.out.cell 2).trans (show _ = some (Value.int .i64 x.rg) from rfl)
   have y3 := (HL.out.cell 3).trans (show _ = some (Value.int .i64 x.st) from rfl)
   have y6 := (HL.out.cell 13).trans (show _ = some (Value.slice Sn x.sn.length ds) from rfl)
   have yl := HL.out.lt
   by_cases hl : x.sn.length ≤ 65536
   case neg =>
    have q5 : decide ((x.sn.length : Int) > 65536) = true := decide_eq_true (by omega)
    have q6 : decide ((65536 : Int) < (x.sn.length : Int)) = true := decide_eq_true (by omega)
    have hF : encB S = false := by rw [HD.out, all_bad HX.out (show thEB x = false by rw [hE.out, decide_eq_false hl]; rfl)]; rfl
    go_wp2_with fail
    go_ret
    exact ⟨ret_bool hF.symm, HI2.out.1⟩
   have q5 : decide ((x.sn.length : Int) > 65536) = false := decide_eq_false (by omega)
   have q6 : decide ((65536 : Int) < (x.sn.length : Int)) = false := decide_eq_false (by omega)
   have q60 : ¬ 65536 < x.sn.length := by omega
   have hE := Lib.hid (hE.out.trans (show _ = [x.at_, x.ph, x.rg, x.st].all smB by rw [decide_eq_true hl]; simp))
   have hb7 : Below w6.heap.size w6 (w6.alloc (.cells #[.int .i64 x.at_, .int .i64 x.ph, .int .i64 x.rg, .int .i64 x.st] 3)) := (Below.refl _ _).alloc (Nat.le_refl _) _
   have HI7 := Lib.hid (HI2.out.later hb7)
   have HC := Lib.hid (refSmall (.slice (some ⟨w6.heap.size, 0, none⟩) 4 4) [x.at_, x.ph, x.rg, x.st] _ (seq_litZ (Lies.made w6 3 #[.int .i64 x.at_, .int .i64 x.ph, .int .i64 x.rg, .int .i64 x.st]) rfl rfl))
   obtain ⟨sb, hsb⟩ : ∃ b, [x.at_, x.ph, x.rg, x.st].all smB = b := ⟨_, rfl⟩
   rw [hsb] at HC hE
   clear hb7 hsb
   cases sb
   ·have hF : encB S = false := by rw [HD.out, all_bad HX.out hE.out]; rfl
    go_wp2_with fail
    refine HC.out.mono ?_
    rintro e w' ⟨rfl, rfl⟩
    clear HC
    go_wp2_with fail
    go_ret
    exact ⟨ret_bool hF.symm, HI7.out.1⟩
   ·go_wp2_with fail
    refine HC.out.mono ?_
    rintro e w' ⟨rfl, rfl⟩
    clear HC
    go_wp2_with fail
    go_roundw
    case rel => exact ⟨k + 1, by omega, by go_num, all_take HA.out HX.out hE.out, HI7⟩
    case measure => simp [intOf]; omega
  ·obtain rfl : k = S.th.length := by omega
   have HD2 := Lib.hid (HD.out.trans (show _ = S.rg.all rgEB by rw [all_whole HA.out]; rfl))
   clear HD HA xl
   have x0 := (HI.out.2.cell 0).trans (show _ = some (Value.slice A S.th.length c) from rfl)
   have xl := HI.out.2.lt
   go_wp2_with fail
   clear x0 xl
   go_loopw [5] (fun u wr => ∃ k : Nat, k ≤ S.rg.length ∧ u = .int .i64 k ∧ Hid (∀ y ∈ S.rg.take k, rgEB y = true) ∧ Hid (SxAt w (stC (.slice A S.th.length c) (.slice B S.rg.length d) now rds en) wr)) (fun u _ => S.rg.length - (intOf u).toNat)
   case atStart => exact ⟨0, by omega, rfl, (by show ∀ y ∈ S.rg.take 0, _; simp), HI⟩
   case round =>
    clear HI
    obtain ⟨k, hk, rfl, HA, HI⟩ := hrel
    have x1 := (HI.out.2.cell 1).trans (show _ = some (Value.slice B S.rg.length d) from rfl)
    have xl := HI.out.2.lt
    by_cases hlt : k < S.rg.length
    ·have hki : (k : Int) < (S.rg.length : Int) := by omega
     obtain ⟨x, hx⟩ : ∃ x, S.rg[k]? = some x := ⟨_, List.getElem?_eq_getElem hlt⟩
     obtain ⟨T, o, S1, d1, S2, d2, rfl, hTl, hcell, ⟨_, p1, p2⟩, hsl, p3, p4⟩ := (HR.out.later HI.out.1).at_ hx
     have hld := rg_load2 hcell
     have HX := Lib.hid hx
     have hE : Hid (rgEB x = (decide (x.hs.length ≤ 8) && (decide (x.sl.length ≤ 64) && x.sl.all (fun y => smB y.l)))) := rfl
     have hb := (Below.refl wr.heap.size wr).alloc (Nat.le_refl _) (.cells (rgC2 x.tl (.slice S1 x.hs.length d1) x.cl (.slice S2 x.sl.length d2)) 54)
     have HI2 := Lib.hid (HI.out.later hb)
     have HL := Lib.hid (Lies.made wr 54 (rgC2 x.tl (.slice S1 x.hs.length d1) x.cl (.slice S2 x.sl.length d2)))
     have HS := Lib.hid (hsl.later hb)
     have y1 := (HL.out.cell 1).trans (show _ = some (Value.slice S1 x.hs.length d1) from rfl)
     have y3 := (HL.out.cell 3).trans (show _ = some (Value.slice S2 x.sl.length d2) from rfl)
     have yl := HL.out.lt
     clear hcell hx hb HI hsl
     clear y1 y3 yl
     go_upto_region 13 with (first | refine wpList_load_known rfl _ _ rfl T (o + k * 4) rfl _ hld ?_)
     obtain ⟨g5, hg5⟩ : ∃ n, wr.heap.size = n := ⟨_, rfl⟩
     rw [hg5] at HL ⊢
     generalize wr.alloc (.cells (rgC2 x.tl (.slice S1 x.hs.length d1) x.cl (.slice S2 x.sl.length d2)) 54) = w5 at *
     clear hld x1 xl hTl
     have y1 := (HL.out.cell 1).trans (show _ = some (Value.slice S1 x.hs.length d1) from rfl)
     have y3 := (HL.out.cell 3).trans (show _ = some (Value.slice S2 x.sl.length d2) from rfl)
     have yl := HL.out.lt
     by_cases h8 : x.hs.length ≤ 8
     case neg =>
      have q5 : decide ((x.hs.length : Int) > 8) = true := decide_eq_true (by omega)
      have q6 : decide ((8 : Int) < (x.hs.length : Int)) = true := decide_eq_true (by omega)
      have hF : encB S = false := by rw [HD2.out, all_bad HX.out (show rgEB x = false by rw [hE.out, decide_eq_false h8]; rfl)]
      go_wp2_with fail
      go_ret
      exact ⟨ret_bool hF.symm, HI2.out.1⟩
     have q5 : decide ((x.hs.length : Int) > 8) = false := decide_eq_false (by omega)
     have q6 : decide ((8 : Int) < (x.hs.length : Int)) = false := decide_eq_false (by omega)
     have q60 : ¬ 8 < x.hs.length := by omega
     by_cases h64 : x.sl.length ≤ 64
     case neg =>
      have q7 : decide ((x.sl.length : Int) > 64) = true := decide_eq_true (by omega)
      have q8 : decide ((64 : Int) < (x.sl.length : Int)) = true := decide_eq_true (by omega)
      have hF : encB S = false := by rw [HD2.out, all_bad HX.out (show rgEB x = false by rw [hE.out, decide_eq_false h64, Bool.false_and, Bool.and_false])]
      go_wp2_with fail
      go_ret
      exact ⟨ret_bool hF.symm, HI2.out.1⟩
     have q7 : decide ((x.sl.length : Int) > 64) = false := decide_eq_false (by omega)
     have q8 : decide ((64 : Int) < (x.sl.length : Int)) = false := decide_eq_false (by omega)
     have q80 : ¬ 64 < x.sl.length := by omega
     have hE := Lib.hid (hE.out.trans (show _ = x.sl.all (fun y => smB y.l) by rw [decide_eq_true h8, decide_eq_true h64]; rfl))
     go_wp2_with fail
     clear y1 y3 yl
     go_loopw [7] (fun u wr => ∃ j : Nat, j ≤ x.sl.length ∧ u = .int .i64 j ∧ Hid (∀ y ∈ x.sl.take j, smB y.l = true) ∧ Hid (Below w5.heap.size w5 wr)) (fun u _ => x.sl.length - (intOf u).toNat)
     case atStart => exact ⟨0, by omega, rfl, (by show ∀ y ∈ x.sl.take 0, _; simp), Below.refl _ _⟩
     case round =>
      obtain ⟨j, hj, rfl, HB, HW⟩ := hrel
      have HI5 := Lib.hid (HI2.out.later HW.out)
      have HL5 := Lib.hid (HL.out.below HW.out HL.out.lt)
      have y3 := (HL5.out.cell 3).trans (show _ = some (Value.slice S2 x.sl.length d2) from rfl)
      have yl := HL5.out.lt
      by_cases hlj : j < x.sl.length
      ·have hji : (j : Int) < (x.sl.length : Int) := by omega
       obtain ⟨y, hy⟩ : ∃ y, x.sl[j]? = some y := ⟨_, List.getElem?_eq_getElem hlj⟩
       obtain ⟨b3, o3, rfl, hbl, hc3⟩ := SeqS.at_ slF_length (by decide) (HS.out.later HW.out) hy
       have y9 := hc3 2 _ (by decide) (show (slF y)[2]? = some (Value.int .i64 y.l) from rfl)
       have HY := Lib.hid hy
       have hb6 : Below wr.heap.size wr (wr.alloc (.cells #[.int .i64 y.l] 3)) := (Below.refl _ _).alloc (Nat.le_refl _) _
       have HI6 := Lib.hid (HI5.out.later hb6)
       have HW6 := Lib.hid (then_ HW.out hb6)
       have HC := Lib.hid (refSmall (.slice (some ⟨wr.heap.size, 0, none⟩) 1 1) [y.l] _ (seq_litZ (Lies.made wr 3 #[.int .i64 y.l]) rfl rfl))
       have hE1 : [y.l].all smB = smB y.l := by simp
       rw [hE1] at HC
       obtain ⟨sb, hsb⟩ : ∃ b, smB y.l = b := ⟨_, rfl⟩
       rw [hsb] at HC
       have HSB := Lib.hid hsb
       clear hy hc3 hb6 hE1 hsb
       cases sb
       ·have hF : encB S = false := by rw [HD2.out, all_bad HX.out (hE.out.trans (all_bad HY.out HSB.out))]
        go_wp2_with fail
        refine HC.out.mono ?_
        rintro e w' ⟨rfl, rfl⟩
        clear HC
        go_wp2_with fail
        go_ret
        exact ⟨ret_bool hF.symm, HI6.out.1⟩
       ·go_wp2_with fail
        refine HC.out.mono ?_
        rintro e w' ⟨rfl, rfl⟩
        clear HC
        go_wp2_with fail
        go_roundw
        case rel => exact ⟨j + 1, by omega, by go_num, all_take HB.out HY.out HSB.out, HW6⟩
        case measure => simp [intOf]; omega
      ·obtain rfl : j = x.sl.length := by omega
       have hR := all_take HA.out HX.out (hE.out.trans (all_whole HB.out))
       have HR2 := Lib.hid hR
       clear hR
       go_wp2_with fail
       go_roundw
       case rel => exact ⟨k + 1, by omega, by go_num, HR2, HI5⟩
       case measure => simp [intOf]; omega
    ·obtain rfl : k = S.rg.length := by omega
     have hF : encB S = true := by rw [HD2.out]; exact all_whole HA.out
     go_wp2_with fail
     go_ret
     exact ⟨ret_bool hF.symm, HI.out.1⟩
end Go.Proofs.Ytakggmfpgopcgaa
