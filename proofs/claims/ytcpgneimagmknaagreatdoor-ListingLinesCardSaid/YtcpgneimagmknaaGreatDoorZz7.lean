import Derived.Test.YtcpgneimagmknaaGreatDoorZz6
namespace Go.Proofs.YtcpgneimagmknaaGreatDoor
open Go.RowKit
set_option linter.unusedVariables false
set_option linter.unusedSimpArgs false
def RxPost (X : In) (b : Bool) (w : World) (e : Ending) (w' : World) : Prop := ∃ x, e = .returned (.tuple #[.agg (inC x), .bool b]) ∧ (b = true → x = X) ∧ Below w.heap.size w w'
def WdAt (w : World) (b o : Nat) (ws : List (List UInt8)) : Prop := b < w.heap.size ∧ ∀ (k : Nat) (c : List UInt8), ws[k]? = some c → w.cell? ⟨b, o + k, none⟩ = some (.string (textB c))
theorem WdAt.kept {S : Nat → Prop} {w w' : World} {b o : Nat} {ws : List (List UInt8)} (h : WdAt w b o ws) (k : Kept S w w') (hn : ¬ S b) : WdAt w' b o ws :=
 ⟨Nat.lt_of_lt_of_le h.1 k.size, fun i c hc => (cell_keptN k h.1 hn).trans (h.2 i c hc)⟩
theorem WdAt.later {w w' : World} {b o : Nat} {ws : List (List UInt8)} (h : WdAt w b o ws) (k : Below w.heap.size w w') : WdAt w' b o ws := h.kept (Kept.of_below k) (fun e => e)
def opK (s : ByteArray) (k : Nat) : Nat := if fdN s < k then fdN s else 0
theorem name_iff {s : ByteArray} {n : Nat} (h1 : 1 ≤ n) (h2 : n ≤ 25) : nmB (n : Int) = s ↔ fdN s = n := by
 rw [nmB_nat h1 h2]
 constructor
 ·rintro rfl
  exact fdN_nm n (by omega) h1
 ·intro h
  have := fdN_at_nm (s := s) (by omega)
  rwa [h] at this
theorem opK_one (s : ByteArray) : opK s 1 = 0 := by unfold opK; split <;> omega
theorem opK_yes {s : ByteArray} {n : Nat} (h : fdN s = n) : opK s (n + 1) = n := by unfold opK; rw [h, if_pos (by omega)]
theorem opK_no {s : ByteArray} {n : Nat} (h : fdN s ≠ n) : opK s (n + 1) = opK s n := by
 unfold opK
 by_cases h1 : fdN s < n
 ·rw [if_pos h1, if_pos (by omega)]
 ·rw [if_neg h1, if_neg (by omega)]
theorem opK_end (s : ByteArray) : opK s 26 = fdN s := by
 unfold opK
 have := fdN_le s
 rw [if_pos (by omega)]
theorem sm10_le (b : List UInt8) (k : Nat) : sm10 b k ≤ 1000 := by unfold sm10; split <;> omega
theorem rdD_ok {x : In} {o : Nat} {b : List UInt8} (h : inOk x) : inOk (rdD x o b) := by
 have h1 := sm10_le b 1
 have h0 := sm10_le b 0
 have hk := rnE_lt b
 obtain ⟨a1, a2, a3, a4, a5, a6⟩ := h
 unfold rdD
 unfold i64 at *
 repeat' split
 all_goals refine ⟨?_, ?_, ?_, ?_, ?_, ?_⟩
 all_goals (try unfold i64)
 all_goals (simp only; try assumption)
 all_goals omega
theorem rdDs_next {L : List Nat} {rs : List (List UInt8)} {k o : Nat} {b : List UInt8} {x : In} (ho : L[k]? = some o) (hb : rs[k]? = some b) : rdDs (L.drop k) (rs.drop k) x = rdDs (L.drop (k + 1)) (rs.drop (k + 1)) (rdD x o b) := by
 obtain ⟨h1, h2⟩ := List.getElem?_eq_some_iff.1 ho
 obtain ⟨h3, h4⟩ := List.getElem?_eq_some_iff.1 hb
 rw [List.drop_eq_getElem_cons h1, List.drop_eq_getElem_cons h3, h2, h4]
 rfl
def dK (b : List UInt8) : Nat → Nat
 | 0 => 3
 | n + 1 => if b = moW n then n else dK b n
theorem moW_wt (n : Nat) (h : n < 3) : wtB (n : Int) = moW n := by
 rcases (show n = 0 ∨ n = 1 ∨ n = 2 by omega) with rfl | rfl | rfl <;> rfl
theorem dK_end (x : In) (b : List UInt8) : rdD x 68 b = { x with d := ((dK b 3 : Nat) : Int) } := by
 show ({ x with d := if b = moW 0 then 0 else if b = moW 1 then 1 else if b = moW 2 then 2 else 3 } : In) = { x with d := (((if b = moW 2 then 2 else if b = moW 1 then 1 else if b = moW 0 then 0 else 3 : Nat)) : Int) }
 by_cases h0 : b = moW 0
 ·subst h0; rfl
 ·by_cases h1 : b = moW 1
  ·subst h1; rfl
  ·by_cases h2 : b = moW 2
   ·subst h2; rfl
   ·simp [h0, h1, h2]
theorem rfiB_no {bs w0 : List UInt8} {rs : List (List UInt8)} {op : Nat} (h : op = 0 ∨ (w0 :: rs).length ≠ 1 + (odL (op : Int)).length) : rfiB bs op (w0 :: rs) = false := by
 unfold rfiB
 rw [decide_eq_false, Bool.false_and]
 rintro ⟨h1, h2⟩
 exact h.elim h1 (fun h => h h2)
theorem rfiB_yes {bs w0 : List UInt8} {rs : List (List UInt8)} {op : Nat} (h : ¬ (op = 0 ∨ (w0 :: rs).length ≠ 1 + (odL (op : Int)).length)) : rfiB bs op (w0 :: rs) = (rightB (rfiX op (w0 :: rs)) && decide (lnI (rfiX op (w0 :: rs)) = bs)) := by
 unfold rfiB
 rw [decide_eq_true, Bool.true_and]
 rw [not_or] at h
 exact ⟨h.1, Classical.not_not.1 h.2⟩
theorem text_eqb (a b : List UInt8) : ((textB a).toList == (textB b).toList) = decide (a = b) := by
 rw [text_toList, text_toList]
 by_cases h : a = b
 ·subst h; simp
 ·rw [decide_eq_false h, beq_eq_false_iff_ne]; exact h
set_option maxHeartbeats 16000000 in
set_option maxRecDepth 100000 in
theorem rfReadInstr10 (bs w0 : List UInt8) (rs : List (List UInt8)) (hw : WordsOf 32 bs (w0 :: rs)) (w : World) (hbs : bs.length ≤ 9000000) :
  Calls Tryz.prog 39 #[.string (textB bs)] w (RxPost (rfiX (fdN (textB w0)) (w0 :: rs)) (rfiB bs (fdN (textB w0)) (w0 :: rs)) w) := by
 have HL0 := Lib.hid (Lies.made w 28 inZ)
 have HB0 := Lib.hid ((Below.refl w.heap.size w).alloc (Nat.le_refl _) (.cells inZ 28))
 have hwn := hw.length
 have HWS := Lib.hid (words_le hw hbs)
 have HW := Lib.hid hw
 have HWD := Lib.hid (rfWords10 bs (w.alloc (.cells inZ 28)) (by omega))
 obtain ⟨op, hop⟩ : ∃ op, op = fdN (textB w0) := ⟨_, rfl⟩
 have hop25 := fdN_le (textB w0)
 rw [← hop] at hop25 ⊢
 have HOP := Lib.hid hop.symm
 clear hw hop
 go_enter Tryz.func39, Tryz.ntmps39
 go_upto_region 1 with (fail)
 obtain ⟨N0, hN0⟩ : ∃ g, g = w.heap.size := ⟨_, rfl⟩
 have HN0 := Lib.hid hN0
 rw [← hN0] at HL0 ⊢
 clear hN0
 generalize w.alloc (.cells inZ 28) = w1 at *
 go_wp2_with fail
 refine HWD.out.mono ?_
 rintro e w2 ⟨v, ws, rfl, hw2, ho, hb⟩
 have hwe := words_eq hw2 HW.out
 subst hwe
 obtain ⟨b2, o2, c2, he2, _, _, hbl, hcc⟩ := (SeqS.of_owns ho).cells1 (by simp)
 cases he2
 have HL2 := Lib.hid (HL0.out.below hb HL0.out.lt)
 have HB2 := Lib.hid (HB0.out.trans (hb.mono HB0.out.size))
 clear ho hb hw2 HWD HL0 HB0
 go_upto_region 3 with (fail)
 have hbx : Below w2.heap.size w2 (w2.alloc (.cells inZ 28)) := (Below.refl _ _).alloc (Nat.le_refl _) _
 have HX3 := Lib.hid (Lies.made w2 28 inZ)
 have hgn0 := HL2.out.lt
 have HL3 := Lib.hid (HL2.out.below hbx hgn0)
 have HB3 := Lib.hid (HB2.out.trans (hbx.mono HB2.out.size))
 have HW3 : Hid (WdAt (w2.alloc (.cells inZ 28)) b2 o2 (w0 :: rs)) := ⟨Nat.lt_of_lt_of_le hbl hbx.size, fun k c hc => cell_later (hcc k _ (by unfold cellsW; rw [List.getElem?_map, hc]; rfl)) hbx⟩
 obtain ⟨gi, hgi⟩ : ∃ k, k = w2.heap.size := ⟨_, rfl⟩
 have hbg : ¬ b2 = gi := fun e => by omega
 have hgn : ¬ gi = N0 := fun e => by omega
 have hgw : w.heap.size ≤ gi := by rw [hgi]; exact HB2.out.size
 rw [← hgi] at HX3
 simp only [← hgi]
 clear hbx hcc HL2 HB2 hgn0 hgi hbl
 generalize w2.alloc (.cells inZ 28) = w3 at *
 rw [List.length_cons] at hwn
 have HI3 : Hid (Lies w3 gi 28 (inC ⟨((opK (textB w0) 1 : Nat) : Int), 0, 0, 0, 0, 0⟩)) := by rw [opK_one]; exact HX3.out
 clear HX3
 go_wp2_with fail
 go_loopw [6] (fun u wr => ∃ k : Nat, 1 ≤ k ∧ k ≤ 26 ∧ u = .int .i64 k ∧ Hid (Lies wr gi 28 (inC ⟨((opK (textB w0) k : Nat) : Int), 0, 0, 0, 0, 0⟩)) ∧ Hid (Lies wr N0 28 inZ) ∧ Hid (WdAt wr b2 o2 (w0 :: rs)) ∧ Hid (Below w.heap.size w wr)) (fun u _ => 26 - (intOf u).toNat)
 case atStart => exact ⟨1, by omega, by omega, rfl, HI3, HL3, HW3, HB3⟩
 case round =>
  clear HI3 HL3 HW3 HB3
  obtain ⟨k, hk1, hk2, rfl, HI5, HL5, HW5, HB5⟩ := hrel
  by_cases hlt : k ≤ 25
  ·have hki : (k : Int) ≤ 25 := by omega
   go_upto_region 6 with (fail)
   have HNM := Lib.hid (rfName (k : Int) wr.drew)
   obtain ⟨E, hE⟩ : ∃ E, E = ((nmB (k : Int)).toList == (textB w0).toList) := ⟨_, rfl⟩
   have hE2 : E = decide (fdN (textB w0) = k) := by
    rw [hE, bytes_eqb]
    exact decide_eq_decide.2 (name_iff hk1 hlt)
   have HE2 := Lib.hid hE2
   obtain ⟨NK, hNK⟩ : ∃ T, T = nmB (k : Int) := ⟨_, rfl⟩
   rw [← hNK] at hE HNM
   obtain ⟨T0, hT0⟩ : ∃ T, T = textB w0 := ⟨_, rfl⟩
   rw [← hT0] at hE
   replace hE := hE.symm
   have HT0 := Lib.hid hT0
   clear hNK hE2 hT0
   refine wp_region_held_drew (S := fun y => y.cell? ⟨b2, o2, none⟩ = some (.string T0) ∧ b2 < y.heap.size) (by kernel_rfl) ⟨by rw [HT0.out]; exact HW5.out.2 0 w0 rfl, HW5.out.1⟩ (fun hHeld => ?_)
   replace HI5 := Lib.hid HI5.out.drew
   replace HL5 := Lib.hid HL5.out.drew
   replace HW5 := Lib.hid (HW5.out.later (below_drewN (Below.refl _ _) 1))
   replace HB5 : Hid (Below w.heap.size w wr.drew) := below_drewN HB5.out 1
   have HW5 : Hid (WdAt wr.drew b2 o2 (w0 :: rs)) := HW5
   generalize wr.drew = w4 at *
   try simp only [Act.put, List.setIfInBounds_toArray, List.set_cons_zero, List.set_cons_succ]
   refine wpAnyH_take (i := 0) (v := (.int .i64 (k : Int))) rfl (by kernel_rfl) (by kernel_rfl) (by kernel_rfl) (fun _ _ _ h => h) (Or.inl ⟨by rfl, fun w h => by (simp only [List.getElem_toArray, List.getElem_cons_succ, List.getElem_cons_zero]; clear h; go_simp)⟩) (by assumption) ?_
   simp only [Act.put, List.getElem_toArray, List.getElem_cons_succ, List.getElem_cons_zero, List.setIfInBounds_toArray, List.set_cons_zero, List.set_cons_succ]
   refine wpAnyH_take (i := 2) (v := (.slice (some ⟨b2, o2, none⟩) (rs.length + 1) c2)) rfl (by kernel_rfl) (by kernel_rfl) (by kernel_rfl) (fun _ _ _ h => h) (Or.inl ⟨by rfl, fun w h => by (simp only [List.getElem_toArray, List.getElem_cons_succ, List.getElem_cons_zero]; clear h; go_simp)⟩) (by assumption) ?_
   simp only [Act.put, List.getElem_toArray, List.getElem_cons_succ, List.getElem_cons_zero, List.setIfInBounds_toArray, List.set_cons_zero, List.set_cons_succ]
   refine wpAnyH_take (i := 3) (v := (.pointer (some ⟨b2, o2, none⟩))) rfl (by kernel_rfl) (by kernel_rfl) (by kernel_rfl) (fun _ _ _ h => h) (Or.inl ⟨by rfl, fun w h => by (simp only [List.getElem_toArray, List.getElem_cons_succ, List.getElem_cons_zero]; clear h; go_simp)⟩) (by assumption) ?_
   simp only [Act.put, List.getElem_toArray, List.getElem_cons_succ, List.getElem_cons_zero, List.setIfInBounds_toArray, List.set_cons_zero, List.set_cons_succ]
   refine wpAnyH_take (i := 4) (v := (.string T0)) rfl (by kernel_rfl) (by kernel_rfl) (by kernel_rfl) (fun _ _ _ h => h) (Or.inl ⟨by rfl, fun w h => by (simp only [List.getElem_toArray, List.getElem_cons_succ, List.getElem_cons_zero]; have h1 := h.1; have h2 := h.2; clear h; go_simp)⟩) (by assumption) ?_
   simp only [Act.put, List.getElem_toArray, List.getElem_cons_succ, List.getElem_cons_zero, List.setIfInBounds_toArray, List.set_cons_zero, List.set_cons_succ]
   refine wpAnyH_ready (rs := [1]) (by kernel_rfl) (by simp) ?_
   refine AllReadyH.cons rfl (fun K hK => ?_) AllReadyH.nil
   rw [if_pos (by rfl)]
   go_wp2_with fail
   refine HNM.out.mono ?_
   rintro e w5 ⟨rfl, hb5⟩
   dsimp only
   refine hK.out _ _ ⟨cell_later hHeld.1 hb5, Nat.lt_of_lt_of_le hHeld.2 hb5.size⟩ (fun hHeld1 => ?_)
   clear hK K hHeld
   have HI6 := Lib.hid (HI5.out.below hb5 HI5.out.lt)
   have HL6 := Lib.hid (HL5.out.below hb5 HL5.out.lt)
   have HW6 := Lib.hid (HW5.out.later hb5)
   have HB6 := Lib.hid (HB5.out.trans (hb5.mono HB5.out.size))
   clear HI5 HL5 HW5 HB5 hb5 HNM
   try simp only [Act.put, List.setIfInBounds_toArray, List.set_cons_zero, List.set_cons_succ]
   refine wpAnyH_take (i := 5) (v := (.bool E)) rfl (by kernel_rfl) (by kernel_rfl) (by kernel_rfl) (fun _ _ _ h => h) (Or.inl ⟨by rfl, fun w h => by (simp only [List.getElem_toArray, List.getElem_cons_succ, List.getElem_cons_zero]; clear h; go_simp)⟩) (by assumption) ?_
   simp only [Act.put, List.getElem_toArray, List.getElem_cons_succ, List.getElem_cons_zero, List.setIfInBounds_toArray, List.set_cons_zero, List.set_cons_succ]
   refine wpAnyH_done (by kernel_rfl) ?_ _
   clear hE hHeld1
   cases E
   ·have HI7 : Hid (Lies w5 gi 28 (inC ⟨((opK (textB w0) (k + 1) : Nat) : Int), 0, 0, 0, 0, 0⟩)) := by rw [opK_no (of_decide_eq_false HE2.out.symm)]; exact HI6.out
    go_wp2
    go_roundw
    case rel => exact ⟨k + 1, by omega, by omega, by go_num, HI7, HL6, HW6, HB6⟩
    case measure => simp [intOf]; omega
   ·have HI7 : Hid (Lies (w5.setCell ⟨gi, 0, none⟩ (.int .i64 (k : Int))) gi 28 (inC ⟨((opK (textB w0) (k + 1) : Nat) : Int), 0, 0, 0, 0, 0⟩)) := by rw [opK_yes (of_decide_eq_true HE2.out.symm)]; exact HI6.out.put 0 _
    have HL7 : Hid (Lies (w5.setCell ⟨gi, 0, none⟩ (.int .i64 (k : Int))) N0 28 inZ) := HL6.out.far (p := ⟨gi, 0, none⟩) (fun e => hgn e.symm) _
    have HW7 : Hid (WdAt (w5.setCell ⟨gi, 0, none⟩ (.int .i64 (k : Int))) b2 o2 (w0 :: rs)) := HW6.out.kept (Kept.put w5 gi 0 _) (fun (e : b2 = gi) => hbg e)
    have HB7 : Hid (Below w.heap.size w (w5.setCell ⟨gi, 0, none⟩ (.int .i64 (k : Int)))) := HB6.out.setCell (p := ⟨gi, 0, none⟩) hgw _
    have b0 := (HI6.out.cell 0).trans (show _ = some (Value.int .i64 ((opK (textB w0) k : Nat) : Int)) from rfl)
    have g0 := HI6.out.free 0
    have blt := HI6.out.lt
    clear HL6 HW6 HB6
    go_wp2
    go_roundw
    case rel => exact ⟨k + 1, by omega, by omega, by go_num, HI7, HL7, HW7, HB7⟩
    case measure => simp [intOf]; omega
  ·obtain rfl : k = 26 := by omega
   rw [opK_end, HOP.out] at HI5
   have b0 := (HI5.out.cell 0).trans (show _ = some (Value.int .i64 (op : Int)) from rfl)
   have blt := HI5.out.lt
   have HNN := Lib.hid (rfNames10 (op : Int) wr)
   go_wp2_with fail
   refine HNN.out.mono ?_
   rintro e w4 ⟨rfl, rfl⟩
   have hol := odT_size (op : Int)
   have hol5 := odL_length (op : Int)
   have HOG := Lib.hid (fun (k o : Nat) (h : (odL (op : Int))[k]? = some o) (hk : k < (odT (op : Int)).size) => odT_get (op : Int) h hk)
   obtain ⟨O, hO⟩ : ∃ O, O = odT (op : Int) := ⟨_, rfl⟩
   have HOG : Hid (∀ (k o : Nat) (h : (odL (op : Int))[k]? = some o) (hk : k < O.size), (O[k]'hk).toNat = o) := by subst hO; exact HOG.out
   rw [← hO] at hol ⊢
   clear hO HNN
   have HNO0 := Lib.hid (@rfiB_no bs w0 rs op)
   have HNY := Lib.hid (@rfiB_yes bs w0 rs op)
   rw [List.length_cons] at HNO0 HNY
   obtain ⟨L, hL⟩ : ∃ L, L = odL (op : Int) := ⟨_, rfl⟩
   have HLM := Lib.hid (odL_mem (op : Int))
   have HX : Hid (rfiX op (w0 :: rs) = rdDs L rs ⟨(op : Int), 0, 0, 0, 0, 0⟩) := by show _ = _; rw [hL]; rfl
   rw [← hL] at HOG HLM hol hol5 HNO0 HNY
   clear hL
   by_cases hbad : op = 0 ∨ rs.length + 1 ≠ 1 + L.length
   ·have HNO := Lib.hid (HNO0.out hbad)
    clear HNO0 HNY
    rcases hbad with h0 | hbad
    ·have e1 : ((op : Int) == 0) = true := by rw [beq_iff_eq]; omega
     clear h0
     have HL := HL5
     have HB9 := HB5
     have lt := HL.out.lt
     have f0 := HL.out.free 0
     have f1 := HL.out.free 1
     have f2 := HL.out.free 2
     have f3 := HL.out.free 3
     have f4 := HL.out.free 4
     have f5 := HL.out.free 5
     have c0 := (HL.out.cell 0).trans (show _ = some (Value.int .i64 0) from rfl)
     have c1 := (HL.out.cell 1).trans (show _ = some (Value.int .i64 0) from rfl)
     have c2 := (HL.out.cell 2).trans (show _ = some (Value.int .i64 0) from rfl)
     have c3 := (HL.out.cell 3).trans (show _ = some (Value.int .i64 0) from rfl)
     have c4 := (HL.out.cell 4).trans (show _ = some (Value.int .i64 0) from rfl)
     have c5 := (HL.out.cell 5).trans (show _ = some (Value.int .u64 0) from rfl)
     have b0 := (HI5.out.cell 0).trans (show _ = some (Value.int .i64 (op : Int)) from rfl)
     have b1 := (HI5.out.cell 1).trans (show _ = some (Value.int .i64 0) from rfl)
     have b2 := (HI5.out.cell 2).trans (show _ = some (Value.int .i64 0) from rfl)
     have b3 := (HI5.out.cell 3).trans (show _ = some (Value.int .i64 0) from rfl)
     have b4 := (HI5.out.cell 4).trans (show _ = some (Value.int .i64 0) from rfl)
     have b5 := (HI5.out.cell 5).trans (show _ = some (Value.int .u64 0) from rfl)
     have blt := HI5.out.lt
     go_wp2_with fail
     have HBZ := Lib.hid (HB9.out.trans ((st6_kept wr N0 (.int .i64 (op : Int)) (.int .i64 0) (.int .i64 0) (.int .i64 0) (.int .i64 0) (.int .u64 0)).below HB9.out.size (fun j hj (e : j = N0) => by have := HN0.out; omega)))
     have HRZ := Lib.hid (st6_lies (a0 := (.int .i64 (op : Int))) (a1 := (.int .i64 0)) (a2 := (.int .i64 0)) (a3 := (.int .i64 0)) (a4 := (.int .i64 0)) (a5 := (.int .u64 0)) HL.out)
     have q0 := (HRZ.out.cell 0).trans (show _ = some ((.int .i64 (op : Int))) from rfl)
     have q1 := (HRZ.out.cell 1).trans (show _ = some ((.int .i64 0)) from rfl)
     have q2 := (HRZ.out.cell 2).trans (show _ = some ((.int .i64 0)) from rfl)
     have q3 := (HRZ.out.cell 3).trans (show _ = some ((.int .i64 0)) from rfl)
     have q4 := (HRZ.out.cell 4).trans (show _ = some ((.int .i64 0)) from rfl)
     have q5 := (HRZ.out.cell 5).trans (show _ = some ((.int .u64 0)) from rfl)
     refine bodyPost_ret (v := .tuple #[.agg (inC ⟨(op : Int), 0, 0, 0, 0, 0⟩), (.bool false)]) (by simp [results, Tryz.results39, go_sem, q0, q1, q2, q3, q4, q5]) rfl ?_
     exact ⟨_, by rw [HNO.out], fun h => absurd (HNO.out.symm.trans h) (by decide), HBZ.out⟩
    ·by_cases h0 : op = 0
     ·have e1 : ((op : Int) == 0) = true := by rw [beq_iff_eq]; omega
      clear h0
      have HL := HL5
      have HB9 := HB5
      have lt := HL.out.lt
      have f0 := HL.out.free 0
      have f1 := HL.out.free 1
      have f2 := HL.out.free 2
      have f3 := HL.out.free 3
      have f4 := HL.out.free 4
      have f5 := HL.out.free 5
      have c0 := (HL.out.cell 0).trans (show _ = some (Value.int .i64 0) from rfl)
      have c1 := (HL.out.cell 1).trans (show _ = some (Value.int .i64 0) from rfl)
      have c2 := (HL.out.cell 2).trans (show _ = some (Value.int .i64 0) from rfl)
      have c3 := (HL.out.cell 3).trans (show _ = some (Value.int .i64 0) from rfl)
      have c4 := (HL.out.cell 4).trans (show _ = some (Value.int .i64 0) from rfl)
      have c5 := (HL.out.cell 5).trans (show _ = some (Value.int .u64 0) from rfl)
      have b0 := (HI5.out.cell 0).trans (show _ = some (Value.int .i64 (op : Int)) from rfl)
      have b1 := (HI5.out.cell 1).trans (show _ = some (Value.int .i64 0) from rfl)
      have b2 := (HI5.out.cell 2).trans (show _ = some (Value.int .i64 0) from rfl)
      have b3 := (HI5.out.cell 3).trans (show _ = some (Value.int .i64 0) from rfl)
      have b4 := (HI5.out.cell 4).trans (show _ = some (Value.int .i64 0) from rfl)
      have b5 := (HI5.out.cell 5).trans (show _ = some (Value.int .u64 0) from rfl)
      have blt := HI5.out.lt
      go_wp2_with fail
      have HBZ := Lib.hid (HB9.out.trans ((st6_kept wr N0 (.int .i64 (op : Int)) (.int .i64 0) (.int .i64 0) (.int .i64 0) (.int .i64 0) (.int .u64 0)).below HB9.out.size (fun j hj (e : j = N0) => by have := HN0.out; omega)))
      have HRZ := Lib.hid (st6_lies (a0 := (.int .i64 (op : Int))) (a1 := (.int .i64 0)) (a2 := (.int .i64 0)) (a3 := (.int .i64 0)) (a4 := (.int .i64 0)) (a5 := (.int .u64 0)) HL.out)
      have q0 := (HRZ.out.cell 0).trans (show _ = some ((.int .i64 (op : Int))) from rfl)
      have q1 := (HRZ.out.cell 1).trans (show _ = some ((.int .i64 0)) from rfl)
      have q2 := (HRZ.out.cell 2).trans (show _ = some ((.int .i64 0)) from rfl)
      have q3 := (HRZ.out.cell 3).trans (show _ = some ((.int .i64 0)) from rfl)
      have q4 := (HRZ.out.cell 4).trans (show _ = some ((.int .i64 0)) from rfl)
      have q5 := (HRZ.out.cell 5).trans (show _ = some ((.int .u64 0)) from rfl)
      refine bodyPost_ret (v := .tuple #[.agg (inC ⟨(op : Int), 0, 0, 0, 0, 0⟩), (.bool false)]) (by simp [results, Tryz.results39, go_sem, q0, q1, q2, q3, q4, q5]) rfl ?_
      exact ⟨_, by rw [HNO.out], fun h => absurd (HNO.out.symm.trans h) (by decide), HBZ.out⟩
     ·have e1 : ((op : Int) == 0) = false := by rw [beq_eq_false_iff_ne]; omega
      have e2 : ((rs.length : Int) + 1 == 1 + (L.length : Int)) = false := by rw [beq_eq_false_iff_ne]; omega
      have e3 : (((rs.length + 1 : Nat) : Int) == 1 + (L.length : Int)) = false := by rw [beq_eq_false_iff_ne]; omega
      have e4 : ((rs.length : Int) + 1 == 1 + (O.size : Int)) = false := by rw [hol]; exact e2
      have e5 : ((rs.length : Int) + 1 != 1 + (O.size : Int)) = true := by simp [bne, e4]
      clear e1 e2 e3
      have e1 : ((op : Int) == 0) = false := by rw [beq_eq_false_iff_ne]; omega
      clear h0
      have HL := HL5
      have HB9 := HB5
      have lt := HL.out.lt
      have f0 := HL.out.free 0
      have f1 := HL.out.free 1
      have f2 := HL.out.free 2
      have f3 := HL.out.free 3
      have f4 := HL.out.free 4
      have f5 := HL.out.free 5
      have c0 := (HL.out.cell 0).trans (show _ = some (Value.int .i64 0) from rfl)
      have c1 := (HL.out.cell 1).trans (show _ = some (Value.int .i64 0) from rfl)
      have c2 := (HL.out.cell 2).trans (show _ = some (Value.int .i64 0) from rfl)
      have c3 := (HL.out.cell 3).trans (show _ = some (Value.int .i64 0) from rfl)
      have c4 := (HL.out.cell 4).trans (show _ = some (Value.int .i64 0) from rfl)
      have c5 := (HL.out.cell 5).trans (show _ = some (Value.int .u64 0) from rfl)
      have b0 := (HI5.out.cell 0).trans (show _ = some (Value.int .i64 (op : Int)) from rfl)
      have b1 := (HI5.out.cell 1).trans (show _ = some (Value.int .i64 0) from rfl)
      have b2 := (HI5.out.cell 2).trans (show _ = some (Value.int .i64 0) from rfl)
      have b3 := (HI5.out.cell 3).trans (show _ = some (Value.int .i64 0) from rfl)
      have b4 := (HI5.out.cell 4).trans (show _ = some (Value.int .i64 0) from rfl)
      have b5 := (HI5.out.cell 5).trans (show _ = some (Value.int .u64 0) from rfl)
      have blt := HI5.out.lt
      go_wp2_with fail
      have HBZ := Lib.hid (HB9.out.trans ((st6_kept wr N0 (.int .i64 (op : Int)) (.int .i64 0) (.int .i64 0) (.int .i64 0) (.int .i64 0) (.int .u64 0)).below HB9.out.size (fun j hj (e : j = N0) => by have := HN0.out; omega)))
      have HRZ := Lib.hid (st6_lies (a0 := (.int .i64 (op : Int))) (a1 := (.int .i64 0)) (a2 := (.int .i64 0)) (a3 := (.int .i64 0)) (a4 := (.int .i64 0)) (a5 := (.int .u64 0)) HL.out)
      have q0 := (HRZ.out.cell 0).trans (show _ = some ((.int .i64 (op : Int))) from rfl)
      have q1 := (HRZ.out.cell 1).trans (show _ = some ((.int .i64 0)) from rfl)
      have q2 := (HRZ.out.cell 2).trans (show _ = some ((.int .i64 0)) from rfl)
      have q3 := (HRZ.out.cell 3).trans (show _ = some ((.int .i64 0)) from rfl)
      have q4 := (HRZ.out.cell 4).trans (show _ = some ((.int .i64 0)) from rfl)
      have q5 := (HRZ.out.cell 5).trans (show _ = some ((.int .u64 0)) from rfl)
      refine bodyPost_ret (v := .tuple #[.agg (inC ⟨(op : Int), 0, 0, 0, 0, 0⟩), (.bool false)]) (by simp [results, Tryz.results39, go_sem, q0, q1, q2, q3, q4, q5]) rfl ?_
      exact ⟨_, by rw [HNO.out], fun h => absurd (HNO.out.symm.trans h) (by decide), HBZ.out⟩
   have HBY := Lib.hid (HNY.out hbad)
   have h0 : op ≠ 0 := fun e => hbad (.inl e)
   have hrl : rs.length = L.length := by
    have : ¬ rs.length + 1 ≠ 1 + L.length := fun e => hbad (.inr e)
    omega
   have e4 : ((L.length : Int) + 1 == 1 + (L.length : Int)) = true := by rw [beq_iff_eq]; omega
   have e5 : ((L.length : Int) + 1 != 1 + (L.length : Int)) = false := by simp [bne, e4]
   have e1 : ((op : Int) == 0) = false := by rw [beq_eq_false_iff_ne]; omega
   have HIK0 : Hid (inOk ⟨(op : Int), 0, 0, 0, 0, 0⟩) := by
    show inOk _
    unfold inOk i64
    simp only
    omega
   obtain ⟨R, hR⟩ : ∃ R, rdDs L rs ⟨(op : Int), 0, 0, 0, 0, 0⟩ = R := ⟨_, rfl⟩
   rw [hR] at HX
   have HR0 : Hid (rdDs (L.drop 0) (rs.drop 0) ⟨(op : Int), 0, 0, 0, 0, 0⟩ = R) := hR
   rw [HX.out] at HBY
   have HHL := Lib.hid hol
   clear HNO0 HNY hbad hR h0
   go_wp2_with fail
   clear b0 blt e1 e4 e5
   go_loopw [8] (fun u wr => ∃ (k : Nat) (x : In), k ≤ O.size ∧ u = .int .i64 k ∧ Hid (rdDs (L.drop k) (rs.drop k) x = R) ∧ Hid (inOk x) ∧ Hid (Lies wr gi 28 (inC x)) ∧ Hid (Lies wr N0 28 inZ) ∧ Hid (WdAt wr b2 o2 (w0 :: rs)) ∧ Hid (Below w.heap.size w wr)) (fun u _ => O.size - (intOf u).toNat)
   case atStart => exact ⟨0, ⟨(op : Int), 0, 0, 0, 0, 0⟩, by omega, rfl, HR0, HIK0, HI5, HL5, HW5, HB5⟩
   case round =>
    clear HI5 HL5 HW5 HB5 HR0 HIK0
    obtain ⟨k, x, hk, rfl, HRK, HIK, HI5, HL5, HW5, HB5⟩ := hrel
    by_cases hlt : k < O.size
    ·have hki : (k : Int) < (O.size : Int) := by omega
     obtain ⟨o, ho⟩ : ∃ o, L[k]? = some o := ⟨_, List.getElem?_eq_getElem (by omega)⟩
     obtain ⟨b, hb⟩ : ∃ b, rs[k]? = some b := ⟨_, List.getElem?_eq_getElem (by omega)⟩
     have hget := HOG.out k o ho hlt
     have hsel := HLM.out o (List.mem_of_getElem? ho)
     have hrn := HRK.out
     rw [rdDs_next ho hb] at hrn
     have HRN := Lib.hid hrn
     have hbl := HWS.out b (List.mem_cons_of_mem _ (List.mem_of_getElem? hb))
     have sb := HW5.out.2 (k + 1) b (by rw [List.getElem?_cons_succ]; exact hb)
     have sl := HW5.out.1
     have hko : o2 + (1 + k) = o2 + (k + 1) := by omega
     have hkl : k < L.length := by omega
     have hkl2 : (k : Int) < (L.length : Int) := by omega
     clear hrn HRK hb ho
     rcases hsel with rfl | rfl | rfl | rfl | rfl | rfl
     ·have HRD := Lib.hid hget
      have HSM : Hid (Calls Tryz.prog 65 #[.string (textB b), .int .i64 1] wr fun e w' => e = .returned (.int .i64 ((sm10 b 1 : Nat) : Int)) ∧ wr = w') := rfSmall10 b 1 wr (by omega) (by omega)
      obtain ⟨V, hV⟩ : ∃ V : Int, V = ((sm10 b 1 : Nat) : Int) := ⟨_, rfl⟩
      rw [← hV] at HSM
      have HI6 : Hid (Lies (wr.setCell ⟨gi, 1, none⟩ (.int .i64 V)) gi 28 (inC (rdD x 65 b))) := by show Lies _ _ _ _; rw [hV]; exact HI5.out.put 1 _
      have HL6 : Hid (Lies (wr.setCell ⟨gi, 1, none⟩ (.int .i64 V)) N0 28 inZ) := HL5.out.far (p := ⟨gi, 1, none⟩) (fun e => hgn e.symm) _
      have HW6 : Hid (WdAt (wr.setCell ⟨gi, 1, none⟩ (.int .i64 V)) b2 o2 (w0 :: rs)) := HW5.out.kept (Kept.put wr gi 1 _) (fun (e : b2 = gi) => hbg e)
      have HB6 : Hid (Below w.heap.size w (wr.setCell ⟨gi, 1, none⟩ (.int .i64 V))) := HB5.out.setCell (p := ⟨gi, 1, none⟩) hgw _
      have HK6 := Lib.hid (rdD_ok (o := 65) (b := b) HIK.out)
      clear hV HW5 HB5 HL5 HRD HIK
      have blt := HI5.out.lt
      have g0 := HI5.out.free 0
      have g1 := HI5.out.free 1
      have g2 := HI5.out.free 2
      have g3 := HI5.out.free 3
      have g4 := HI5.out.free 4
      have g5 := HI5.out.free 5
      have i0 := (HI5.out.cell 0).trans (show _ = some (Value.int .i64 x.op) from rfl)
      have i1 := (HI5.out.cell 1).trans (show _ = some (Value.int .i64 x.a) from rfl)
      have i2 := (HI5.out.cell 2).trans (show _ = some (Value.int .i64 x.b) from rfl)
      have i3 := (HI5.out.cell 3).trans (show _ = some (Value.int .i64 x.c) from rfl)
      have i4 := (HI5.out.cell 4).trans (show _ = some (Value.int .i64 x.d) from rfl)
      have i5 := (HI5.out.cell 5).trans (show _ = some (Value.int .u64 (x.k : Int)) from rfl)
      go_wp2_with fail
      refine HSM.out.mono ?_
      rintro e w9 ⟨rfl, rfl⟩
      clear HSM HI5 sb
      go_wp2
      go_roundw
      case rel => skip; exact ⟨k + 1, rdD x 65 b, by omega, by go_num, HRN, HK6, HI6, HL6, HW6, HB6⟩
      case measure => simp [intOf]; omega
     ·have HRD := Lib.hid hget
      have HSM : Hid (Calls Tryz.prog 65 #[.string (textB b), .int .i64 1] wr fun e w' => e = .returned (.int .i64 ((sm10 b 1 : Nat) : Int)) ∧ wr = w') := rfSmall10 b 1 wr (by omega) (by omega)
      obtain ⟨V, hV⟩ : ∃ V : Int, V = ((sm10 b 1 : Nat) : Int) := ⟨_, rfl⟩
      rw [← hV] at HSM
      have HI6 : Hid (Lies (wr.setCell ⟨gi, 2, none⟩ (.int .i64 V)) gi 28 (inC (rdD x 66 b))) := by show Lies _ _ _ _; rw [hV]; exact HI5.out.put 2 _
      have HL6 : Hid (Lies (wr.setCell ⟨gi, 2, none⟩ (.int .i64 V)) N0 28 inZ) := HL5.out.far (p := ⟨gi, 2, none⟩) (fun e => hgn e.symm) _
      have HW6 : Hid (WdAt (wr.setCell ⟨gi, 2, none⟩ (.int .i64 V)) b2 o2 (w0 :: rs)) := HW5.out.kept (Kept.put wr gi 2 _) (fun (e : b2 = gi) => hbg e)
      have HB6 : Hid (Below w.heap.size w (wr.setCell ⟨gi, 2, none⟩ (.int .i64 V))) := HB5.out.setCell (p := ⟨gi, 2, none⟩) hgw _
      have HK6 := Lib.hid (rdD_ok (o := 66) (b := b) HIK.out)
      clear hV HW5 HB5 HL5 HRD HIK
      have blt := HI5.out.lt
      have g0 := HI5.out.free 0
      have g1 := HI5.out.free 1
      have g2 := HI5.out.free 2
      have g3 := HI5.out.free 3
      have g4 := HI5.out.free 4
      have g5 := HI5.out.free 5
      have i0 := (HI5.out.cell 0).trans (show _ = some (Value.int .i64 x.op) from rfl)
      have i1 := (HI5.out.cell 1).trans (show _ = some (Value.int .i64 x.a) from rfl)
      have i2 := (HI5.out.cell 2).trans (show _ = some (Value.int .i64 x.b) from rfl)
      have i3 := (HI5.out.cell 3).trans (show _ = some (Value.int .i64 x.c) from rfl)
      have i4 := (HI5.out.cell 4).trans (show _ = some (Value.int .i64 x.d) from rfl)
      have i5 := (HI5.out.cell 5).trans (show _ = some (Value.int .u64 (x.k : Int)) from rfl)
      go_wp2_with fail
      refine HSM.out.mono ?_
      rintro e w9 ⟨rfl, rfl⟩
      clear HSM HI5 sb
      go_wp2
      go_roundw
      case rel => skip; exact ⟨k + 1, rdD x 66 b, by omega, by go_num, HRN, HK6, HI6, HL6, HW6, HB6⟩
      case measure => simp [intOf]; omega
     ·have HRD := Lib.hid hget
      have HSM : Hid (Calls Tryz.prog 65 #[.string (textB b), .int .i64 1] wr fun e w' => e = .returned (.int .i64 ((sm10 b 1 : Nat) : Int)) ∧ wr = w') := rfSmall10 b 1 wr (by omega) (by omega)
      obtain ⟨V, hV⟩ : ∃ V : Int, V = ((sm10 b 1 : Nat) : Int) := ⟨_, rfl⟩
      rw [← hV] at HSM
      have HI6 : Hid (Lies (wr.setCell ⟨gi, 3, none⟩ (.int .i64 V)) gi 28 (inC (rdD x 82 b))) := by show Lies _ _ _ _; rw [hV]; exact HI5.out.put 3 _
      have HL6 : Hid (Lies (wr.setCell ⟨gi, 3, none⟩ (.int .i64 V)) N0 28 inZ) := HL5.out.far (p := ⟨gi, 3, none⟩) (fun e => hgn e.symm) _
      have HW6 : Hid (WdAt (wr.setCell ⟨gi, 3, none⟩ (.int .i64 V)) b2 o2 (w0 :: rs)) := HW5.out.kept (Kept.put wr gi 3 _) (fun (e : b2 = gi) => hbg e)
      have HB6 : Hid (Below w.heap.size w (wr.setCell ⟨gi, 3, none⟩ (.int .i64 V))) := HB5.out.setCell (p := ⟨gi, 3, none⟩) hgw _
      have HK6 := Lib.hid (rdD_ok (o := 82) (b := b) HIK.out)
      clear hV HW5 HB5 HL5 HRD HIK
      have blt := HI5.out.lt
      have g0 := HI5.out.free 0
      have g1 := HI5.out.free 1
      have g2 := HI5.out.free 2
      have g3 := HI5.out.free 3
      have g4 := HI5.out.free 4
      have g5 := HI5.out.free 5
      have i0 := (HI5.out.cell 0).trans (show _ = some (Value.int .i64 x.op) from rfl)
      have i1 := (HI5.out.cell 1).trans (show _ = some (Value.int .i64 x.a) from rfl)
      have i2 := (HI5.out.cell 2).trans (show _ = some (Value.int .i64 x.b) from rfl)
      have i3 := (HI5.out.cell 3).trans (show _ = some (Value.int .i64 x.c) from rfl)
      have i4 := (HI5.out.cell 4).trans (show _ = some (Value.int .i64 x.d) from rfl)
      have i5 := (HI5.out.cell 5).trans (show _ = some (Value.int .u64 (x.k : Int)) from rfl)
      go_wp2_with fail
      refine HSM.out.mono ?_
      rintro e w9 ⟨rfl, rfl⟩
      clear HSM HI5 sb
      go_wp2
      go_roundw
      case rel => skip; exact ⟨k + 1, rdD x 82 b, by omega, by go_num, HRN, HK6, HI6, HL6, HW6, HB6⟩
      case measure => simp [intOf]; omega
     ·have HRD := Lib.hid hget
      have HSM : Hid (Calls Tryz.prog 65 #[.string (textB b), .int .i64 0] wr fun e w' => e = .returned (.int .i64 ((sm10 b 0 : Nat) : Int)) ∧ wr = w') := rfSmall10 b 0 wr (by omega) (by omega)
      obtain ⟨V, hV⟩ : ∃ V : Int, V = ((sm10 b 0 : Nat) : Int) := ⟨_, rfl⟩
      rw [← hV] at HSM
      have HI6 : Hid (Lies (wr.setCell ⟨gi, 3, none⟩ (.int .i64 V)) gi 28 (inC (rdD x 67 b))) := by show Lies _ _ _ _; rw [hV]; exact HI5.out.put 3 _
      have HL6 : Hid (Lies (wr.setCell ⟨gi, 3, none⟩ (.int .i64 V)) N0 28 inZ) := HL5.out.far (p := ⟨gi, 3, none⟩) (fun e => hgn e.symm) _
      have HW6 : Hid (WdAt (wr.setCell ⟨gi, 3, none⟩ (.int .i64 V)) b2 o2 (w0 :: rs)) := HW5.out.kept (Kept.put wr gi 3 _) (fun (e : b2 = gi) => hbg e)
      have HB6 : Hid (Below w.heap.size w (wr.setCell ⟨gi, 3, none⟩ (.int .i64 V))) := HB5.out.setCell (p := ⟨gi, 3, none⟩) hgw _
      have HK6 := Lib.hid (rdD_ok (o := 67) (b := b) HIK.out)
      clear hV HW5 HB5 HL5 HRD HIK
      have blt := HI5.out.lt
      have g0 := HI5.out.free 0
      have g1 := HI5.out.free 1
      have g2 := HI5.out.free 2
      have g3 := HI5.out.free 3
      have g4 := HI5.out.free 4
      have g5 := HI5.out.free 5
      have i0 := (HI5.out.cell 0).trans (show _ = some (Value.int .i64 x.op) from rfl)
      have i1 := (HI5.out.cell 1).trans (show _ = some (Value.int .i64 x.a) from rfl)
      have i2 := (HI5.out.cell 2).trans (show _ = some (Value.int .i64 x.b) from rfl)
      have i3 := (HI5.out.cell 3).trans (show _ = some (Value.int .i64 x.c) from rfl)
      have i4 := (HI5.out.cell 4).trans (show _ = some (Value.int .i64 x.d) from rfl)
      have i5 := (HI5.out.cell 5).trans (show _ = some (Value.int .u64 (x.k : Int)) from rfl)
      go_wp2_with fail
      refine HSM.out.mono ?_
      rintro e w9 ⟨rfl, rfl⟩
      clear HSM HI5 sb
      go_wp2
      go_roundw
      case rel => skip; exact ⟨k + 1, rdD x 67 b, by omega, by go_num, HRN, HK6, HI6, HL6, HW6, HB6⟩
      case measure => simp [intOf]; omega
     ·have blt := HI5.out.lt
      have g0 := HI5.out.free 0
      have g1 := HI5.out.free 1
      have g2 := HI5.out.free 2
      have g3 := HI5.out.free 3
      have g4 := HI5.out.free 4
      have g5 := HI5.out.free 5
      have i0 := (HI5.out.cell 0).trans (show _ = some (Value.int .i64 x.op) from rfl)
      have i1 := (HI5.out.cell 1).trans (show _ = some (Value.int .i64 x.a) from rfl)
      have i2 := (HI5.out.cell 2).trans (show _ = some (Value.int .i64 x.b) from rfl)
      have i3 := (HI5.out.cell 3).trans (show _ = some (Value.int .i64 x.c) from rfl)
      have i4 := (HI5.out.cell 4).trans (show _ = some (Value.int .i64 x.d) from rfl)
      have i5 := (HI5.out.cell 5).trans (show _ = some (Value.int .u64 (x.k : Int)) from rfl)
      clear g0 g1 g2 g3 g5 i0 i1 i2 i3 i5
      have HK6 := Lib.hid (rdD_ok (o := 68) (b := b) HIK.out)
      have HI6 : Hid (Lies (wr.setCell ⟨gi, 4, none⟩ (.int .i64 3)) gi 28 (inC { x with d := ((dK b 0 : Nat) : Int) })) := HI5.out.put 4 _
      have HL6 : Hid (Lies (wr.setCell ⟨gi, 4, none⟩ (.int .i64 3)) N0 28 inZ) := HL5.out.far (p := ⟨gi, 4, none⟩) (fun e => hgn e.symm) _
      have HW6 : Hid (WdAt (wr.setCell ⟨gi, 4, none⟩ (.int .i64 3)) b2 o2 (w0 :: rs)) := HW5.out.kept (Kept.put wr gi 4 _) (fun (e : b2 = gi) => hbg e)
      have HB6 : Hid (Below w.heap.size w (wr.setCell ⟨gi, 4, none⟩ (.int .i64 3))) := HB5.out.setCell (p := ⟨gi, 4, none⟩) hgw _
      clear HI5 HL5 HW5 HB5 HIK
      go_wp2_with fail
      clear sb sl g4 i4 blt
      go_loopw [10] (fun u wq => ∃ n : Nat, n ≤ 3 ∧ u = .int .i64 n ∧ Hid (Lies wq gi 28 (inC { x with d := ((dK b n : Nat) : Int) })) ∧ Hid (Lies wq N0 28 inZ) ∧ Hid (WdAt wq b2 o2 (w0 :: rs)) ∧ Hid (Below w.heap.size w wq)) (fun u _ => 3 - (intOf u).toNat)
      case atStart => exact ⟨0, by omega, rfl, HI6, HL6, HW6, HB6⟩
      case round =>
       clear HI6 HL6 HW6 HB6
       obtain ⟨n, hn, rfl, HI7, HL7, HW7, HB7⟩ := hrel
       by_cases hn3 : n < 3
       ·have hni : (n : Int) < 3 := by omega
        have HWT := Lib.hid (rfWaits (n : Int) wr (by omega) (by omega))
        rw [moW_wt n hn3] at HWT
        have hE := text_eqb (moW n) b
        obtain ⟨T2, hT2⟩ : ∃ T, T = textB (moW n) := ⟨_, rfl⟩
        rw [← hT2] at hE HWT
        clear hT2
        by_cases hbm : b = moW n
        ·rw [decide_eq_true hbm.symm] at hE
         have HD := Lib.hid (show dK b (n + 1) = n from if_pos hbm)
         clear hbm
         go_wp2_with fail
         refine HWT.out.mono ?_
         rintro e w5 ⟨rfl, hb5⟩
         have hl5 := HI7.out.below hb5 HI7.out.lt
         have g4 := hl5.free 4
         have i4 := (hl5.cell 4).trans (show _ = some (Value.int .i64 ((dK b n : Nat) : Int)) from rfl)
         have blt := hl5.lt
         have HI8 : Hid (Lies (w5.setCell ⟨gi, 4, none⟩ (.int .i64 (n : Int))) gi 28 (inC { x with d := ((dK b (n + 1) : Nat) : Int) })) := by rw [HD.out]; exact hl5.put 4 _
         have HL8 : Hid (Lies (w5.setCell ⟨gi, 4, none⟩ (.int .i64 (n : Int))) N0 28 inZ) := (HL7.out.below hb5 HL7.out.lt).far (p := ⟨gi, 4, none⟩) (fun e => hgn e.symm) _
         have HW8 : Hid (WdAt (w5.setCell ⟨gi, 4, none⟩ (.int .i64 (n : Int))) b2 o2 (w0 :: rs)) := (HW7.out.later hb5).kept (Kept.put w5 gi 4 _) (fun (e : b2 = gi) => hbg e)
         have HB8 : Hid (Below w.heap.size w (w5.setCell ⟨gi, 4, none⟩ (.int .i64 (n : Int)))) := (HB7.out.trans (hb5.mono HB7.out.size)).setCell (p := ⟨gi, 4, none⟩) hgw _
         clear hl5 hb5 HI7 HL7 HW7 HB7 HWT HD
         go_wp2
         go_roundw
         case rel => exact ⟨n + 1, by omega, by go_num, HI8, HL8, HW8, HB8⟩
         case measure => simp [intOf]; omega
        ·rw [decide_eq_false (fun e => hbm e.symm)] at hE
         have HD := Lib.hid (show dK b (n + 1) = dK b n from if_neg hbm)
         clear hbm
         go_wp2_with fail
         refine HWT.out.mono ?_
         rintro e w5 ⟨rfl, hb5⟩
         have HI8 : Hid (Lies w5 gi 28 (inC { x with d := ((dK b (n + 1) : Nat) : Int) })) := by rw [HD.out]; exact HI7.out.below hb5 HI7.out.lt
         have HL8 := Lib.hid (HL7.out.below hb5 HL7.out.lt)
         have HW8 := Lib.hid (HW7.out.later hb5)
         have HB8 := Lib.hid (HB7.out.trans (hb5.mono HB7.out.size))
         clear hb5 HI7 HL7 HW7 HB7 HWT HD
         go_wp2
         go_roundw
         case rel => exact ⟨n + 1, by omega, by go_num, HI8, HL8, HW8, HB8⟩
         case measure => simp [intOf]; omega
       ·obtain rfl : n = 3 := by omega
        have HI8 : Hid (Lies wr gi 28 (inC (rdD x 68 b))) := by rw [dK_end]; exact HI7.out
        clear HI7
        go_wp2
        go_roundw
        case rel => exact ⟨k + 1, rdD x 68 b, by omega, by go_num, HRN, HK6, HI8, HL7, HW7, HB7⟩
        case measure => simp [intOf]; omega
     ·have HVA := Lib.hid (rfValue10 b wr (by omega))
      obtain ⟨V, hV⟩ : ∃ V : Int, V = ((rnE b : Nat) : Int) := ⟨_, rfl⟩
      rw [← hV] at HVA
      have HI6 : Hid (Lies (wr.setCell ⟨gi, 5, none⟩ (.int .u64 V)) gi 28 (inC (rdD x 75 b))) := by show Lies _ _ _ _; rw [hV]; exact HI5.out.put 5 _
      have HL6 : Hid (Lies (wr.setCell ⟨gi, 5, none⟩ (.int .u64 V)) N0 28 inZ) := HL5.out.far (p := ⟨gi, 5, none⟩) (fun e => hgn e.symm) _
      have HW6 : Hid (WdAt (wr.setCell ⟨gi, 5, none⟩ (.int .u64 V)) b2 o2 (w0 :: rs)) := HW5.out.kept (Kept.put wr gi 5 _) (fun (e : b2 = gi) => hbg e)
      have HB6 : Hid (Below w.heap.size w (wr.setCell ⟨gi, 5, none⟩ (.int .u64 V))) := HB5.out.setCell (p := ⟨gi, 5, none⟩) hgw _
      have HK6 := Lib.hid (rdD_ok (o := 75) (b := b) HIK.out)
      clear hV HW5 HB5 HL5 HIK
      have blt := HI5.out.lt
      have g0 := HI5.out.free 0
      have g1 := HI5.out.free 1
      have g2 := HI5.out.free 2
      have g3 := HI5.out.free 3
      have g4 := HI5.out.free 4
      have g5 := HI5.out.free 5
      have i0 := (HI5.out.cell 0).trans (show _ = some (Value.int .i64 x.op) from rfl)
      have i1 := (HI5.out.cell 1).trans (show _ = some (Value.int .i64 x.a) from rfl)
      have i2 := (HI5.out.cell 2).trans (show _ = some (Value.int .i64 x.b) from rfl)
      have i3 := (HI5.out.cell 3).trans (show _ = some (Value.int .i64 x.c) from rfl)
      have i4 := (HI5.out.cell 4).trans (show _ = some (Value.int .i64 x.d) from rfl)
      have i5 := (HI5.out.cell 5).trans (show _ = some (Value.int .u64 (x.k : Int)) from rfl)
      go_wp2_with fail
      refine HVA.out.mono ?_
      rintro e w9 ⟨rfl, rfl⟩
      clear HVA HI5 sb
      go_wp2
      go_roundw
      case rel => exact ⟨k + 1, rdD x 75 b, by omega, by go_num, HRN, HK6, HI6, HL6, HW6, HB6⟩
      case measure => simp [intOf]; omega
    ·obtain rfl : k = O.size := by omega
     have hx : x = R := by
      have h8 := HRK.out
      rw [HHL.out, List.drop_length] at h8
      rw [← h8]
      cases rs.drop L.length <;> rfl
     subst hx
     have HRG := Lib.hid (rfRight x wr.drew HIK.out)
     have HLN := Lib.hid (rfLine10 x)
     go_upto_region 33 with (fail)
     refine wp_region_held_drew (S := fun y => Lies y gi 28 (inC x)) (by kernel_rfl) HI5.out.drew (fun hHeld => ?_)
     have HL9 := Lib.hid HL5.out.drew
     have HB5 : Hid (Below w.heap.size w wr.drew) := below_drewN HB5.out 1
     clear HI5 HL5 HW5 HRK HIK
     generalize wr.drew = w5 at *
     try simp only [Act.put, List.setIfInBounds_toArray, List.set_cons_zero, List.set_cons_succ]
     refine wpAnyH_take (i := 0) (v := (.agg (inC x))) rfl (by kernel_rfl) (by kernel_rfl) (by kernel_rfl) (fun _ _ _ h => h) (Or.inl ⟨by rfl, fun w h => by (simp only [List.getElem_toArray, List.getElem_cons_succ, List.getElem_cons_zero]; have h0 := h.cell 0; have h1 := h.cell 1; have h2 := h.cell 2; have h3 := h.cell 3; have h4 := h.cell 4; have h5 := h.cell 5; have h6 := h.lt; simp at h0 h1 h2 h3 h4 h5; clear h; go_simp)⟩) (by assumption) ?_
     simp only [Act.put, List.getElem_toArray, List.getElem_cons_succ, List.getElem_cons_zero, List.setIfInBounds_toArray, List.set_cons_zero, List.set_cons_succ]
     refine wpAnyH_take (i := 1) (v := (.agg (inC x))) rfl (by kernel_rfl) (by kernel_rfl) (by kernel_rfl) (fun _ _ _ h => h) (Or.inl ⟨by rfl, fun w h => by (simp only [List.getElem_toArray, List.getElem_cons_succ, List.getElem_cons_zero]; have h0 := h.cell 0; have h1 := h.cell 1; have h2 := h.cell 2; have h3 := h.cell 3; have h4 := h.cell 4; have h5 := h.cell 5; have h6 := h.lt; simp at h0 h1 h2 h3 h4 h5; clear h; go_simp)⟩) (by assumption) ?_
     simp only [Act.put, List.getElem_toArray, List.getElem_cons_succ, List.getElem_cons_zero, List.setIfInBounds_toArray, List.set_cons_zero, List.set_cons_succ]
     refine wpAnyH_ready (rs := [2]) (by kernel_rfl) (by simp) ?_
     refine AllReadyH.cons rfl (fun K hK => ?_) AllReadyH.nil
     rw [if_pos (by rfl)]
     go_wp2_with fail
     refine HRG.out.mono ?_
     rintro e w6 ⟨rfl, hb6⟩
     dsimp only
     refine hK.out _ _ (hHeld.below hb6 hHeld.lt) (fun hHeld1 => ?_)
     clear hK K hHeld HRG
     have HL := Lib.hid (HL9.out.below hb6 HL9.out.lt)
     have HB9 := Lib.hid (HB5.out.trans (hb6.mono HB5.out.size))
     clear hb6 HL9 HB5
     have hHeld := hHeld1
     clear hHeld1
     try simp only [Act.put, List.setIfInBounds_toArray, List.set_cons_zero, List.set_cons_succ]
     cases hrb : rightB x
     ·have HNO : Hid (rfiB bs op (w0 :: rs) = false) := by show _ = _; rw [HBY.out, hrb]; rfl
      clear hrb
      refine wpAnyH_take (i := 3) (v := (.bool false)) rfl (by kernel_rfl) (by kernel_rfl) (by kernel_rfl) (fun _ _ _ h => h) (Or.inl ⟨by rfl, fun w h => by (simp only [List.getElem_toArray, List.getElem_cons_succ, List.getElem_cons_zero]; clear h; go_simp)⟩) (by assumption) ?_
      simp only [Act.put, List.getElem_toArray, List.getElem_cons_succ, List.getElem_cons_zero, List.setIfInBounds_toArray, List.set_cons_zero, List.set_cons_succ]
      refine wpAnyH_take (i := 4) (v := undef) rfl (by kernel_rfl) (by kernel_rfl) (by kernel_rfl) (fun _ _ _ h => h) (Or.inr ⟨by rfl, rfl⟩) (by assumption) ?_
      simp only [Act.put, List.getElem_toArray, List.getElem_cons_succ, List.getElem_cons_zero, List.setIfInBounds_toArray, List.set_cons_zero, List.set_cons_succ]
      refine wpAnyH_take (i := 5) (v := undef) rfl (by kernel_rfl) (by kernel_rfl) (by kernel_rfl) (fun _ _ _ h => h) (Or.inr ⟨by rfl, rfl⟩) (by assumption) ?_
      simp only [Act.put, List.getElem_toArray, List.getElem_cons_succ, List.getElem_cons_zero, List.setIfInBounds_toArray, List.set_cons_zero, List.set_cons_succ]
      refine wpAnyH_take (i := 6) (v := undef) rfl (by kernel_rfl) (by kernel_rfl) (by kernel_rfl) (fun _ _ _ h => h) (Or.inr ⟨by rfl, rfl⟩) (by assumption) ?_
      simp only [Act.put, List.getElem_toArray, List.getElem_cons_succ, List.getElem_cons_zero, List.setIfInBounds_toArray, List.set_cons_zero, List.set_cons_succ]
      refine wpAnyH_take (i := 7) (v := undef) rfl (by kernel_rfl) (by kernel_rfl) (by kernel_rfl) (fun _ _ _ h => h) (Or.inr ⟨by rfl, rfl⟩) (by assumption) ?_
      simp only [Act.put, List.getElem_toArray, List.getElem_cons_succ, List.getElem_cons_zero, List.setIfInBounds_toArray, List.set_cons_zero, List.set_cons_succ]
      refine wpAnyH_take (i := 8) (v := (.bool false)) rfl (by kernel_rfl) (by kernel_rfl) (by kernel_rfl) (fun _ _ _ h => h) (Or.inl ⟨by rfl, fun w h => by (simp only [List.getElem_toArray, List.getElem_cons_succ, List.getElem_cons_zero]; clear h; go_simp)⟩) (by assumption) ?_
      simp only [Act.put, List.getElem_toArray, List.getElem_cons_succ, List.getElem_cons_zero, List.setIfInBounds_toArray, List.set_cons_zero, List.set_cons_succ]
      have lt := HL.out.lt
      have f0 := HL.out.free 0
      have f1 := HL.out.free 1
      have f2 := HL.out.free 2
      have f3 := HL.out.free 3
      have f4 := HL.out.free 4
      have f5 := HL.out.free 5
      have c0 := (HL.out.cell 0).trans (show _ = some (Value.int .i64 0) from rfl)
      have c1 := (HL.out.cell 1).trans (show _ = some (Value.int .i64 0) from rfl)
      have c2 := (HL.out.cell 2).trans (show _ = some (Value.int .i64 0) from rfl)
      have c3 := (HL.out.cell 3).trans (show _ = some (Value.int .i64 0) from rfl)
      have c4 := (HL.out.cell 4).trans (show _ = some (Value.int .i64 0) from rfl)
      have c5 := (HL.out.cell 5).trans (show _ = some (Value.int .u64 0) from rfl)
      refine wpAnyH_ready (rs := [9]) (by kernel_rfl) (by simp) ?_
      refine AllReadyH.cons rfl (fun K hK => ?_) AllReadyH.nil
      rw [if_pos (by rfl)]
      go_wp2_with fail
      refine hK.out _ _ (hHeld.kept (st6_kept w6 N0 _ _ _ _ _ _) (fun (e : gi = N0) => hgn e)) (fun hHeld2 => ?_)
      clear hK K hHeld
      try simp only [Act.put, List.setIfInBounds_toArray, List.set_cons_zero, List.set_cons_succ]
      refine wpAnyH_take (i := 10) (v := (.bool false)) rfl (by kernel_rfl) (by kernel_rfl) (by kernel_rfl) (fun _ _ _ h => h) (Or.inl ⟨by rfl, fun w h => by (simp only [List.getElem_toArray, List.getElem_cons_succ, List.getElem_cons_zero]; clear h; go_simp)⟩) (by assumption) ?_
      simp only [Act.put, List.getElem_toArray, List.getElem_cons_succ, List.getElem_cons_zero, List.setIfInBounds_toArray, List.set_cons_zero, List.set_cons_succ]
      refine wpAnyH_done (by kernel_rfl) ?_ _
      go_wp2_with fail
      have HBZ := Lib.hid (HB9.out.trans ((st6_kept w6 N0 (.int .i64 x.op) (.int .i64 x.a) (.int .i64 x.b) (.int .i64 x.c) (.int .i64 x.d) (.int .u64 (x.k : Int))).below HB9.out.size (fun j hj (e : j = N0) => by have := HN0.out; omega)))
      have HRZ := Lib.hid (st6_lies (a0 := (.int .i64 x.op)) (a1 := (.int .i64 x.a)) (a2 := (.int .i64 x.b)) (a3 := (.int .i64 x.c)) (a4 := (.int .i64 x.d)) (a5 := (.int .u64 (x.k : Int))) HL.out)
      have q0 := (HRZ.out.cell 0).trans (show _ = some ((.int .i64 x.op)) from rfl)
      have q1 := (HRZ.out.cell 1).trans (show _ = some ((.int .i64 x.a)) from rfl)
      have q2 := (HRZ.out.cell 2).trans (show _ = some ((.int .i64 x.b)) from rfl)
      have q3 := (HRZ.out.cell 3).trans (show _ = some ((.int .i64 x.c)) from rfl)
      have q4 := (HRZ.out.cell 4).trans (show _ = some ((.int .i64 x.d)) from rfl)
      have q5 := (HRZ.out.cell 5).trans (show _ = some ((.int .u64 (x.k : Int))) from rfl)
      refine bodyPost_ret (v := .tuple #[.agg (inC x), (.bool false)]) (by simp [results, Tryz.results39, go_sem, q0, q1, q2, q3, q4, q5]) rfl ?_
      exact ⟨x, by rw [HNO.out], fun h => HX.out.symm, HBZ.out⟩
     ·have HLN2 := Lib.hid (HLN.out w6 hrb)
      obtain ⟨E, hE⟩ : ∃ E, E = ((textB (lnI x)).toList == (textB bs).toList) := ⟨_, rfl⟩
      have HNO : Hid (rfiB bs op (w0 :: rs) = E) := by show _ = _; rw [HBY.out, hrb, hE, text_eqb]; rfl
      obtain ⟨T2, hT2⟩ : ∃ T, T = textB (lnI x) := ⟨_, rfl⟩
      rw [← hT2] at hE HLN2
      obtain ⟨T0, hT0⟩ : ∃ T, T = textB bs := ⟨_, rfl⟩
      rw [← hT0] at hE ⊢
      replace hE := hE.symm
      clear hrb hT0 hT2 HLN
      refine wpAnyH_take (i := 3) (v := (.bool true)) rfl (by kernel_rfl) (by kernel_rfl) (by kernel_rfl) (fun _ _ _ h => h) (Or.inl ⟨by rfl, fun w h => by (simp only [List.getElem_toArray, List.getElem_cons_succ, List.getElem_cons_zero]; clear h; go_simp)⟩) (by assumption) ?_
      simp only [Act.put, List.getElem_toArray, List.getElem_cons_succ, List.getElem_cons_zero, List.setIfInBounds_toArray, List.set_cons_zero, List.set_cons_succ]
      refine wpAnyH_take (i := 4) (v := (.agg (inC x))) rfl (by kernel_rfl) (by kernel_rfl) (by kernel_rfl) (fun _ _ _ h => h) (Or.inl ⟨by rfl, fun w h => by (simp only [List.getElem_toArray, List.getElem_cons_succ, List.getElem_cons_zero]; have h0 := h.cell 0; have h1 := h.cell 1; have h2 := h.cell 2; have h3 := h.cell 3; have h4 := h.cell 4; have h5 := h.cell 5; have h6 := h.lt; simp at h0 h1 h2 h3 h4 h5; clear h; go_simp)⟩) (by assumption) ?_
      simp only [Act.put, List.getElem_toArray, List.getElem_cons_succ, List.getElem_cons_zero, List.setIfInBounds_toArray, List.set_cons_zero, List.set_cons_succ]
      refine wpAnyH_take (i := 6) (v := (.string T0)) rfl (by kernel_rfl) (by kernel_rfl) (by kernel_rfl) (fun _ _ _ h => h) (Or.inl ⟨by rfl, fun w h => by (simp only [List.getElem_toArray, List.getElem_cons_succ, List.getElem_cons_zero]; clear h; go_simp)⟩) (by assumption) ?_
      simp only [Act.put, List.getElem_toArray, List.getElem_cons_succ, List.getElem_cons_zero, List.setIfInBounds_toArray, List.set_cons_zero, List.set_cons_succ]
      refine wpAnyH_ready (rs := [5]) (by kernel_rfl) (by simp) ?_
      refine AllReadyH.cons rfl (fun K hK => ?_) AllReadyH.nil
      rw [if_pos (by rfl)]
      go_wp2_with fail
      refine HLN2.out.mono ?_
      rintro e w7 ⟨rfl, hb7⟩
      dsimp only
      refine hK.out _ _ (hHeld.below hb7 hHeld.lt) (fun hHeld1 => ?_)
      clear hK K hHeld HLN2
      replace HL := Lib.hid (HL.out.below hb7 HL.out.lt)
      replace HB9 := Lib.hid (HB9.out.trans (hb7.mono HB9.out.size))
      clear hb7
      have hHeld := hHeld1
      clear hHeld1
      try simp only [Act.put, List.setIfInBounds_toArray, List.set_cons_zero, List.set_cons_succ]
      refine wpAnyH_take (i := 7) (v := (.bool E)) rfl (by kernel_rfl) (by kernel_rfl) (by kernel_rfl) (fun _ _ _ h => h) (Or.inl ⟨by rfl, fun w h => by (simp only [List.getElem_toArray, List.getElem_cons_succ, List.getElem_cons_zero]; clear h; go_simp)⟩) (by assumption) ?_
      simp only [Act.put, List.getElem_toArray, List.getElem_cons_succ, List.getElem_cons_zero, List.setIfInBounds_toArray, List.set_cons_zero, List.set_cons_succ]
      refine wpAnyH_take (i := 8) (v := (.bool E)) rfl (by kernel_rfl) (by kernel_rfl) (by kernel_rfl) (fun _ _ _ h => h) (Or.inl ⟨by rfl, fun w h => by (simp only [List.getElem_toArray, List.getElem_cons_succ, List.getElem_cons_zero]; clear h; go_simp)⟩) (by assumption) ?_
      simp only [Act.put, List.getElem_toArray, List.getElem_cons_succ, List.getElem_cons_zero, List.setIfInBounds_toArray, List.set_cons_zero, List.set_cons_succ]
      have lt := HL.out.lt
      have f0 := HL.out.free 0
      have f1 := HL.out.free 1
      have f2 := HL.out.free 2
      have f3 := HL.out.free 3
      have f4 := HL.out.free 4
      have f5 := HL.out.free 5
      have c0 := (HL.out.cell 0).trans (show _ = some (Value.int .i64 0) from rfl)
      have c1 := (HL.out.cell 1).trans (show _ = some (Value.int .i64 0) from rfl)
      have c2 := (HL.out.cell 2).trans (show _ = some (Value.int .i64 0) from rfl)
      have c3 := (HL.out.cell 3).trans (show _ = some (Value.int .i64 0) from rfl)
      have c4 := (HL.out.cell 4).trans (show _ = some (Value.int .i64 0) from rfl)
      have c5 := (HL.out.cell 5).trans (show _ = some (Value.int .u64 0) from rfl)
      refine wpAnyH_ready (rs := [9]) (by kernel_rfl) (by simp) ?_
      refine AllReadyH.cons rfl (fun K hK => ?_) AllReadyH.nil
      rw [if_pos (by rfl)]
      go_wp2_with fail
      refine hK.out _ _ (hHeld.kept (st6_kept w7 N0 _ _ _ _ _ _) (fun (e : gi = N0) => hgn e)) (fun hHeld2 => ?_)
      clear hK K hHeld
      try simp only [Act.put, List.setIfInBounds_toArray, List.set_cons_zero, List.set_cons_succ]
      refine wpAnyH_take (i := 10) (v := (.bool E)) rfl (by kernel_rfl) (by kernel_rfl) (by kernel_rfl) (fun _ _ _ h => h) (Or.inl ⟨by rfl, fun w h => by (simp only [List.getElem_toArray, List.getElem_cons_succ, List.getElem_cons_zero]; clear h; go_simp)⟩) (by assumption) ?_
      simp only [Act.put, List.getElem_toArray, List.getElem_cons_succ, List.getElem_cons_zero, List.setIfInBounds_toArray, List.set_cons_zero, List.set_cons_succ]
      refine wpAnyH_done (by kernel_rfl) ?_ _
      go_wp2_with fail
      have HBZ := Lib.hid (HB9.out.trans ((st6_kept w7 N0 (.int .i64 x.op) (.int .i64 x.a) (.int .i64 x.b) (.int .i64 x.c) (.int .i64 x.d) (.int .u64 (x.k : Int))).below HB9.out.size (fun j hj (e : j = N0) => by have := HN0.out; omega)))
      have HRZ := Lib.hid (st6_lies (a0 := (.int .i64 x.op)) (a1 := (.int .i64 x.a)) (a2 := (.int .i64 x.b)) (a3 := (.int .i64 x.c)) (a4 := (.int .i64 x.d)) (a5 := (.int .u64 (x.k : Int))) HL.out)
      have q0 := (HRZ.out.cell 0).trans (show _ = some ((.int .i64 x.op)) from rfl)
      have q1 := (HRZ.out.cell 1).trans (show _ = some ((.int .i64 x.a)) from rfl)
      have q2 := (HRZ.out.cell 2).trans (show _ = some ((.int .i64 x.b)) from rfl)
      have q3 := (HRZ.out.cell 3).trans (show _ = some ((.int .i64 x.c)) from rfl)
      have q4 := (HRZ.out.cell 4).trans (show _ = some ((.int .i64 x.d)) from rfl)
      have q5 := (HRZ.out.cell 5).trans (show _ = some ((.int .u64 (x.k : Int))) from rfl)
      refine bodyPost_ret (v := .tuple #[.agg (inC x), (.bool E)]) (by simp [results, Tryz.results39, go_sem, q0, q1, q2, q3, q4, q5]) rfl ?_
      exact ⟨x, by rw [HNO.out], fun h => HX.out.symm, HBZ.out⟩
def pcL (rest : List (List UInt8)) (t : List UInt8) : List UInt8 := match rest with | [] => t | b :: _ => b
theorem rx_step {BS D t : List UInt8} {rest : List (List UInt8)} {j : Nat} {c : UInt8} (hb : BS = D ++ (lnsT rest ++ t)) (hl : ∀ b ∈ rest, (10 : UInt8) ∉ b) (ht : (10 : UInt8) ∉ t) (hj : j ≤ (pcL rest t).length) (hc : BS[D.length + j]? = some c) :
  (c ≠ 10 ∧ j + 1 ≤ (pcL rest t).length) ∨ (c = 10 ∧ ∃ b r, rest = b :: r ∧ j = b.length) := by
 subst hb
 rw [List.getElem?_append_right (by omega), show D.length + j - D.length = j by omega] at hc
 cases rest with
 | nil =>
  have hc' : t[j]? = some c := hc
  have hlt := (List.getElem?_eq_some_iff.1 hc').1
  exact .inl ⟨fun e => ht (e ▸ List.mem_of_getElem? hc'), hlt⟩
 | cons b r =>
  rw [lnsT_cons, List.append_assoc, List.cons_append] at hc
  by_cases h : j < b.length
  ·rw [List.getElem?_append_left h] at hc
   exact .inl ⟨fun e => hl b List.mem_cons_self (e ▸ List.mem_of_getElem? hc), h⟩
  ·have hjb : j = b.length := by have : j ≤ b.length := hj; omega
   rw [List.getElem?_append_right (by omega), show j - b.length = 0 by omega] at hc
   exact .inr ⟨(Option.some.inj hc).symm, b, r, rfl, hjb⟩
theorem rx_full {BS D t : List UInt8} {rest : List (List UInt8)} {j : Nat} (hb : BS = D ++ (lnsT rest ++ t)) (hj : j ≤ (pcL rest t).length) : D.length + j ≤ BS.length ∧ (BS.length ≤ D.length + j → rest = [] ∧ BS.length = D.length + t.length) := by
 subst hb
 cases rest with
 | nil =>
  have hj' : j ≤ t.length := hj
  have e : (D ++ (lnsT [] ++ t)).length = D.length + t.length := by rw [List.length_append]; rfl
  rw [e]
  exact ⟨by omega, fun _ => ⟨rfl, rfl⟩⟩
 | cons b r =>
  have hj' : j ≤ b.length := hj
  have e : (D ++ (lnsT (b :: r) ++ t)).length = D.length + (b.length + ((lnsT r ++ t).length + 1)) := by
   rw [lnsT_cons, List.append_assoc, List.cons_append, List.length_append, List.length_append, List.length_cons]
  rw [e]
  exact ⟨by omega, fun h => by omega⟩
theorem rx_cut {BS D t b : List UInt8} {r : List (List UInt8)} (hb : BS = D ++ (lnsT (b :: r) ++ t)) : (textB BS).extract D.length (D.length + b.length) = textB b := by
 rw [cut_mid, hb, List.drop_left, show D.length + b.length - D.length = b.length by omega, lnsT_cons, List.append_assoc, List.cons_append, List.take_left]
theorem rx_nextD {BS D t b : List UInt8} {r : List (List UInt8)} (hb : BS = D ++ (lnsT (b :: r) ++ t)) : BS = (D ++ (b ++ [10])) ++ (lnsT r ++ t) := by
 rw [hb, lnsT_cons]; simp
theorem dc_ring {p : Pg} {b w0 : List UInt8} {rs : List (List UInt8)} (hw : WordsOf 32 b (w0 :: rs)) (h1 : rfrB b (w0 :: rs) = true) (h2 : p.ts.length = 0) (h3 : p.rs.length < 8) : (adL p b).2 = true ∧ (⟨p.rs ++ [rfrX (w0 :: rs)], p.ts⟩ : Pg) = (adL p b).1 := by
 rw [adL_eq hw]
 obtain ⟨s1, s2⟩ := steps_agree p hw
 have hd : dcS p b w0 rs = (⟨p.rs ++ [rfrX (w0 :: rs)], p.ts⟩, true) := if_pos ⟨h1, h2, h3⟩
 rw [hd] at s1 s2
 exact ⟨s1.symm, s2 s1.symm⟩
theorem dc_thread {p : Pg} {b w0 : List UInt8} {rs : List (List UInt8)} (hw : WordsOf 32 b (w0 :: rs)) (h1 : ¬ (rfrB b (w0 :: rs) = true ∧ p.ts.length = 0 ∧ p.rs.length < 8)) (h2 : b = thW ∧ p.ts.length < 8) : (adL p b).2 = true ∧ (⟨p.rs, p.ts ++ [[]]⟩ : Pg) = (adL p b).1 := by
 rw [adL_eq hw]
 obtain ⟨s1, s2⟩ := steps_agree p hw
 have hd : dcS p b w0 rs = (⟨p.rs, p.ts ++ [[]]⟩, true) := (if_neg h1).trans (if_pos h2)
 rw [hd] at s1 s2
 exact ⟨s1.symm, s2 s1.symm⟩
theorem dc_instr {p : Pg} {b w0 : List UInt8} {rs : List (List UInt8)} {T : List (List In)} {l : List In} (hw : WordsOf 32 b (w0 :: rs)) (h1 : ¬ (rfrB b (w0 :: rs) = true ∧ p.ts.length = 0 ∧ p.rs.length < 8)) (h2 : ¬ (b = thW ∧ p.ts.length < 8)) (hp : p.ts = T ++ [l])
  (h3 : rfiB b (fdN (textB w0)) (w0 :: rs) = true) (h4 : l.length < 256) : (adL p b).2 = true ∧ (⟨p.rs, T ++ [l ++ [rfiX (fdN (textB w0)) (w0 :: rs)]]⟩ : Pg) = (adL p b).1 := by
 rw [adL_eq hw]
 obtain ⟨s1, s2⟩ := steps_agree p hw
 have hd : dcS p b w0 rs = (⟨p.rs, T ++ [l ++ [rfiX (fdN (textB w0)) (w0 :: rs)]]⟩, true) := by
  refine (if_neg h1).trans ((if_neg h2).trans ((if_pos ⟨h3, by rw [hp]; simp, by rw [hp]; simpa using h4⟩).trans ?_))
  rw [hp, putI_snoc]
 rw [hd] at s1 s2
 exact ⟨s1.symm, s2 s1.symm⟩
theorem dc_no {p : Pg} {b w0 : List UInt8} {rs : List (List UInt8)} (hw : WordsOf 32 b (w0 :: rs)) (h1 : ¬ (rfrB b (w0 :: rs) = true ∧ p.ts.length = 0 ∧ p.rs.length < 8)) (h2 : ¬ (b = thW ∧ p.ts.length < 8))
  (h3 : ¬ (rfiB b (fdN (textB w0)) (w0 :: rs) = true ∧ 0 < p.ts.length ∧ (p.ts.getLast?.getD []).length < 256)) : (adL p b).2 = false := by
 rw [adL_eq hw]
 obtain ⟨s1, _⟩ := steps_agree p hw
 have hd : dcS p b w0 rs = (p, false) := (if_neg h1).trans ((if_neg h2).trans (if_neg h3))
 rw [hd] at s1
 exact s1.symm
set_option maxHeartbeats 16000000 in
set_option maxRecDepth 100000 in
theorem rfRead10 (l0 : List (List UInt8)) (t : List UInt8) (w : World) (hl : ∀ b ∈ l0, (10 : UInt8) ∉ b) (ht : (10 : UInt8) ∉ t) (hlen : (lnsT l0 ++ t).length ≤ 9000000) :
  Calls Tryz.prog 19 #[.string (textB (lnsT l0 ++ t))] w (RfPost (rdZ ⟨[], []⟩ l0 t 1) w) := by
 have hb0 : Below w.heap.size w ((w.alloc (.cells pgZ 25)).alloc (.cells pgZ 25)) := ((Below.refl _ _).alloc (Nat.le_refl _) _).alloc (by simp) _
 have l1 := Lies.made (w.alloc (.cells pgZ 25)) 25 pgZ
 rw [World.size_alloc] at l1
 have HL1 := Lib.hid ((Lies.made w 25 pgZ).alloc (.cells pgZ 25))
 have HD1 := Lib.hid (BdAt.empty (B := w.heap.size + 1) l1 (Nat.le_refl _) (by simp))
 have HB1 := Lib.hid hb0
 have HT := Lib.hid ht
 have HLL := Lib.hid hl
 have hll := lnsT_ge l0
 obtain ⟨R, hR⟩ : ∃ R, R = rdZ ⟨[], []⟩ l0 t 1 := ⟨_, rfl⟩
 have HR0 := Lib.hid hR.symm
 rw [← hR]
 obtain ⟨BS, hBS⟩ : ∃ BS, BS = lnsT l0 ++ t := ⟨_, rfl⟩
 have hbl := congrArg List.length hBS
 rw [List.length_append] at hbl
 rw [← hBS] at hlen ⊢
 have HBS := Lib.hid hBS
 have HSZ : Hid ((textB BS).size = BS.length) := textB_size BS
 have hl0 : l0.length ≤ 9000000 := by omega
 clear hb0 l1 ht hl hR hBS hll hbl
 go_enter Tryz.func19, Tryz.ntmps19
 go_upto_region 2 with (fail)
 generalize (w.alloc (.cells pgZ 25)).alloc (.cells pgZ 25) = w1 at *
 go_wp2_with fail
 go_loopw [5, 6, 7] (fun sa sn si wr => ∃ (D : List UInt8) (rest : List (List UInt8)) (a j n : Nat) (p : Pg) (vr vt : Value) (vs : List Value) (BL : Nat), sa = .int .i64 a ∧ sn = .int .i64 n ∧ si = .int .i64 (((a + j : Nat)) : Int) ∧ Hid (∀ b ∈ rest, (10 : UInt8) ∉ b) ∧ Hid (BS = D ++ (lnsT rest ++ t)) ∧ Hid (D.length = a) ∧ j ≤ (pcL rest t).length ∧ n + rest.length ≤ 9000002 ∧ 0 < n ∧ Hid (rdZ p rest t n = R) ∧ Hid (lsB p = true) ∧ Hid (BdAt (w.heap.size + 1) wr (w.heap.size + 1) vr vt vs BL p) ∧ Hid (Lies wr w.heap.size 25 pgZ) ∧ Hid (Below w.heap.size w wr)) (fun _ _ si _ => 9000002 - (intOf si).toNat)
 case atStart => exact ⟨[], l0, 0, 0, 1, ⟨[], []⟩, .slice none 0 0, .slice none 0 0, [], _, rfl, rfl, rfl, HLL, HBS, rfl, Nat.zero_le _, by omega, by omega, HR0, rfl, HD1, HL1, HB1⟩
 case round =>
  clear HD1 HL1 HB1 HLL HR0 HBS
  obtain ⟨D, rest, a, j, n, p, vr, vt, vs, BL, rfl, rfl, rfl, HLL, HD, HA, hj, hn, hn0, HR, HLS, HH, HL, HB⟩ := hrel
  have hful := rx_full HD.out hj
  rw [HA.out] at hful
  obtain ⟨hle, hful⟩ := hful
  have HFU := Lib.hid hful
  clear hful
  by_cases hi : a + j < BS.length
  case neg =>
   obtain ⟨hr, hbt⟩ := HFU.out (by omega)
   subst hr
   have e0 : ¬ ((a + j : Nat) : Int) < ((textB BS).size : Int) := by rw [HSZ.out]; omega
   by_cases ht0 : t = []
   ·subst ht0
    have e1 : ¬ (a : Int) < ((textB BS).size : Int) := by rw [HSZ.out, hbt]; simp
    have HRR : Hid (R = (p, 0)) := HR.out.symm.trans rdZ_end
    obtain ⟨A, c, Q, d, rfl, rfl, hpg⟩ := HH.out.pg
    have c0 := (HH.out.box.cell 0).trans (show _ = some (Value.slice A p.rs.length c) from rfl)
    have c1 := (HH.out.box.cell 1).trans (show _ = some (Value.slice Q p.ts.length d) from rfl)
    have c2 := HH.out.box.lt
    clear hpg HR
    have zlt := HL.out.lt
    have zf0 := HL.out.free 0
    have zf1 := HL.out.free 1
    have zc0 := (HL.out.cell 0).trans (show _ = some (Value.slice none 0 0) from rfl)
    have zc1 := (HL.out.cell 1).trans (show _ = some (Value.slice none 0 0) from rfl)
    go_wp2_with fail
    have HBZ := Lib.hid (HB.out.trans ((st2_kept wr w.heap.size (.slice A p.rs.length c) (.slice Q p.ts.length d)).below HB.out.size (fun j hj (e : j = w.heap.size) => by omega)))
    have HRZ := Lib.hid (st2_lies (a0 := (.slice A p.rs.length c)) (a1 := (.slice Q p.ts.length d)) HL.out)
    have q0 := (HRZ.out.cell 0).trans (show _ = some ((.slice A p.rs.length c)) from rfl)
    have q1 := (HRZ.out.cell 1).trans (show _ = some ((.slice Q p.ts.length d)) from rfl)
    refine bodyPost_ret (v := .tuple #[.agg (pgC A c Q d p), (.int .i64 0)]) (by simp [results, Tryz.results19, go_sem, q0, q1]) rfl ?_
    rw [HRR.out]
    obtain ⟨A2, c2, Q2, d2, e1, e2, hpg⟩ := ((HH.out.put HL.out (by omega) 0 (.slice A p.rs.length c)).put (HL.out.put 0 (.slice A p.rs.length c)) (by omega) 1 (.slice Q p.ts.length d)).pg
    cases e1
    cases e2
    exact ⟨A, c, Q, d, rfl, hpg, HBZ.out⟩
   ·have e1 : (a : Int) < ((textB BS).size : Int) := by
     have : 0 < t.length := List.length_pos_iff.2 ht0
     rw [HSZ.out, hbt]; omega
    have HRR : Hid (R = (⟨[], []⟩, n)) := HR.out.symm.trans (rdZ_cut ht0)
    clear HR ht0
    have zlt := HL.out.lt
    have zf0 := HL.out.free 0
    have zf1 := HL.out.free 1
    have zc0 := (HL.out.cell 0).trans (show _ = some (Value.slice none 0 0) from rfl)
    have zc1 := (HL.out.cell 1).trans (show _ = some (Value.slice none 0 0) from rfl)
    go_wp2_with fail
    have HBZ := Lib.hid (HB.out.trans ((st2_kept wr w.heap.size (.slice none 0 0) (.slice none 0 0)).below HB.out.size (fun j hj (e : j = w.heap.size) => by omega)))
    have HRZ := Lib.hid (st2_lies (a0 := (.slice none 0 0)) (a1 := (.slice none 0 0)) HL.out)
    have q0 := (HRZ.out.cell 0).trans (show _ = some ((.slice none 0 0)) from rfl)
    have q1 := (HRZ.out.cell 1).trans (show _ = some ((.slice none 0 0)) from rfl)
    refine bodyPost_ret (v := .tuple #[.agg pgZ, (.int .i64 (n : Int))]) (by simp [results, Tryz.results19, go_sem, q0, q1]) rfl ?_
    rw [HRR.out]
    exact ⟨none, 0, none, 0, rfl, pg_nothing _, HBZ.out⟩
  obtain ⟨c, hc⟩ : ∃ c, BS[a + j]? = some c := ⟨_, List.getElem?_eq_getElem hi⟩
  have hst := rx_step HD.out HLL.out HT.out hj (by rw [HA.out]; exact hc)
  have hki : ((a + j : Nat) : Int) < ((textB BS).size : Int) := by rw [HSZ.out]; omega
  have hki2 : (a : Int) + (j : Int) < ((textB BS).size : Int) := by rw [HSZ.out]; omega
  have hx0 := text_get hc (by rw [HSZ.out]; exact hi)
  rcases hst with ⟨hc10, hj1⟩ | ⟨hc10, b, r, hr, hjb⟩
  ·obtain ⟨x, hx⟩ : ∃ x, c.toNat = x := ⟨_, rfl⟩
   have hxne : x ≠ 10 := fun e => hc10 (UInt8.toNat_inj.1 (by rw [hx, e]; rfl))
   rw [hx] at hx0
   have e2 : ((x : Int) == (10 : Int)) = false := by rw [beq_eq_false_iff_ne]; omega
   have e3 : ((x : Int) != (10 : Int)) = true := by simp [bne, e2]
   clear hc hc10 hx hxne e2
   go_wp2
   go_roundw
   case rel => exact ⟨D, rest, a, j + 1, n, p, vr, vt, vs, BL, rfl, rfl, by go_num, HLL, HD, HA, hj1, hn, hn0, HR, HLS, HH, HL, HB⟩
   case measure => simp [intOf]; omega
  subst hc10
  subst hr
  subst hjb
  replace hx0 : ((textB BS)[a + b.length]'(by rw [HSZ.out]; omega)).toNat = 10 := hx0
  have HCUT := Lib.hid (rx_cut HD.out)
  rw [HA.out] at HCUT
  have HD2 := Lib.hid (rx_nextD HD.out)
  have HA2 : Hid ((D ++ (b ++ [10])).length = a + b.length + 1) := by
   show _ = _
   rw [List.length_append, List.length_append, HA.out]; simp; omega
  have HLL2 : Hid (∀ b ∈ r, (10 : UInt8) ∉ b) := fun b hb => HLL.out b (List.mem_cons_of_mem _ hb)
  obtain ⟨rest, hrest⟩ : ∃ rest, rest = r := ⟨_, rfl⟩
  rw [← hrest] at HD HD2 HLL HLL2 HR HFU hj hn
  have hnr : n + 1 + rest.length ≤ 9000002 := by rw [List.length_cons] at hn; omega
  have HRS : Hid ((if (adL p b).2 = true then rdZ (adL p b).1 rest t (n + 1) else (⟨[], []⟩, n)) = R) := HR.out
  have hbb : b.length ≤ 9000000 := by omega
  obtain ⟨w0, rs, hw⟩ := wds_cons b
  have HSD := Lib.hid (adL_sound (b := b) HLS.out)
  have HRR := Lib.hid (rfReadRing10 b w0 rs hw wr hbb)
  have HRI := Lib.hid (fun q => rfReadInstr10 b w0 rs hw q hbb)
  have HTY := Lib.hid (@dc_thread p b w0 rs hw)
  have HRY := Lib.hid (@dc_ring p b w0 rs hw)
  have HIY := Lib.hid (fun T l => @dc_instr p b w0 rs T l hw)
  have HNN := Lib.hid (@dc_no p b w0 rs hw)
  obtain ⟨X, hX⟩ : ∃ X, X = rfrX (w0 :: rs) := ⟨_, rfl⟩
  obtain ⟨rb, hrb⟩ : ∃ b2, b2 = rfrB b (w0 :: rs) := ⟨_, rfl⟩
  obtain ⟨Y, hY⟩ : ∃ X, X = rfiX (fdN (textB w0)) (w0 :: rs) := ⟨_, rfl⟩
  obtain ⟨ib, hib⟩ : ∃ b2, b2 = rfiB b (fdN (textB w0)) (w0 :: rs) := ⟨_, rfl⟩
  rw [← hX, ← hrb] at HRR HRY
  rw [← hY, ← hib] at HRI HIY
  rw [← hrb] at HTY HIY HNN
  rw [← hib] at HNN
  obtain ⟨hls1, hls2, _, hls4⟩ := ls_iff.1 HLS.out
  have HL4 := Lib.hid (fun t ht => (hls4 t ht).1)
  clear hc hj hn hle HFU HLL HR hw hX hrb hY hib hls4 HD hrest
  go_wp2_with fail
  rw [HCUT.out]
  refine HRR.out.mono ?_
  rintro e w2 ⟨rfl, hb2⟩
  go_upto_region 9 with (fail)
  have hbx : Below w2.heap.size w2 (w2.alloc (.cells (riC X) 51)) := (Below.refl _ _).alloc (Nat.le_refl _) _
  have HX9 := Lib.hid (Lies.made w2 51 (riC X))
  have HN9 : Hid (¬ vr.ownBlock = some w2.heap.size) := fun e => by have := (own_range (HH.out.later hb2).rr e).2; omega
  have hb3 := then_ hb2 hbx
  have HH3 := Lib.hid (HH.out.later hb3)
  have HL3 := Lib.hid (HL.out.below hb3 HL.out.lt)
  have HB3 := Lib.hid (HB.out.trans (hb3.mono HB.out.size))
  obtain ⟨r9, hr9⟩ : ∃ k, k = w2.heap.size := ⟨_, rfl⟩
  rw [← hr9] at HX9 HN9
  simp only [← hr9]
  clear hbx hb2 hb3 HH HL HB HRR hr9
  generalize w2.alloc (.cells (riC X) 51) = w3 at *
  go_wp2_with fail
  refine (HRI.out w3).mono ?_
  rintro e w4 ⟨x, rfl, hxi, hb4⟩
  go_upto_region 10 with (fail)
  have hbx : Below w4.heap.size w4 (w4.alloc (.cells (inC x) 28)) := (Below.refl _ _).alloc (Nat.le_refl _) _
  have HX11 := Lib.hid (Lies.made w4 28 (inC x))
  have HN11 : Hid (∀ (T : List (List In)) (l : List In) (u : Value), p.ts = T ++ [l] → vs[T.length]? = some u → ¬ u.ownBlock = some w4.heap.size) := by
   intro T l u hp hu e
   obtain ⟨u2, rt, cap, h1, h2, _⟩ := (HH3.out.later hb4).last_ hp
   obtain rfl : u = u2 := Option.some.inj (hu.symm.trans h1)
   have := (own_range h2 e).2
   omega
  have hb5 := then_ hb4 hbx
  have HH5 := Lib.hid (HH3.out.later hb5)
  have HL5 := Lib.hid (HL3.out.below hb5 HL3.out.lt)
  have HB5 := Lib.hid (HB3.out.trans (hb5.mono HB3.out.size))
  have HY9 := Lib.hid (HX9.out.below hb5 HX9.out.lt)
  have HXI := Lib.hid hxi
  obtain ⟨r11, hr11⟩ : ∃ k, k = w4.heap.size := ⟨_, rfl⟩
  rw [← hr11] at HX11 HN11
  simp only [← hr11]
  clear hbx hb4 hb5 HH3 HL3 HB3 HX9 HRI hr11 hxi
  generalize w4.alloc (.cells (inC x) 28) = w5 at *
  obtain ⟨Q5, d5, hv5, _, _, _⟩ := (SeqS.of_owns HH5.out.tr).form
  subst hv5
  obtain ⟨A5, d6, hv6, _, _, _⟩ := (SeqS.of_owns HH5.out.rr).form
  subst hv6
  have k0 := (HH5.out.box.cell 0).trans (show _ = some (Value.slice A5 p.rs.length d6) from rfl)
  have k1 := (HH5.out.box.cell 1).trans (show _ = some (Value.slice Q5 p.ts.length d5) from rfl)
  have c2 := HH5.out.box.lt
  by_cases hts : p.ts.length = 0
  ·have e0 : ((p.ts.length : Int) == 0) = true := by rw [beq_iff_eq]; omega
   have e8 : decide ((p.ts.length : Int) < 8) = true := decide_eq_true (by omega)
   have e9 : decide ((p.ts.length : Int) > 0) = false := decide_eq_false (by omega)
   have e10 : decide (0 < (p.ts.length : Int)) = false := decide_eq_false (by omega)
   have e8n : p.ts.length < 8 := by omega
   have e9n : ¬ 0 < p.ts.length := by omega
   have HTS := Lib.hid hts
   clear hts
   by_cases hC1 : rb = true ∧ p.rs.length < 8
   ·obtain ⟨rfl, h8⟩ := hC1
    have e1 : decide ((p.rs.length : Int) < 8) = true := decide_eq_true (by omega)
    have HYES := Lib.hid (HRY.out rfl HTS.out h8)
    have f0 := HH5.out.box.free 0
    have y0 := (HY9.out.cell 0).trans (show _ = some (Value.int .i64 X.k) from rfl)
    have y1 := (HY9.out.cell 1).trans (show _ = some (Value.int .i64 X.c) from rfl)
    have y2 := (HY9.out.cell 2).trans (show _ = some (Value.int .i64 X.r) from rfl)
    have y3 := HY9.out.lt
    have HT1 := Lib.hid HH5.out.rr
    have hBw5 := Nat.le_trans HH5.out.le.1 HH5.out.le.2
    go_wp2_with (at_builtin; refine append_oneS _ (riC X) 3 rfl (.tmp 57) (.tmp 59) 22 rfl (w.heap.size + 1) 51 _ 24 Tryz.underlying22 infoRiA rfl (by decide) rfl (by intro u hu; simp at hu; rcases hu with rfl | rfl | rfl <;> rfl) _ _ _ rfl HT1.out rfl (by unfold maxLen; omega) (by omega) hBw5 ?_)
    intro v' w' ho hb hgr
    have hk := kept_grown hgr
    have hl2 := HH5.out.box.kept hk (own_ne HT1.out HH5.out.box (by decide))
    obtain ⟨hbd, hbw⟩ := HH5.out.ring hk X (by rw [rowsOf_append, rowsOf_one]; exact ho)
    have g1 := (hl2.cell 0).trans (show _ = some (Value.slice A5 p.rs.length d6) from rfl)
    have g2 := hl2.lt
    have g3 := hl2.free 0
    have HH6 := Lib.hid hbd
    have HB6 := Lib.hid (HB5.out.trans (hbw.mono (by omega)))
    have HL6 := Lib.hid (HL5.out.below hbw (by omega))
    obtain ⟨Q8, d8, hv8, _, _, _⟩ := (SeqS.of_owns ho).form
    subst hv8
    clear hbd hbw hk ho hb hgr hl2 HT1
    have HGO : Hid (rdZ (⟨p.rs ++ [X], p.ts⟩ : Pg) rest t (n + 1) = R) := by
     have h8 := HRS.out
     rw [if_pos HYES.out.1, ← HYES.out.2] at h8
     exact h8
    have HSN : Hid (lsB (⟨p.rs ++ [X], p.ts⟩ : Pg) = true) := by rw [HYES.out.2]; exact HSD.out HYES.out.1
    go_wp2
    go_roundw
    case rel => exact ⟨D ++ (b ++ [10]), rest, a + b.length + 1, 0, n + 1, _, _, _, _, _, by go_num, by go_num, by go_num, HLL2, HD2, HA2, by omega, by omega, by omega, HGO, HSN, HH6, HL6, HB6⟩
    case measure => simp [intOf]; omega
   ·have HC1 : Hid (¬ (rb = true ∧ p.ts.length = 0 ∧ p.rs.length < 8)) := fun h => hC1 ⟨h.1, h.2.2⟩
    have hC1b : (rb && decide ((p.rs.length : Int) < 8)) = false := by
     cases rb
     ·rfl
     ·rw [Bool.true_and]; exact decide_eq_false (fun h => hC1 ⟨rfl, by omega⟩)
    go_upto_region 12 with (fail)
    go_cut [44] (fun s44 wx => s44 = .bool (rb && decide ((p.rs.length : Int) < 8)) ∧ wx = w5)
    case first =>
     clear hC1b hC1
     cases rb
     ·go_wp2_with fail
      go_meet
      exact ⟨rfl, rfl⟩
     ·go_wp2_with fail
      go_meet
      exact ⟨rfl, rfl⟩
    case rest =>
     obtain ⟨rfl, hwc⟩ := hcut
     rw [hwc, hC1b]
     clear hwc hC1b hC1
     by_cases hth : b = thW
     ·have HC2 : Hid (b = thW ∧ p.ts.length < 8) := ⟨hth, by rw [HTS.out]; decide⟩
      have HTY := Lib.hid (fun h => HTY.out HC1.out h)
      have e1 : ((textB b).toList == ([116, 104, 114, 101, 97, 100] : List UInt8)) = true := by rw [text_toList, hth]; rfl
      clear hth
      have HYES : Hid ((adL p b).2 = true ∧ (⟨p.rs, p.ts ++ [[]]⟩ : Pg) = (adL p b).1) := HTY.out HC2.out
      have HT1 := Lib.hid HH5.out.tr
      have HX1 := Lib.hid HH5.out.box
      have f1 := HX1.out.free 1
      have hBw5 := Nat.le_trans HH5.out.le.1 HH5.out.le.2
      go_wp2_with (at_builtin; refine append_one _ (.slice none 0 0) rfl (.tmp 70) (.tmp 71) 23 rfl (w.heap.size + 1) 47 _ 24 Tryz.underlying23 infoThA rfl rfl _ _ _ rfl HT1.out rfl (by unfold maxLen; omega) (by omega) hBw5 ?_)
      intro v' w' ho hb hgr
      have hk := kept_grown hgr
      have hl2 := HX1.out.kept hk (own_ne HT1.out HX1.out (by decide))
      obtain ⟨hbd, hbw⟩ := HH5.out.thread hk ho
      have g1 := (hl2.cell 1).trans (show _ = some (Value.slice Q5 p.ts.length d5) from rfl)
      have g2 := hl2.lt
      have f1 := hl2.free 1
      have HH6 := Lib.hid hbd
      have HB6 := Lib.hid (HB5.out.trans (hbw.mono (by omega)))
      have HL6 := Lib.hid (HL5.out.below hbw (by omega))
      obtain ⟨Q8, d8, hv8, _, _, _⟩ := (SeqS.of_owns ho).form
      subst hv8
      clear hbd hbw hk ho hb hgr hl2 HT1 HX1
      have HGO : Hid (rdZ (⟨p.rs, p.ts ++ [[]]⟩ : Pg) rest t (n + 1) = R) := by
       have h8 := HRS.out
       rw [if_pos HYES.out.1, ← HYES.out.2] at h8
       exact h8
      have HSN : Hid (lsB (⟨p.rs, p.ts ++ [[]]⟩ : Pg) = true) := by rw [HYES.out.2]; exact HSD.out HYES.out.1
      go_wp2
      go_roundw
      case rel => exact ⟨D ++ (b ++ [10]), rest, a + b.length + 1, 0, n + 1, _, _, _, _, _, by go_num, by go_num, by go_num, HLL2, HD2, HA2, by omega, by omega, by omega, HGO, HSN, HH6, HL6, HB6⟩
      case measure => simp [intOf]; omega
     ·have e1 : ((textB b).toList == ([116, 104, 114, 101, 97, 100] : List UInt8)) = false := by rw [text_toList, beq_eq_false_iff_ne]; exact hth
      have HNO := Lib.hid (HNN.out HC1.out (fun h => hth h.1) (fun h => by have := HTS.out; omega))
      clear hth
      cases ib
      ·have HBA : Hid (R = (⟨[], []⟩, n)) := by
        have h8 := HRS.out
        rw [if_neg (by rw [HNO.out]; decide)] at h8
        exact h8.symm
       have HL := HL5
       have HB := HB5
       have zlt := HL.out.lt
       have zf0 := HL.out.free 0
       have zf1 := HL.out.free 1
       have zc0 := (HL.out.cell 0).trans (show _ = some (Value.slice none 0 0) from rfl)
       have zc1 := (HL.out.cell 1).trans (show _ = some (Value.slice none 0 0) from rfl)
       go_wp2_with fail
       have HBZ := Lib.hid (HB.out.trans ((st2_kept w5 w.heap.size (.slice none 0 0) (.slice none 0 0)).below HB.out.size (fun j hj (e : j = w.heap.size) => by omega)))
       have HRZ := Lib.hid (st2_lies (a0 := (.slice none 0 0)) (a1 := (.slice none 0 0)) HL.out)
       have q0 := (HRZ.out.cell 0).trans (show _ = some ((.slice none 0 0)) from rfl)
       have q1 := (HRZ.out.cell 1).trans (show _ = some ((.slice none 0 0)) from rfl)
       refine bodyPost_ret (v := .tuple #[.agg pgZ, (.int .i64 (n : Int))]) (by simp [results, Tryz.results19, go_sem, q0, q1]) rfl ?_
       rw [HBA.out]
       exact ⟨none, 0, none, 0, rfl, pg_nothing _, HBZ.out⟩
      ·have HBA : Hid (R = (⟨[], []⟩, n)) := by
        have h8 := HRS.out
        rw [if_neg (by rw [HNO.out]; decide)] at h8
        exact h8.symm
       have HL := HL5
       have HB := HB5
       have zlt := HL.out.lt
       have zf0 := HL.out.free 0
       have zf1 := HL.out.free 1
       have zc0 := (HL.out.cell 0).trans (show _ = some (Value.slice none 0 0) from rfl)
       have zc1 := (HL.out.cell 1).trans (show _ = some (Value.slice none 0 0) from rfl)
       go_wp2_with fail
       have HBZ := Lib.hid (HB.out.trans ((st2_kept w5 w.heap.size (.slice none 0 0) (.slice none 0 0)).below HB.out.size (fun j hj (e : j = w.heap.size) => by omega)))
       have HRZ := Lib.hid (st2_lies (a0 := (.slice none 0 0)) (a1 := (.slice none 0 0)) HL.out)
       have q0 := (HRZ.out.cell 0).trans (show _ = some ((.slice none 0 0)) from rfl)
       have q1 := (HRZ.out.cell 1).trans (show _ = some ((.slice none 0 0)) from rfl)
       refine bodyPost_ret (v := .tuple #[.agg pgZ, (.int .i64 (n : Int))]) (by simp [results, Tryz.results19, go_sem, q0, q1]) rfl ?_
       rw [HBA.out]
       exact ⟨none, 0, none, 0, rfl, pg_nothing _, HBZ.out⟩
  ·obtain ⟨T, l, hp⟩ := snoc_of (ts := p.ts) (by omega)
   have hpl : p.ts.length = T.length + 1 := by rw [hp]; simp
   obtain ⟨u, rt, cap, hu, hown, hvt, hrt, hcp, hcm, cur, hlr, hcu⟩ := HH5.out.last_ hp
   cases hvt
   have e0 : ((p.ts.length : Int) == 0) = false := by rw [beq_eq_false_iff_ne]; omega
   have e9 : decide ((p.ts.length : Int) > 0) = true := decide_eq_true (by omega)
   have e10 : decide (0 < (p.ts.length : Int)) = true := decide_eq_true (by omega)
   have e11 : (p.ts.length : Int) - 1 = (T.length : Int) := by omega
   have e12 : (T.length : Int) < (p.ts.length : Int) := by omega
   have e13 : T.length < p.ts.length := by omega
   have e9n : 0 < p.ts.length := by omega
   have HC1 : Hid (¬ (rb = true ∧ p.ts.length = 0 ∧ p.rs.length < 8)) := fun h => hts h.2.1
   have HPP := Lib.hid hp
   have HU := Lib.hid hu
   have HOW := Lib.hid hown
   have HLR := Lib.hid hlr
   have HCU := Lib.hid hcu
   have HNX := Lib.hid (HN11.out T l u hp hu)
   have hl256 := HL4.out l (by rw [hp]; simp)
   have hle5 := HH5.out.le.2
   obtain ⟨A9, c9, hy9, _, _, _⟩ := (SeqS.of_owns hown).form
   have s9 := (hlr.cell T.length).trans hcu
   rw [hy9] at s9
   have s8 := hlr.lt
   clear hp hu hown hlr hcu hpl hy9
   go_upto_region 12 with (fail)
   go_cut [44] (fun s44 wx => s44 = .bool false ∧ wx = w5)
   case first =>
    cases rb
    ·go_wp2_with fail
     go_meet
     exact ⟨rfl, rfl⟩
    ·go_wp2_with fail
     go_meet
     exact ⟨rfl, rfl⟩
   case rest =>
    obtain ⟨rfl, hwc⟩ := hcut
    rw [hwc]
    clear hwc
    by_cases hC2 : b = thW ∧ p.ts.length < 8
    ·have HTY := Lib.hid (fun h => HTY.out HC1.out h)
     have e1 : ((textB b).toList == ([116, 104, 114, 101, 97, 100] : List UInt8)) = true := by rw [text_toList, hC2.1]; rfl
     have e8 : decide ((p.ts.length : Int) < 8) = true := decide_eq_true (by have := hC2.2; omega)
     have e8n := hC2.2
     have HC2 := Lib.hid hC2
     clear s9 s8 hC2
     have HYES : Hid ((adL p b).2 = true ∧ (⟨p.rs, p.ts ++ [[]]⟩ : Pg) = (adL p b).1) := HTY.out HC2.out
     have HT1 := Lib.hid HH5.out.tr
     have HX1 := Lib.hid HH5.out.box
     have f1 := HX1.out.free 1
     have hBw5 := Nat.le_trans HH5.out.le.1 HH5.out.le.2
     go_wp2_with (at_builtin; refine append_one _ (.slice none 0 0) rfl (.tmp 70) (.tmp 71) 23 rfl (w.heap.size + 1) 47 _ 24 Tryz.underlying23 infoThA rfl rfl _ _ _ rfl HT1.out rfl (by unfold maxLen; omega) (by omega) hBw5 ?_)
     intro v' w' ho hb hgr
     have hk := kept_grown hgr
     have hl2 := HX1.out.kept hk (own_ne HT1.out HX1.out (by decide))
     obtain ⟨hbd, hbw⟩ := HH5.out.thread hk ho
     have g1 := (hl2.cell 1).trans (show _ = some (Value.slice (some ⟨rt, 0, none⟩) p.ts.length d5) from rfl)
     have g2 := hl2.lt
     have f1 := hl2.free 1
     have HH6 := Lib.hid hbd
     have HB6 := Lib.hid (HB5.out.trans (hbw.mono (by omega)))
     have HL6 := Lib.hid (HL5.out.below hbw (by omega))
     obtain ⟨Q8, d8, hv8, _, _, _⟩ := (SeqS.of_owns ho).form
     subst hv8
     clear hbd hbw hk ho hb hgr hl2 HT1 HX1
     have HGO : Hid (rdZ (⟨p.rs, p.ts ++ [[]]⟩ : Pg) rest t (n + 1) = R) := by
      have h8 := HRS.out
      rw [if_pos HYES.out.1, ← HYES.out.2] at h8
      exact h8
     have HSN : Hid (lsB (⟨p.rs, p.ts ++ [[]]⟩ : Pg) = true) := by rw [HYES.out.2]; exact HSD.out HYES.out.1
     go_wp2
     go_roundw
     case rel => exact ⟨D ++ (b ++ [10]), rest, a + b.length + 1, 0, n + 1, _, _, _, _, _, by go_num, by go_num, by go_num, HLL2, HD2, HA2, by omega, by omega, by omega, HGO, HSN, HH6, HL6, HB6⟩
     case measure => simp [intOf]; omega
    ·go_upto_region 14 with (fail)
     go_cut [62] (fun s62 wx => s62 = .bool false ∧ wx = w5)
     case first =>
      by_cases hth : b = thW
      ·have e1 : ((textB b).toList == ([116, 104, 114, 101, 97, 100] : List UInt8)) = true := by rw [text_toList, hth]; rfl
       have e8 : decide ((p.ts.length : Int) < 8) = false := decide_eq_false (fun h => hC2 ⟨hth, by omega⟩)
       have e8n : ¬ p.ts.length < 8 := fun h => hC2 ⟨hth, h⟩
       clear hth hC2
       go_wp2_with fail
       go_meet
       exact ⟨rfl, rfl⟩
      ·have e1 : ((textB b).toList == ([116, 104, 114, 101, 97, 100] : List UInt8)) = false := by rw [text_toList, beq_eq_false_iff_ne]; exact hth
       clear hth hC2
       go_wp2_with fail
       go_meet
       exact ⟨rfl, rfl⟩
     case rest =>
      obtain ⟨rfl, hwc⟩ := hcut
      rw [hwc]
      clear hwc
      by_cases hC3 : ib = true ∧ l.length < 256
      ·obtain ⟨rfl, h256⟩ := hC3
       have e14 : decide ((l.length : Int) < 256) = true := decide_eq_true (by omega)
       have hxY := HXI.out rfl
       have HYES := Lib.hid (HIY.out T l HC1.out hC2 HPP.out rfl h256)
       rw [← hxY] at HYES
       clear hxY hC2
       go_upto_region 17 with (fail)
       clear s9 s8 k0 k1 c2
       refine wp_region_relyx (PuS w5 u rt T.length 12 14 [0, 1, 2, 3, 4, 5, 6, 7, 8, 9, 10, 11, 12, 13] [11] (fun v q => q.ownsRow BL 28 6 v (l.length + 1) (rowsOf inF (l ++ [x])))) (bfV [.eq (.pointer (some ⟨w.heap.size + 1, 1, none⟩)), .eq (.slice (some ⟨rt, 0, none⟩) p.ts.length d5), .eq (.int .i64 (p.ts.length : Int)), .eq (.int .i64 (T.length : Int)), .eq (.pointer (some ⟨w.heap.size + 1, 1, none⟩)), .eq (.slice (some ⟨rt, 0, none⟩) p.ts.length d5), .eq (.int .i64 (p.ts.length : Int)), .eq (.int .i64 (T.length : Int)), .eq (.pointer (some ⟨rt, T.length, none⟩)), .eq u, .eq (.agg (inC x)), .of (fun v q => ∃ G, v = Value.slice (some ⟨G, 0, none⟩) 1 1 ∧ Lies q G 28 (inC x)) (fun _ _ _ hb ⟨G, e, h1⟩ => ⟨G, e, h1.below hb h1.lt⟩), .any, .eq (.pointer (some ⟨rt, T.length, none⟩)), .any]) [some 90, some 91, some 92, some 93, some 94, some 95, some 96, some 97, some 98, some 99, some 100, some 101, some 102, some 103, none] [[], [0], [], [2], [], [4], [], [6], [5, 7], [8], [], [10], [9, 11], [1, 3], [13, 12]] [[], [0], [], [2], [], [4], [], [6], [4, 5, 6, 7], [5, 7, 8], [], [10], [8, 9, 10, 11], [0, 1, 2, 3, 4, 5, 6, 7, 8, 9, 10, 11], [0, 1, 2, 3, 4, 5, 6, 7, 8, 9, 10, 11, 13]] [[2, 3, 4, 5, 6, 7, 8, 9, 10, 11, 12], [2, 3, 4, 5, 6, 7, 8, 9, 10, 11, 12], [0, 1, 4, 5, 6, 7, 8, 9, 10, 11, 12], [0, 1, 4, 5, 6, 7, 8, 9, 10, 11, 12], [0, 1, 2, 3, 6, 7, 8, 9, 10, 11, 12], [0, 1, 2, 3, 6, 7, 9, 10, 11, 12], [0, 1, 2, 3, 4, 5, 8, 9, 10, 11, 12], [0, 1, 2, 3, 4, 5, 9, 10, 11, 12], [0, 1, 2, 3, 10, 11, 12], [0, 1, 2, 3, 10, 11], [0, 1, 2, 3, 4, 5, 6, 7, 8, 9, 12], [0, 1, 2, 3, 4, 5, 6, 7, 8, 9], [0, 1, 2, 3, 4, 6], [12], [12]] [0, 1, 2, 3, 4, 5, 6, 7, 8, 9, 10, 11, 12, 13, 14] 15 (by kernel_rfl) (by kernel_rfl) (by kernel_rfl) (by kernel_rfl) ?rS (fun j h1 h2 => absurd (Nat.lt_of_lt_of_le h1 (Nat.le_trans (by decide) h2)) (Nat.lt_irrefl _)) ?rT ?rE
       case rS => exact pu_start
       case rT =>
        refine RelyStepsX.cons (RelyStepX.mk [] [2, 3, 4, 5, 6, 7, 8, 9, 10, 11, 12] rfl rfl rfl (fun xv Lv wS hS hL hLd hV bq hb K hK => ?_)) ?_
        ·clear hV
         simp only [putsOf, List.foldl_cons, List.foldl_nil, List.getD_cons_zero, List.getD_cons_succ, List.getD_nil, cond_true, cond_false, Act.put, List.setIfInBounds_toArray, List.set_cons_zero, List.set_cons_succ] at hb
         subst hb
         rw [if_pos (by rfl)]
         go_wp2_with fail
         exact hK.out _ _ ⟨_, rfl, pu_op (i := 0) rfl hS, rfl, AllPX.same _⟩
        refine RelyStepsX.cons (RelyStepX.mk [0] [2, 3, 4, 5, 6, 7, 8, 9, 10, 11, 12] rfl rfl rfl (fun xv Lv wS hS hL hLd hV bq hb K hK => ?_)) ?_
        ·obtain ⟨h0, _⟩ := hV
         have h0 : xv 0 = _ := h0
         simp only [putsOf, List.foldl_cons, List.foldl_nil, List.getD_cons_zero, List.getD_cons_succ, List.getD_nil, cond_true, cond_false, Act.put, List.setIfInBounds_toArray, List.set_cons_zero, List.set_cons_succ, h0] at hb
         clear h0
         subst hb
         rw [if_pos (by rfl)]
         (have k1 := HH5.out.box.kept (pu_at hS hL (by decide)) (own_ne HOW.out HH5.out.box (by decide)); have c1 := (k1.cell 1).trans (show _ = some (Value.slice (some ⟨rt, 0, none⟩) p.ts.length d5) from rfl); have c2 := k1.lt; clear k1)
         go_wp2_with fail
         exact hK.out _ _ ⟨_, rfl, pu_op (i := 1) rfl hS, rfl, AllPX.same _⟩
        refine RelyStepsX.cons (RelyStepX.mk [] [0, 1, 4, 5, 6, 7, 8, 9, 10, 11, 12] rfl rfl rfl (fun xv Lv wS hS hL hLd hV bq hb K hK => ?_)) ?_
        ·clear hV
         simp only [putsOf, List.foldl_cons, List.foldl_nil, List.getD_cons_zero, List.getD_cons_succ, List.getD_nil, cond_true, cond_false, Act.put, List.setIfInBounds_toArray, List.set_cons_zero, List.set_cons_succ] at hb
         subst hb
         rw [if_pos (by rfl)]
         go_wp2_with fail
         exact hK.out _ _ ⟨_, rfl, pu_op (i := 2) rfl hS, rfl, AllPX.same _⟩
        refine RelyStepsX.cons (RelyStepX.mk [2] [0, 1, 4, 5, 6, 7, 8, 9, 10, 11, 12] rfl rfl rfl (fun xv Lv wS hS hL hLd hV bq hb K hK => ?_)) ?_
        ·obtain ⟨h2, _⟩ := hV
         have h2 : xv 2 = _ := h2
         simp only [putsOf, List.foldl_cons, List.foldl_nil, List.getD_cons_zero, List.getD_cons_succ, List.getD_nil, cond_true, cond_false, Act.put, List.setIfInBounds_toArray, List.set_cons_zero, List.set_cons_succ, h2] at hb
         clear h2
         subst hb
         rw [if_pos (by rfl)]
         go_wp2_with fail
         exact hK.out _ _ ⟨_, rfl, pu_op (i := 3) rfl hS, rfl, AllPX.same _⟩
        refine RelyStepsX.cons (RelyStepX.mk [] [0, 1, 2, 3, 6, 7, 8, 9, 10, 11, 12] rfl rfl rfl (fun xv Lv wS hS hL hLd hV bq hb K hK => ?_)) ?_
        ·clear hV
         simp only [putsOf, List.foldl_cons, List.foldl_nil, List.getD_cons_zero, List.getD_cons_succ, List.getD_nil, cond_true, cond_false, Act.put, List.setIfInBounds_toArray, List.set_cons_zero, List.set_cons_succ] at hb
         subst hb
         rw [if_pos (by rfl)]
         go_wp2_with fail
         exact hK.out _ _ ⟨_, rfl, pu_op (i := 4) rfl hS, rfl, AllPX.same _⟩
        refine RelyStepsX.cons (RelyStepX.mk [4] [0, 1, 2, 3, 6, 7, 9, 10, 11, 12] rfl rfl rfl (fun xv Lv wS hS hL hLd hV bq hb K hK => ?_)) ?_
        ·obtain ⟨h4, _⟩ := hV
         have h4 : xv 4 = _ := h4
         simp only [putsOf, List.foldl_cons, List.foldl_nil, List.getD_cons_zero, List.getD_cons_succ, List.getD_nil, cond_true, cond_false, Act.put, List.setIfInBounds_toArray, List.set_cons_zero, List.set_cons_succ, h4] at hb
         clear h4
         subst hb
         rw [if_pos (by rfl)]
         (have k1 := HH5.out.box.kept (pu_at hS hL (by decide)) (own_ne HOW.out HH5.out.box (by decide)); have c1 := (k1.cell 1).trans (show _ = some (Value.slice (some ⟨rt, 0, none⟩) p.ts.length d5) from rfl); have c2 := k1.lt; clear k1)
         go_wp2_with fail
         exact hK.out _ _ ⟨_, rfl, pu_op (i := 5) rfl hS, rfl, AllPX.same _⟩
        refine RelyStepsX.cons (RelyStepX.mk [] [0, 1, 2, 3, 4, 5, 8, 9, 10, 11, 12] rfl rfl rfl (fun xv Lv wS hS hL hLd hV bq hb K hK => ?_)) ?_
        ·clear hV
         simp only [putsOf, List.foldl_cons, List.foldl_nil, List.getD_cons_zero, List.getD_cons_succ, List.getD_nil, cond_true, cond_false, Act.put, List.setIfInBounds_toArray, List.set_cons_zero, List.set_cons_succ] at hb
         subst hb
         rw [if_pos (by rfl)]
         go_wp2_with fail
         exact hK.out _ _ ⟨_, rfl, pu_op (i := 6) rfl hS, rfl, AllPX.same _⟩
        refine RelyStepsX.cons (RelyStepX.mk [6] [0, 1, 2, 3, 4, 5, 9, 10, 11, 12] rfl rfl rfl (fun xv Lv wS hS hL hLd hV bq hb K hK => ?_)) ?_
        ·obtain ⟨h6, _⟩ := hV
         have h6 : xv 6 = _ := h6
         simp only [putsOf, List.foldl_cons, List.foldl_nil, List.getD_cons_zero, List.getD_cons_succ, List.getD_nil, cond_true, cond_false, Act.put, List.setIfInBounds_toArray, List.set_cons_zero, List.set_cons_succ, h6] at hb
         clear h6
         subst hb
         rw [if_pos (by rfl)]
         go_wp2_with fail
         exact hK.out _ _ ⟨_, rfl, pu_op (i := 7) rfl hS, rfl, AllPX.same _⟩
        refine RelyStepsX.cons (RelyStepX.mk [5, 7] [0, 1, 2, 3, 10, 11, 12] rfl rfl rfl (fun xv Lv wS hS hL hLd hV bq hb K hK => ?_)) ?_
        ·obtain ⟨h5, h7, _⟩ := hV
         have h5 : xv 5 = _ := h5
         have h7 : xv 7 = _ := h7
         simp only [putsOf, List.foldl_cons, List.foldl_nil, List.getD_cons_zero, List.getD_cons_succ, List.getD_nil, cond_true, cond_false, Act.put, List.setIfInBounds_toArray, List.set_cons_zero, List.set_cons_succ, h5, h7] at hb
         clear h5
         clear h7
         subst hb
         rw [if_pos (by rfl)]
         go_wp2_with fail
         exact hK.out _ _ ⟨_, rfl, pu_op (i := 8) rfl hS, rfl, AllPX.same _⟩
        refine RelyStepsX.cons (RelyStepX.mk [8] [0, 1, 2, 3, 10, 11] rfl rfl rfl (fun xv Lv wS hS hL hLd hV bq hb K hK => ?_)) ?_
        ·obtain ⟨h8, _⟩ := hV
         have h8 : xv 8 = _ := h8
         simp only [putsOf, List.foldl_cons, List.foldl_nil, List.getD_cons_zero, List.getD_cons_succ, List.getD_nil, cond_true, cond_false, Act.put, List.setIfInBounds_toArray, List.set_cons_zero, List.set_cons_succ, h8] at hb
         clear h8
         subst hb
         rw [if_pos (by rfl)]
         (have k1 := HLR.out.kept (pu_at hS hL (by decide)) (own_ne HOW.out HLR.out (by decide)); have c1 := (k1.cell T.length).trans HCU.out; have c2 := k1.lt; clear k1)
         go_wp2_with fail
         exact hK.out _ _ ⟨_, rfl, pu_op (i := 9) rfl hS, rfl, AllPX.same _⟩
        refine RelyStepsX.cons (RelyStepX.mk [] [0, 1, 2, 3, 4, 5, 6, 7, 8, 9, 12] rfl rfl rfl (fun xv Lv wS hS hL hLd hV bq hb K hK => ?_)) ?_
        ·clear hV
         simp only [putsOf, List.foldl_cons, List.foldl_nil, List.getD_cons_zero, List.getD_cons_succ, List.getD_nil, cond_true, cond_false, Act.put, List.setIfInBounds_toArray, List.set_cons_zero, List.set_cons_succ] at hb
         subst hb
         rw [if_pos (by rfl)]
         (have k1 := HX11.out.kept (pu_at hS hL (by decide)) HNX.out; have c0 := (k1.cell 0).trans (show _ = some (Value.int .i64 x.op) from rfl); have c1 := (k1.cell 1).trans (show _ = some (Value.int .i64 x.a) from rfl); have c2 := (k1.cell 2).trans (show _ = some (Value.int .i64 x.b) from rfl); have c3 := (k1.cell 3).trans (show _ = some (Value.int .i64 x.c) from rfl); have c4 := (k1.cell 4).trans (show _ = some (Value.int .i64 x.d) from rfl); have c5 := (k1.cell 5).trans (show _ = some (Value.int .u64 (x.k : Int)) from rfl); have c6 := k1.lt; clear k1)
         go_wp2_with fail
         exact hK.out _ _ ⟨_, rfl, pu_op (i := 10) rfl hS, rfl, AllPX.same _⟩
        refine RelyStepsX.cons (RelyStepX.mk [10] [0, 1, 2, 3, 4, 5, 6, 7, 8, 9] rfl rfl rfl (fun xv Lv wS hS hL hLd hV bq hb K hK => ?_)) ?_
        ·obtain ⟨h10, _⟩ := hV
         have h10 : xv 10 = _ := h10
         simp only [putsOf, List.foldl_cons, List.foldl_nil, List.getD_cons_zero, List.getD_cons_succ, List.getD_nil, cond_true, cond_false, Act.put, List.setIfInBounds_toArray, List.set_cons_zero, List.set_cons_succ, h10] at hb
         clear h10
         subst hb
         rw [if_pos (by rfl)]
         have HSS := Lib.hid hS
         clear hS
         go_wp2_with fail
         have hb : Below wS.heap.size wS (wS.alloc (.cells (inC x) 28)) := (Below.refl _ _).alloc (Nat.le_refl _) _
         exact hK.out _ _ ⟨_, rfl, pu_more rfl HSS.out hb, ⟨wS.heap.size, rfl, Lies.made _ _ _⟩, AllPX.of _ (fun j _ _ h => bfV_below hb h)⟩
        refine RelyStepsX.cons (RelyStepX.mk [9, 11] [0, 1, 2, 3, 4, 6] rfl rfl rfl (fun xv Lv wS hS hL hLd hV bq hb K hK => ?_)) ?_
        ·obtain ⟨h9, h11, _⟩ := hV
         have h9 : xv 9 = _ := h9
         simp only [putsOf, List.foldl_cons, List.foldl_nil, List.getD_cons_zero, List.getD_cons_succ, List.getD_nil, cond_true, cond_false, Act.put, List.setIfInBounds_toArray, List.set_cons_zero, List.set_cons_succ, h9] at hb
         clear h9
         generalize hy11 : xv 11 = y11 at *
         subst hb
         rw [if_pos (by rfl)]
         have hb9 := pu_bel hS hL (by decide)
         have HSS := Lib.hid hS
         obtain ⟨G, rfl, hl9⟩ := h11
         clear hS
         refine step_list (ops := #[]) (by rfl) (append_argS wS 6 rfl (.tmp 99) (.tmp 101) 47 rfl BL 28 _ 48 Tryz.underlying47 infoInA rfl (by decide) u l.length (rowsOf inF l) rfl (owns_kept HOW.out (Kept.of_below hb9) (fun _ _ _ _ e => e)) (some ⟨G, 0, none⟩) 1 1 rfl (inF x) (seq_lies hl9 rfl (by decide)) (by intro u hu; simp [inF] at hu; rcases hu with rfl | rfl | rfl | rfl | rfl | rfl <;> rfl) (by unfold maxLen; omega) (by omega) (Nat.le_trans hle5 hb9.size) ?_)
         intro v' w' ho hb hgr
         have hk := Kept.of_grown hgr
         exact hK.out _ _ ⟨_, rfl, pu_app rfl HSS.out hk (by rw [rowsOf_append, rowsOf_one]; exact ho) (fun j hj => hLd j (by revert hj; revert j; decide +kernel)), trivial, AllPX.of _ (fun j hj _ h => bfV_lit (by rfl) hj h)⟩
        refine RelyStepsX.cons (RelyStepX.mk [1, 3] [12] rfl rfl rfl (fun xv Lv wS hS hL hLd hV bq hb K hK => ?_)) ?_
        ·obtain ⟨h1, h3, _⟩ := hV
         have h1 : xv 1 = _ := h1
         have h3 : xv 3 = _ := h3
         simp only [putsOf, List.foldl_cons, List.foldl_nil, List.getD_cons_zero, List.getD_cons_succ, List.getD_nil, cond_true, cond_false, Act.put, List.setIfInBounds_toArray, List.set_cons_zero, List.set_cons_succ, h1, h3] at hb
         clear h1
         clear h3
         subst hb
         rw [if_pos (by rfl)]
         go_wp2_with fail
         exact hK.out _ _ ⟨_, rfl, pu_op (i := 13) rfl hS, rfl, AllPX.same _⟩
        refine RelyStepsX.cons (RelyStepX.mk [13, 12] [12] rfl rfl rfl (fun xv Lv wS hS hL hLd hV bq hb K hK => ?_)) ?_
        ·obtain ⟨h13, h12, _⟩ := hV
         have h13 : xv 13 = _ := h13
         simp only [putsOf, List.foldl_cons, List.foldl_nil, List.getD_cons_zero, List.getD_cons_succ, List.getD_nil, cond_true, cond_false, Act.put, List.setIfInBounds_toArray, List.set_cons_zero, List.set_cons_succ, h13] at hb
         clear h13
         generalize hy12 : xv 12 = y12 at *
         subst hb
         rw [if_pos (by rfl)]
         obtain ⟨k1, ho⟩ := pu_st hS hL (hLd 12 (by decide +kernel))
         have hl3 := HLR.out.kept k1 (own_ne HOW.out HLR.out (by decide))
         have q1 := (hl3.cell T.length).trans HCU.out
         have f1 := hl3.free T.length
         have qt := hl3.lt
         rw [hy12] at ho
         obtain ⟨A8, c8, rfl, _, _, _⟩ := (SeqS.of_owns ho).form
         have HSS := Lib.hid hS
         clear hS ho k1 hl3
         go_wp2_with fail
         refine hK.out _ _ ⟨undef, rfl, ?_, trivial, AllPX.of _ (fun j hj _ h => bfV_lit (by rfl) hj h)⟩
         have := pu_store (v := undef) rfl HSS.out (fun j hj => hLd j (by revert hj; revert j; decide +kernel))
         rwa [hy12] at this
        exact RelyStepsX.nil
       case rE =>
        intro xv Lv wE hS hLall hV
        have h12 := hV 12 (by decide) (by decide)
        have h14 := hV 14 (by decide) (by decide)
        clear hV
        obtain ⟨q1, e1, k1, ho⟩ := pu_end hS (hLall 12 (by decide +kernel)) (hLall 14 (by decide +kernel))
        simp only [putsOf, List.foldl_cons, List.foldl_nil, List.getD_cons_zero, List.getD_cons_succ, List.getD_nil, cond_true, cond_false, Act.put, List.setIfInBounds_toArray, List.set_cons_zero, List.set_cons_succ]
        generalize xv 0 = y0 at *
        generalize xv 1 = y1 at *
        generalize xv 2 = y2 at *
        generalize xv 3 = y3 at *
        generalize xv 4 = y4 at *
        generalize xv 5 = y5 at *
        generalize xv 6 = y6 at *
        generalize xv 7 = y7 at *
        generalize xv 8 = y8 at *
        generalize xv 9 = y9 at *
        generalize xv 10 = y10 at *
        generalize xv 11 = y11 at *
        generalize xv 12 = y12 at *
        generalize xv 13 = y13 at *
        generalize xv 14 = y14 at *
        obtain ⟨hbd, hbw⟩ := HH5.out.instr HPP.out HU.out k1 ho
        rw [← e1] at hbd hbw
        have HH6 := Lib.hid hbd
        have HB6 := Lib.hid (HB5.out.trans (hbw.mono (by omega)))
        have HL6 := Lib.hid (HL5.out.below hbw (by omega))
        clear hbd hbw e1 k1 ho hS hLall
        have HGO : Hid (rdZ (⟨p.rs, T ++ [l ++ [x]]⟩ : Pg) rest t (n + 1) = R) := by
         have h8 := HRS.out
         rw [if_pos HYES.out.1, ← HYES.out.2] at h8
         exact h8
        have HSN : Hid (lsB (⟨p.rs, T ++ [l ++ [x]]⟩ : Pg) = true) := by rw [HYES.out.2]; exact HSD.out HYES.out.1
        go_wp2
        go_roundw
        case rel => exact ⟨D ++ (b ++ [10]), rest, a + b.length + 1, 0, n + 1, _, _, _, _, _, by go_num, by go_num, by go_num, HLL2, HD2, HA2, by omega, by omega, by omega, HGO, HSN, HH6, HL6, HB6⟩
        case measure => simp [intOf]; omega
      ·have HNO := Lib.hid (HNN.out HC1.out hC2 (fun h => hC3 ⟨h.1, by have h8 := h.2.2; rw [HPP.out] at h8; simpa using h8⟩))
       clear hC2
       go_upto_region 16 with (fail)
       go_cut [74] (fun s74 wx => s74 = .bool false ∧ wx = w5)
       case first =>
        cases ib
        ·clear hC3
         go_wp2_with fail
         go_meet
         exact ⟨rfl, rfl⟩
        ·have e14 : decide ((l.length : Int) < 256) = false := decide_eq_false (fun h => hC3 ⟨rfl, by omega⟩)
         have e14n : ¬ l.length < 256 := fun h => hC3 ⟨rfl, h⟩
         clear hC3
         go_wp2_with fail
         go_meet
         exact ⟨rfl, rfl⟩
       case rest =>
        obtain ⟨rfl, hwc⟩ := hcut
        rw [hwc]
        clear hwc hC3
        have HBA : Hid (R = (⟨[], []⟩, n)) := by
         have h8 := HRS.out
         rw [if_neg (by rw [HNO.out]; decide)] at h8
         exact h8.symm
        have HL := HL5
        have HB := HB5
        have zlt := HL.out.lt
        have zf0 := HL.out.free 0
        have zf1 := HL.out.free 1
        have zc0 := (HL.out.cell 0).trans (show _ = some (Value.slice none 0 0) from rfl)
        have zc1 := (HL.out.cell 1).trans (show _ = some (Value.slice none 0 0) from rfl)
        go_wp2_with fail
        have HBZ := Lib.hid (HB.out.trans ((st2_kept w5 w.heap.size (.slice none 0 0) (.slice none 0 0)).below HB.out.size (fun j hj (e : j = w.heap.size) => by omega)))
        have HRZ := Lib.hid (st2_lies (a0 := (.slice none 0 0)) (a1 := (.slice none 0 0)) HL.out)
        have q0 := (HRZ.out.cell 0).trans (show _ = some ((.slice none 0 0)) from rfl)
        have q1 := (HRZ.out.cell 1).trans (show _ = some ((.slice none 0 0)) from rfl)
        refine bodyPost_ret (v := .tuple #[.agg pgZ, (.int .i64 (n : Int))]) (by simp [results, Tryz.results19, go_sem, q0, q1]) rfl ?_
        rw [HBA.out]
        exact ⟨none, 0, none, 0, rfl, pg_nothing _, HBZ.out⟩
instance : DecidableEq Ri := fun a b => if h : a.k = b.k ∧ a.c = b.c ∧ a.r = b.r then isTrue (by cases a; cases b; simp_all) else isFalse (fun e => h (by rw [e]; simp))
instance : DecidableEq In := fun a b => if h : a.op = b.op ∧ a.a = b.a ∧ a.b = b.b ∧ a.c = b.c ∧ a.d = b.d ∧ a.k = b.k then isTrue (by cases a; cases b; simp_all) else isFalse (fun e => h (by rw [e]; simp))
theorem riHeld : Tryz.prog.stoodInHeld 51 = false := by kernel_rfl
theorem riGuard : Tryz.prog.eqGuardType Tryz.prog.depth 51 = false := by kernel_rfl
theorem inHeld : Tryz.prog.stoodInHeld 28 = false := by kernel_rfl
theorem inGuard : Tryz.prog.eqGuardType Tryz.prog.depth 28 = false := by kernel_rfl
theorem riNeq (x y : Ri) (w : World) : (binOp .neq 51 (.agg #[.int .i64 x.k, .int .i64 x.c, .int .i64 x.r]) (.agg #[.int .i64 y.k, .int .i64 y.c, .int .i64 y.r])).run Tryz.prog w = .ok (.bool (!(decide (x = y)))) w := by
 have h1 := riHeld
 rw [run_neq_struct, run_equalIn_agg w 9999 _ _ _ (by simp only [Program.fieldsOf, Tryz.underlying51]) h1]
 simp only [Program.fieldsOf, Tryz.underlying51]
 obtain ⟨a, b, c⟩ := x
 obtain ⟨a', b', c'⟩ := y
 simp [go_sem]
 by_cases e1 : a = a'
 ·by_cases e2 : b = b'
  ·by_cases e3 : c = c' <;> simp [e1, e2, e3]
  ·simp [e1, e2]; try omega
 ·simp [e1]; try omega
theorem inNeq (x y : In) (w : World) : (binOp .neq 28 (.agg (inC x)) (.agg (inC y))).run Tryz.prog w = .ok (.bool (!(decide (x = y)))) w := by
 have h1 := inHeld
 rw [run_neq_struct, run_equalIn_agg w 9999 _ _ _ (by simp only [Program.fieldsOf, Tryz.underlying28]) h1]
 simp only [Program.fieldsOf, Tryz.underlying28]
 obtain ⟨a, b, c, d, e, f⟩ := x
 obtain ⟨a', b', c', d', e', f'⟩ := y
 simp [go_sem]
 by_cases e1 : a = a'
 ·by_cases e2 : b = b'
  ·by_cases e3 : c = c'
   ·by_cases e4 : d = d'
    ·by_cases e5 : e = e'
     ·by_cases e6 : f = f'
      ·simp [e1, e2, e3, e4, e5, e6]
      ·simp [e1, e2, e3, e4, e5, e6]; try omega
     ·simp [e1, e2, e3, e4, e5]; try omega
    ·simp [e1, e2, e3, e4]; try omega
   ·simp [e1, e2, e3]; try omega
  ·simp [e1, e2]; try omega
 ·simp [e1]; try omega
def sameB (a b : Pg) : Bool := decide (a.rs = b.rs ∧ a.ts = b.ts)
theorem same_not {a b : Pg} (h : ¬ (a.rs = b.rs ∧ a.ts = b.ts)) : sameB a b = false := decide_eq_false h
set_option maxHeartbeats 8000000 in
set_option maxRecDepth 100000 in
theorem rfSame (a b : Pg) (A : Option Addr) (c : Nat) (B : Option Addr) (d : Nat) (A' : Option Addr) (c' : Nat) (B' : Option Addr) (d' : Nat) (w : World) (h : PgAt w A c B d a) (k : PgAt w A' c' B' d' b) :
  Calls Tryz.prog 20 #[.agg (pgC A c B d a), .agg (pgC A' c' B' d' b)] w fun e w' => e = .returned (.bool (sameB a b)) ∧ Below w.heap.size w w' := by
 obtain ⟨hc1, hc2⟩ := seq_form h.1
 obtain ⟨hd1, hd2⟩ := h.2.form
 obtain ⟨hc3, hc4⟩ := seq_form k.1
 obtain ⟨hd3, hd4⟩ := k.2.form
 have hb0 : Below w.heap.size w ((w.alloc (.cells (pgC A c B d a) 25)).alloc (.cells (pgC A' c' B' d' b) 25)) := ((Below.refl _ _).alloc (Nat.le_refl _) _).alloc (by simp) _
 have l0 := (Lies.made w 25 (pgC A c B d a)).alloc (.cells (pgC A' c' B' d' b) 25)
 have l1 := Lies.made (w.alloc (.cells (pgC A c B d a) 25)) 25 (pgC A' c' B' d' b)
 rw [World.size_alloc] at l1
 have HH := Lib.hid (h.later hb0)
 have HK := Lib.hid (k.later hb0)
 have HB0 := Lib.hid hb0
 have HL0 := Lib.hid l0
 have HL1 := Lib.hid l1
 have HNO := Lib.hid (@same_not a b)
 clear h k hb0 l0 l1
 go_enter Tryz.func20, Tryz.ntmps20
 go_upto_region 1 with (fail)
 generalize (w.alloc (.cells (pgC A c B d a) 25)).alloc (.cells (pgC A' c' B' d' b) 25) = w1 at *
 have c0 := (HL0.out.cell 0).trans (show _ = some (Value.slice A a.rs.length c) from rfl)
 have c1 := (HL0.out.cell 1).trans (show _ = some (Value.slice B a.ts.length d) from rfl)
 have cl := HL0.out.lt
 have d0 := (HL1.out.cell 0).trans (show _ = some (Value.slice A' b.rs.length c') from rfl)
 have d1 := (HL1.out.cell 1).trans (show _ = some (Value.slice B' b.ts.length d') from rfl)
 have dl := HL1.out.lt
 clear HL0 HL1
 by_cases h1 : a.rs.length = b.rs.length
 case neg =>
  have e1 : ((a.rs.length : Int) != (b.rs.length : Int)) = true := by rw [bne_iff_ne]; omega
  have HE := Lib.hid (HNO.out (fun e => h1 (by rw [e.1])))
  clear h1 HNO
  go_wp2
  go_ret
  exact ⟨ret_bool (by rw [HE.out]), HB0.out⟩
 have e1 : ((a.rs.length : Int) != (b.rs.length : Int)) = false := by rw [h1]; simp
 by_cases h2 : a.ts.length = b.ts.length
 case neg =>
  have e2 : ((a.ts.length : Int) != (b.ts.length : Int)) = true := by rw [bne_iff_ne]; omega
  have HE := Lib.hid (HNO.out (fun e => h2 (by rw [e.2])))
  clear h1 h2 HNO
  go_wp2
  go_ret
  exact ⟨ret_bool (by rw [HE.out]), HB0.out⟩
 have e2 : ((a.ts.length : Int) != (b.ts.length : Int)) = false := by rw [h2]; simp
 have H1 := Lib.hid h1
 have H2 := Lib.hid h2
 clear h1 h2
 go_wp2_with fail
 go_loopw [5] (fun u wr => ∃ i : Nat, i ≤ a.rs.length ∧ u = .int .i64 i ∧ Hid (a.rs.take i = b.rs.take i) ∧ ∃ n, wr = w1.drewN n) (fun u _ => a.rs.length - (intOf u).toNat)
 case atStart => exact ⟨0, by omega, rfl, (by show _ = _; rfl), 0, rfl⟩
 case round =>
  obtain ⟨i, hi, rfl, htk, nd, rfl⟩ := hrel
  by_cases hlt : i < a.rs.length
  ·have hii : (i : Int) < (a.rs.length : Int) := by omega
   have hii2 : (i : Int) < (b.rs.length : Int) := by have := H1.out; omega
   obtain ⟨x, hx⟩ : ∃ x, a.rs[i]? = some x := ⟨_, List.getElem?_eq_getElem hlt⟩
   obtain ⟨y, hy⟩ : ∃ y, b.rs[i]? = some y := ⟨_, List.getElem?_eq_getElem (by have := H1.out; omega)⟩
   obtain ⟨b1, o1, rfl, gl1, g1⟩ := RisAt.at_ HH.out.1 hx
   obtain ⟨b2, o2, rfl, gl2, g2⟩ := RisAt.at_ HK.out.1 hy
   have x0 := g1 0 _ (by decide) rfl
   have x1 := g1 1 _ (by decide) rfl
   have x2 := g1 2 _ (by decide) rfl
   have y0 := g2 0 _ (by decide) rfl
   have y1 := g2 1 _ (by decide) rfl
   have y2 := g2 2 _ (by decide) rfl
   rw [Nat.add_zero] at x0 y0
   have hg := riGuard
   have hq := riNeq x y
   by_cases hxy : x = y
   ·have HT := Lib.hid (show a.rs.take (i + 1) = b.rs.take (i + 1) by rw [List.take_add_one, List.take_add_one, htk.out, hx, hy, hxy])
    rw [decide_eq_true hxy] at hq
    clear g1 g2 hx hy htk hxy
    go_wp2_with fail
    go_quiet (fail)
    go_wp2
    go_roundw
    case rel => exact ⟨i + 1, by omega, by go_num, HT, _, rfl⟩
    case measure => simp [intOf]; omega
   ·have HE := Lib.hid (HNO.out (fun e => hxy (by have h3 := hx; rw [e.1, hy] at h3; exact (Option.some.inj h3).symm)))
    rw [decide_eq_false hxy] at hq
    clear g1 g2 hx hy htk hxy
    go_wp2_with fail
    go_quiet (fail)
    go_wp2
    go_ret
    exact ⟨ret_bool (by rw [HE.out]), below_drewN (below_drewN HB0.out nd) nq⟩
  ·obtain rfl : i = a.rs.length := by omega
   have hrs := htk.out
   rw [List.take_of_length_le (Nat.le_refl _), List.take_of_length_le (by have := H1.out; omega)] at hrs
   have HRS := Lib.hid hrs
   clear htk hrs
   go_wp2_with fail
   go_loopw [6] (fun u wr => ∃ t : Nat, t ≤ a.ts.length ∧ u = .int .i64 t ∧ Hid (a.ts.take t = b.ts.take t) ∧ ∃ n, wr = w1.drewN n) (fun u _ => a.ts.length - (intOf u).toNat)
   case atStart => exact ⟨0, by omega, rfl, (by show _ = _; rfl), _, rfl⟩
   case round =>
    obtain ⟨t, ht, rfl, htk, nd, rfl⟩ := hrel
    by_cases hlt : t < a.ts.length
    ·have hii : (t : Int) < (a.ts.length : Int) := by omega
     have hii2 : (t : Int) < (b.ts.length : Int) := by have := H2.out; omega
     obtain ⟨l, hl⟩ : ∃ l, a.ts[t]? = some l := ⟨_, List.getElem?_eq_getElem hlt⟩
     obtain ⟨m, hm⟩ : ∃ m, b.ts[t]? = some m := ⟨_, List.getElem?_eq_getElem (by have := H2.out; omega)⟩
     obtain ⟨b1, o1, X1, n1, rfl, g1, hil⟩ := HH.out.2.at_ hl
     obtain ⟨b2, o2, X2, n2, rfl, g2, him⟩ := HK.out.2.at_ hm
     have gl1 := World.block_lt_of_cell? _ _ g1
     have gl2 := World.block_lt_of_cell? _ _ g2
     obtain ⟨hf1, hf2⟩ := seq_form hil
     obtain ⟨hf3, hf4⟩ := seq_form him
     have HIL := Lib.hid hil
     have HIM := Lib.hid him
     have HLX := Lib.hid hl
     have HMX := Lib.hid hm
     have HTN := Lib.hid (fun (e : l = m) => show a.ts.take (t + 1) = b.ts.take (t + 1) by rw [List.take_add_one, List.take_add_one, htk.out, hl, hm, e])
     have HNE := Lib.hid (fun (e : ¬ l = m) => HNO.out (fun q => e (by have h3 := hl; rw [q.2, hm] at h3; exact (Option.some.inj h3).symm)))
     clear hil him hl hm htk
     by_cases hln : l.length = m.length
     case neg =>
      have e5 : ((l.length : Int) != (m.length : Int)) = true := by rw [bne_iff_ne]; omega
      have HE := Lib.hid (HNE.out (fun e => hln (by rw [e])))
      clear hln
      go_wp2_with fail
      go_quiet (fail)
      go_wp2
      go_ret
      exact ⟨ret_bool (by rw [HE.out]), below_drewN (below_drewN HB0.out nd) nq⟩
     have e5 : ((l.length : Int) != (m.length : Int)) = false := by rw [hln]; simp
     have HLN := Lib.hid hln
     clear hln
     go_wp2_with fail
     go_quiet (fail)
     go_wp2_with fail
     go_loopw [7] (fun u wr => ∃ k : Nat, k ≤ l.length ∧ u = .int .i64 k ∧ Hid (l.take k = m.take k) ∧ ∃ n, wr = w1.drewN n) (fun u _ => l.length - (intOf u).toNat)
     case atStart => exact ⟨0, by omega, rfl, (by show _ = _; rfl), _, World.drewN_drewN _ _ _⟩
     case round =>
      obtain ⟨k, hk, rfl, htk, nd2, rfl⟩ := hrel
      by_cases hkl : k < l.length
      ·have hkk : (k : Int) < (l.length : Int) := by omega
       have hkk2 : (k : Int) < (m.length : Int) := by have := HLN.out; omega
       obtain ⟨x, hx⟩ : ∃ x, l[k]? = some x := ⟨_, List.getElem?_eq_getElem hkl⟩
       obtain ⟨y, hy⟩ : ∃ y, m[k]? = some y := ⟨_, List.getElem?_eq_getElem (by have := HLN.out; omega)⟩
       obtain ⟨b3, o3, rfl, gl3, g3⟩ := InsAt.at_ HIL.out hx
       obtain ⟨b4, o4, rfl, gl4, g4⟩ := InsAt.at_ HIM.out hy
       have x0 := g3 0 _ (by decide) rfl
       have x1 := g3 1 _ (by decide) rfl
       have x2 := g3 2 _ (by decide) rfl
       have x3 := g3 3 _ (by decide) rfl
       have x4 := g3 4 _ (by decide) rfl
       have x5 := g3 5 _ (by decide) rfl
       have y0 := g4 0 _ (by decide) rfl
       have y1 := g4 1 _ (by decide) rfl
       have y2 := g4 2 _ (by decide) rfl
       have y3 := g4 3 _ (by decide) rfl
       have y4 := g4 4 _ (by decide) rfl
       have y5 := g4 5 _ (by decide) rfl
       rw [Nat.add_zero] at x0 y0
       have hg := inGuard
       have hq := inNeq x y
       by_cases hxy : x = y
       ·have HT := Lib.hid (show l.take (k + 1) = m.take (k + 1) by rw [List.take_add_one, List.take_add_one, htk.out, hx, hy, hxy])
        rw [decide_eq_true hxy] at hq
        clear g3 g4 hx hy htk hxy
        go_wp2_with fail
        go_quiet (fail)
        go_wp2
        go_roundw
        case rel => exact ⟨k + 1, by omega, by go_num, HT, _, rfl⟩
        case measure => simp [intOf]; omega
       ·have HE := Lib.hid (HNE.out (fun e => hxy (by have h3 := hx; rw [e, hy] at h3; exact (Option.some.inj h3).symm)))
        rw [decide_eq_false hxy] at hq
        clear g3 g4 hx hy htk hxy
        go_wp2_with fail
        go_quiet (fail)
        go_wp2
        go_ret
        exact ⟨ret_bool (by rw [HE.out]), below_drewN (below_drewN HB0.out nd2) nq⟩
      ·obtain rfl : k = l.length := by omega
       have hlm := htk.out
       rw [List.take_of_length_le (Nat.le_refl _), List.take_of_length_le (by have := HLN.out; omega)] at hlm
       have HT := Lib.hid (HTN.out hlm)
       clear htk hlm
       go_wp2
       go_roundw
       case rel => exact ⟨t + 1, by omega, by go_num, HT, _, rfl⟩
       case measure => simp [intOf]; omega
    ·obtain rfl : t = a.ts.length := by omega
     have hts := htk.out
     rw [List.take_of_length_le (Nat.le_refl _), List.take_of_length_le (by have := H2.out; omega)] at hts
     have HE : Hid (sameB a b = true) := decide_eq_true ⟨HRS.out, hts⟩
     clear htk hts
     go_wp2
     go_ret
     exact ⟨ret_bool (by rw [HE.out]), below_drewN HB0.out nd⟩
def smpP : Pg := ⟨[⟨1, 4, 1⟩], [[⟨1, 1, 0, 0, 0, 300⟩, ⟨18, 1, 2, 0, 1, 0⟩, ⟨25, 0, 0, 0, 0, 0⟩]]⟩
def ring3P : Pg := ⟨[⟨3, 0, 0⟩], []⟩
def recvI : In := ⟨19, 1, 2, 0, 1, 3⟩
def op26I : In := ⟨26, 0, 0, 0, 0, 0⟩
abbrev smpS : ByteArray := ⟨#[113, 117, 101, 117, 101, 32, 52, 10, 116, 104, 114, 101, 97, 100, 10, 115, 101, 116, 32, 114, 49, 32, 51, 48, 48, 10, 115, 101, 110, 100, 32, 114, 49, 32, 114, 50, 32, 48, 32, 119, 97, 105, 116, 10, 104, 97, 108, 116, 10]⟩
abbrev recvS : ByteArray := ⟨#[114, 101, 99, 118, 32, 114, 49, 32, 114, 50, 32, 48, 32, 119, 97, 105, 116, 32, 51]⟩
def qu4 : List UInt8 := [113, 117, 101, 117, 101, 32, 52]
def set03 : List UInt8 := [115, 101, 116, 32, 114, 49, 32, 48, 51, 48, 48]
theorem s_ls : lsB smpP = true := by decide +kernel
theorem s_prn : prnT smpP = smpS := by
 unfold prnT
 rw [s_ls, if_pos rfl]
 decide +kernel
theorem s_prnE : prnE smpP = 0 := by unfold prnE; rw [s_ls, if_pos rfl]
theorem s_lines : textB (lnsT (lnsR smpP.rs ++ lnsH smpP.ts) ++ []) = smpS := by
 rw [List.append_nil, ← pr_lines]
 decide +kernel
theorem s_rd : rdZ ⟨[], []⟩ (lnsR smpP.rs ++ lnsH smpP.ts) [] 1 = (smpP, 0) := by rw [rdZ_nil]; exact rdA_own s_ls
theorem r3_prn : prnT ring3P = ⟨#[]⟩ ∧ prnE ring3P = 1 := prn_no (by decide +kernel)
theorem rc_ln : lnT recvI = recvS ∧ lnE recvI = 0 := by
 have h : rightB recvI = true := by decide +kernel
 unfold lnT lnE
 rw [h, if_pos rfl, if_pos rfl]
 exact ⟨by decide +kernel, rfl⟩
theorem o26_ln : lnT op26I = ⟨#[]⟩ ∧ lnE op26I = 1 := by
 have h : rightB op26I = false := by decide +kernel
 unfold lnT lnE
 rw [h]
 exact ⟨if_neg (by decide), if_neg (by decide)⟩
theorem adL_dc {p : Pg} {b w0 : List UInt8} {rs : List (List UInt8)} (hw : WordsOf 32 b (w0 :: rs)) : (adL p b).2 = (dcS p b w0 rs).2 ∧ ((dcS p b w0 rs).2 = true → (adL p b).1 = (dcS p b w0 rs).1) := by
 rw [adL_eq hw]
 obtain ⟨h1, h2⟩ := steps_agree p hw
 exact ⟨h1.symm, fun h => (h2 (h1.symm.trans h)).symm⟩
theorem q4_words : WordsOf 32 qu4 [[113, 117, 101, 117, 101], [52]] := ⟨by simp, by decide, rfl⟩
theorem th_words : WordsOf 32 thW [[116, 104, 114, 101, 97, 100]] := ⟨by simp, by decide, rfl⟩
theorem s3_words : WordsOf 32 set03 [[115, 101, 116], [114, 49], [48, 51, 48, 48]] := ⟨by simp, by decide, rfl⟩
theorem q4_dc : dcS ⟨[], []⟩ qu4 [113, 117, 101, 117, 101] [[52]] = (⟨[⟨1, 4, 1⟩], []⟩, true) := by kernel_rfl
theorem th_dc : dcS ⟨[⟨1, 4, 1⟩], []⟩ thW [116, 104, 114, 101, 97, 100] [] = (⟨[⟨1, 4, 1⟩], [[]]⟩, true) := by kernel_rfl
theorem s3_dc : (dcS ⟨[⟨1, 4, 1⟩], [[]]⟩ set03 [115, 101, 116] [[114, 49], [48, 51, 48, 48]]).2 = false := by kernel_rfl
theorem go_dc {p p' : Pg} {b w0 : List UInt8} {rs : List (List UInt8)} (hw : WordsOf 32 b (w0 :: rs)) (h : dcS p b w0 rs = (p', true)) (l : List (List UInt8)) (t : List UInt8) (n : Nat) : rdZ p (b :: l) t n = rdZ p' l t (n + 1) := by
 obtain ⟨h1, h2⟩ := adL_dc (p := p) hw
 rw [h] at h1 h2
 have e : (adL p b).1 = p' := h2 rfl
 rw [rdZ_go (p' := p) (l := l) (t := t) (n := n) h1, e]
theorem rd_03 : rdZ ⟨[], []⟩ [qu4, thW, set03] [] 1 = (⟨[], []⟩, 3) := by
 rw [go_dc q4_words q4_dc, go_dc th_words th_dc]
 exact rdZ_no ((adL_dc s3_words).1.trans s3_dc)
theorem rd_cut : rdZ ⟨[], []⟩ [qu4] thW 1 = (⟨[], []⟩, 2) := by
 rw [go_dc q4_words q4_dc]
 exact rdZ_cut (by decide)
abbrev t03 : ByteArray := ⟨#[113, 117, 101, 117, 101, 32, 52, 10, 116, 104, 114, 101, 97, 100, 10, 115, 101, 116, 32, 114, 49, 32, 48, 51, 48, 48, 10]⟩
abbrev tcut : ByteArray := ⟨#[113, 117, 101, 117, 101, 32, 52, 10, 116, 104, 114, 101, 97, 100]⟩
theorem t03_lines : textB (lnsT [qu4, thW, set03] ++ []) = t03 := by decide +kernel
theorem tcut_lines : textB (lnsT [qu4] ++ thW) = tcut := by decide +kernel
theorem s_same : sameB smpP smpP = true := decide_eq_true ⟨rfl, rfl⟩
theorem seq_litS {w : World} {g n sz : Nat} {T : TypeId} {cs : Array Value} (h : Lies w g T cs) (hn : cs.size = n * sz) (hm : n ≤ 1000000) : SeqS w sz (.slice (some ⟨g, 0, none⟩) n n) n cs.toList :=
 ⟨by simpa using hn, _, _, rfl, Nat.le_refl _, by unfold maxLen; omega, (fun h => by cases h), fun k u hu => ⟨g, 0, rfl, by rw [Nat.zero_add, h.cell]; simpa using hu⟩⟩
theorem Lies.at_ {w : World} {t : TypeId} {cs : Array Value} {g : Nat} (h : w.heap.size = g) : Lies (w.alloc (.cells cs t)) g t cs := by subst h; exact Lies.made _ _ _
def PgOut (w : World) (p : Pg) (e : Ending) (w' : World) : Prop := ∃ A c B d, e = .returned (.agg (pgC A c B d p)) ∧ PgAt w' A c B d p ∧ Below w.heap.size w w'
set_option maxHeartbeats 4000000 in
set_option maxRecDepth 100000 in
theorem sample10 (w : World) : Calls Tryz.prog 21 #[] w (PgOut w smpP) := by
 go_enter Tryz.func21, Tryz.ntmps21
 go_wp2_with fail
 refine bodyPost_ret (v := .agg #[.slice (some ⟨w.heap.size + 1, 0, none⟩) 1 1, .slice (some ⟨w.heap.size + 1 + 1 + 1, 0, none⟩) 1 1]) (by simp [results, Tryz.results21, go_sem]) rfl ?_
 refine ⟨some ⟨w.heap.size + 1, 0, none⟩, 1, some ⟨w.heap.size + 1 + 1 + 1, 0, none⟩, 1, rfl, ⟨?_, [.slice (some ⟨w.heap.size + 1 + 1, 0, none⟩) 3 3], ?_, ?_⟩, ?_⟩
 ·exact seq_litS (n := 1) (sz := 3) (((Lies.at_ (by simp)).alloc _).alloc _) rfl (by omega)
 ·exact seq_litS (n := 1) (sz := 1) (Lies.at_ (by simp)) rfl (by omega)
 ·intro i l hl
  match i, hl with
  | 0, hl =>
   simp [smpP] at hl
   subst hl
   exact ⟨some ⟨w.heap.size + 1 + 1, 0, none⟩, 3, rfl, seq_litS (n := 3) (sz := 6) ((Lies.at_ (by simp)).alloc _) rfl (by omega)⟩
  | i + 1, hl => simp [smpP] at hl
 ·exact ((((Below.refl _ _).alloc (Nat.le_refl _) _).alloc (by simp) _).alloc (by simp; omega) _).alloc (by simp; omega) _
structure Ld (w : World) : Prop where
 names : NamesAt w
 pow : PowAt w
 err : ErrAt w
 max : ∃ m, w.cell? ⟨1, 0, none⟩ = some (.int .i64 m)
theorem Ld.later {w w' : World} (h : Ld w) (k : Below w.heap.size w w') : Ld w' := by
 obtain ⟨m, hm⟩ := h.max
 exact ⟨h.names.later k h.names.lt, h.pow.later k, h.err.later k, m, cell_later hm k⟩
theorem readAny (l : List (List UInt8)) (t : List UInt8) (T : ByteArray) (r : Pg × Nat) (w : World) (h : Ld w) (hl : ∀ b ∈ l, (10 : UInt8) ∉ b) (ht : (10 : UInt8) ∉ t) (hlen : (lnsT l ++ t).length ≤ 9000000) (hT : textB (lnsT l ++ t) = T) (hr : rdZ ⟨[], []⟩ l t 1 = r) :
  Calls Tryz.prog 18 #[.string T] w (RdPost r w) := by
 obtain ⟨m, hm⟩ := h.max
 subst hT
 subst hr
 exact read10 l t m w hl ht hlen hm h.names h.err h.pow
section
open Go.ChangeShapes Go.WideShapes Go.ChangeAt Go.RowKit
theorem ld_of_row {W : World} (h0 : laidMetH Tryz.prog LAID W) (hS : W.ShapedOpen Tryz.prog) : Ld W :=
 let h := laid_parts h0 hS
 ⟨h.names, h.pow, h.err, h.max⟩
def zB32 : List Int := [0, 1, 28, 2, 29, 14, 24, 3, 30, 22, 20, 15, 25, 17, 4, 8, 31, 27, 13, 23, 21, 19, 16, 7, 26, 12, 18, 6, 11, 5, 10, 9]
def zB64 : List Int := [0, 1, 56, 2, 57, 49, 28, 3, 61, 58, 42, 50, 38, 29, 17, 4, 62, 47, 59, 36, 45, 43, 51, 22, 53, 39, 33, 30, 24, 18, 12, 5, 63, 55, 48, 27, 60, 41, 37, 16, 46, 35, 44, 21, 52, 32, 23, 11, 54, 26, 40, 15, 34, 20, 31, 10, 25, 14, 19, 9, 13, 8, 7, 6]
def zAcc : List Int := [128, 191, 160, 191, 128, 159, 144, 191, 128, 143, 0, 0, 0, 0, 0, 0, 0, 0, 0, 0, 0, 0, 0, 0, 0, 0, 0, 0, 0, 0, 0, 0]
def putG (h : Array Obj) (g : Nat) (cs : Array Value) : Array Obj := h.modify g fun
 | .cells _ t frozen => .cells cs t frozen
 | o => o
noncomputable def laidWorld (os : Os) : World :=
 let N := (World.settled Tryz.prog os).heap.size
 let w0 := World.holding Tryz.prog os ⟨#[.cells #[.string ⟨#[118, 97, 108, 117, 101, 32, 111, 117, 116, 32, 111, 102, 32, 114, 97, 110, 103, 101]⟩] 159, .cells #[.string ⟨#[105, 110, 118, 97, 108, 105, 100, 32, 115, 121, 110, 116, 97, 120]⟩] 159], #[], []⟩
 let h0 := putG w0.heap 0 (nmL.map Value.string).toArray
 let h1 := putG h0 2 (Lib.pow10Tab.map (Value.int .u64)).toArray
 let h2 := putG h1 3 #[.iface 157 (.pointer (some ⟨N + 1, 0, none⟩))]
 let h3 := putG h2 4 #[.iface 157 (.pointer (some ⟨N, 0, none⟩))]
 let h4 := putG h3 5 (Lib.firstTab.map (Value.int .u8)).toArray
 let h5 := putG h4 6 (zAcc.map (Value.int .u8)).toArray
 let h6 := putG h5 7 (zB32.map (Value.int .u8)).toArray
 let h7 := putG h6 8 (zB64.map (Value.int .u8)).toArray
 { w0 with heap := h7 }
end
end Go.Proofs.YtcpgneimagmknaaGreatDoor
