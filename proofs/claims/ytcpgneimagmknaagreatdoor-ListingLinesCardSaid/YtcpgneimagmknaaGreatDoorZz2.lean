import Derived.Test.YtcpgneimagmknaaGreatDoorZz1
namespace Go.Proofs.YtcpgneimagmknaaGreatDoor
open Go.RowKit
set_option linter.unusedVariables false
set_option linter.unusedSimpArgs false
noncomputable def rgO (x : In) (o : Nat) : List UInt8 → In × Bool
 | 114 :: r => (riO x o r, riB r)
 | _ => (x, false)
def RoPost (y : In × Bool) (g : Nat) (w : World) (e : Ending) (w' : World) : Prop := e = .returned (.bool y.2) ∧ InW w w' g y.1
theorem text_ne0 (c : UInt8) (r : List UInt8) : ((textB (c :: r)).toList == (⟨#[]⟩ : ByteArray).toList) = false := text_ne fun h => by
 have := congrArg (fun b => b.data.toList) h
 simp [textB] at this
theorem text_tail (c : UInt8) (r : List UInt8) : (textB (c :: r)).extract 1 (textB (c :: r)).size = textB r := by
 have := @cut_drop (c :: r) 1
 rw [textB_size]
 rw [this]; rfl
set_option maxHeartbeats 4000000 in
theorem regRead (o g gc : Nat) (x : In) (bs : List UInt8) (w : World) (hL : Lies w g 28 (inC x)) (hC : Lies w gc 95 #[fnV (fldF o)]) (hbs : bs.length ≤ 140737488355328) (hE : ErrAt w) (hp : PowAt w) :
  Calls Tryz.prog 72 #[.pointer (some ⟨g, 0, none⟩), .string (textB bs), .pointer (some ⟨gc, 0, none⟩)] w (RoPost (rgO x o bs) g w) := by
 have HL := Lib.hid hL
 have HC := Lib.hid hC
 have HE := Lib.hid hE
 have HP := Lib.hid hp
 have HI : Hid (InW w w g x) := ⟨hL, Kept.refl _ _⟩
 clear hL hC hE hp
 cases bs with
 | nil =>
  rw [show textB [] = (⟨#[]⟩ : ByteArray) from rfl]
  go_enter Tryz.func72, Tryz.ntmps72
  go_wp2
  go_ret
  exact ⟨rfl, HI.out⟩
 | cons c r =>
  have e0 := text_ne0 c r
  have hz : (textB (c :: r)).size = r.length + 1 := by rw [textB_size]; rfl
  have htl := text_tail c r
  have hx0 : ((textB (c :: r))[0]'(by omega)).toNat = c.toNat := rfl
  by_cases hc : c = 114
  ·subst hc
   have HX : Hid (rgO x o (114 :: r) = (riO x o r, riB r)) := rfl
   have HRI := Lib.hid (readInt_any o g x r w.drew HL.out.drew (by simp at hbs; omega) (HE.out.later (below_drewN (Below.refl _ _) 1)) (HP.out.later (below_drewN (Below.refl _ _) 1)))
   obtain ⟨T, hT⟩ : ∃ T, T = textB (114 :: r) := ⟨_, rfl⟩
   rw [← hT] at e0 hz htl ⊢
   have h1z : 0 < T.size := by omega
   have e1 : T.toList.isEmpty = false := by rw [ByteArray.toList_eq]; cases hd : T.data.toList with | nil => (have : T.size = 0 := by (show T.data.size = 0; rw [← Array.length_toList, hd]; rfl)); omega | cons a b => rfl
   have hx1 : (T[0]'h1z).toNat = 114 := by subst hT; rfl
   have htl2 : T.extract 1 (r.length + 1) = textB r := by rw [← hz]; exact htl
   have HNE := Lib.hid (show ¬ gc = g from fun e => by subst e; exact absurd (HL.out.same HC.out).1 (by decide))
   clear hx0 hT
   go_enter Tryz.func72, Tryz.ntmps72
   go_wp2_with fail
   have hen := enterFl o
   have hfp := fldP o g 0
   rw [Nat.zero_add] at hfp
   have HFP := Lib.hid hfp
   generalize hF : fldF o = F at *
   have HEN := Lib.hid hen
   refine wp_region_held_drew (S := fun y => Lies y gc 95 #[fnV F]) (by kernel_rfl) HC.out.drew (fun hHeld => ?_)
   clear HC hfp hen
   try simp only [Act.put, List.setIfInBounds_toArray, List.set_cons_zero, List.set_cons_succ]
   refine wpAnyH_take (i := 0) (v := (fnV F)) rfl (by kernel_rfl) (by kernel_rfl) (by kernel_rfl) (fun _ _ _ h => h) (Or.inl ⟨by rfl, fun w h => by (simp only [List.getElem_toArray, List.getElem_cons_succ, List.getElem_cons_zero]; have h1 := h.cell 0; simp at h1; clear h; go_simp)⟩) (by assumption) ?_
   simp only [Act.put, List.getElem_toArray, List.getElem_cons_succ, List.getElem_cons_zero, List.setIfInBounds_toArray, List.set_cons_zero, List.set_cons_succ]
   refine wpAnyH_take (i := 1) (v := (.pointer (some ⟨g, 0, none⟩))) rfl (by kernel_rfl) (by kernel_rfl) (by kernel_rfl) (fun _ _ _ h => h) (Or.inl ⟨by rfl, fun w h => by (simp only [List.getElem_toArray, List.getElem_cons_succ, List.getElem_cons_zero]; clear h; go_simp)⟩) (by assumption) ?_
   simp only [Act.put, List.getElem_toArray, List.getElem_cons_succ, List.getElem_cons_zero, List.setIfInBounds_toArray, List.set_cons_zero, List.set_cons_succ]
   refine wpAnyH_take (i := 3) (v := (.string T)) rfl (by kernel_rfl) (by kernel_rfl) (by kernel_rfl) (fun _ _ _ h => h) (Or.inl ⟨by rfl, fun w h => by (simp only [List.getElem_toArray, List.getElem_cons_succ, List.getElem_cons_zero]; clear h; go_simp)⟩) (by assumption) ?_
   simp only [Act.put, List.getElem_toArray, List.getElem_cons_succ, List.getElem_cons_zero, List.setIfInBounds_toArray, List.set_cons_zero, List.set_cons_succ]
   refine wpAnyH_take (i := 4) (v := (.string (textB r))) rfl (by kernel_rfl) (by kernel_rfl) (by kernel_rfl) (fun _ _ _ h => h) (Or.inl ⟨by rfl, fun w h => by (simp only [List.getElem_toArray, List.getElem_cons_succ, List.getElem_cons_zero]; clear h; go_simp; intro h9; omega)⟩) (by assumption) ?_
   simp only [Act.put, List.getElem_toArray, List.getElem_cons_succ, List.getElem_cons_zero, List.setIfInBounds_toArray, List.set_cons_zero, List.set_cons_succ]
   have hen := HEN.out
   refine wpAnyH_ready (rs := [2]) (by kernel_rfl) (by simp) ?_
   refine AllReadyH.cons rfl (fun K hK => ?_) AllReadyH.nil
   rw [if_pos (by rfl)]
   go_wp2_with fail
   refine (HFP.out _).mono ?_
   rintro e q ⟨rfl, rfl⟩
   dsimp only
   refine hK.out _ _ hHeld (fun hHeld1 => ?_)
   clear hK K hHeld1
   try simp only [Act.put, List.setIfInBounds_toArray, List.set_cons_zero, List.set_cons_succ]
   refine wpAnyH_ready (rs := [5]) (by kernel_rfl) (by simp) ?_
   refine AllReadyH.cons rfl (fun K hK => ?_) AllReadyH.nil
   rw [if_pos (by rfl)]
   go_wp2_with fail
   refine HRI.out.mono ?_
   rintro e q ⟨rfl, hiw⟩
   dsimp only
   refine hK.out _ _ (hHeld.kept hiw.2 (fun (e : gc = g) => HNE.out e)) (fun hHeld1 => ?_)
   clear hK K hHeld
   try simp only [Act.put, List.setIfInBounds_toArray, List.set_cons_zero, List.set_cons_succ]
   refine wpAnyH_take (i := 6) (v := (.bool (riB r))) rfl (by kernel_rfl) (by kernel_rfl) (by kernel_rfl) (fun _ _ _ h => h) (Or.inl ⟨by rfl, fun w h => by (simp only [List.getElem_toArray, List.getElem_cons_succ, List.getElem_cons_zero]; clear h; go_simp)⟩) (by assumption) ?_
   simp only [Act.put, List.getElem_toArray, List.getElem_cons_succ, List.getElem_cons_zero, List.setIfInBounds_toArray, List.set_cons_zero, List.set_cons_succ]
   refine wpAnyH_done (by kernel_rfl) ?_ _
   go_wp2
   go_ret
   exact ⟨by rw [HX.out]; rfl, by rw [HX.out]; exact ⟨hiw.1, (Kept.drew _ w).trans hiw.2 (fun _ _ h => h)⟩⟩
  ·have hne : c.toNat ≠ 114 := fun h => hc (UInt8.toNat_inj.1 h)
   have HX : Hid (rgO x o (c :: r) = (x, false)) := by
    show _ = _
    unfold rgO
    split
    ·rename_i h; exact absurd (List.cons.inj h).1 hc
    ·rfl
   obtain ⟨T, hT⟩ : ∃ T, T = textB (c :: r) := ⟨_, rfl⟩
   rw [← hT] at e0 hz htl ⊢
   have h1z : 0 < T.size := by omega
   have e1 : T.toList.isEmpty = false := by rw [ByteArray.toList_eq]; cases hd : T.data.toList with | nil => (have : T.size = 0 := by (show T.data.size = 0; rw [← Array.length_toList, hd]; rfl)); omega | cons a b => rfl
   have hx1 : (T[0]'h1z).toNat = c.toNat := by subst hT; rfl
   have e2 : ((c.toNat : Int) == 114) = false := by rw [beq_eq_false_iff_ne]; omega
   clear hx0 hT
   go_enter Tryz.func72, Tryz.ntmps72
   go_wp2
   go_ret
   exact ⟨by rw [HX.out]; rfl, by rw [HX.out]; exact HI.out⟩
set_option maxHeartbeats 4000000 in
theorem ringRead (g : Nat) (x : In) (bs : List UInt8) (w : World) (hL : Lies w g 28 (inC x)) (hbs : bs.length ≤ 140737488355328) (hE : ErrAt w) (hp : PowAt w) :
  Calls Tryz.prog 79 #[.pointer (some ⟨g, 0, none⟩), .string (textB bs)] w (RoPost (riO x 82 bs, riB bs) g w) := by
 have HR : Hid (Calls Tryz.prog 73 #[.pointer (some ⟨g, 3, none⟩), .string (textB bs)] w (RiPost 82 g x bs w)) := readInt_any 82 g x bs w hL hbs hE hp
 clear hL hE hp
 go_enter Tryz.func79, Tryz.ntmps79
 go_wp2_with fail
 refine HR.out.mono ?_
 rintro e w1 ⟨rfl, hi⟩
 have HI := Lib.hid hi
 clear hi
 go_wp2
 go_ret
 exact ⟨rfl, HI.out⟩
set_option maxHeartbeats 4000000 in
theorem numRead (g : Nat) (x : In) (bs : List UInt8) (w : World) (hL : Lies w g 28 (inC x)) (hbs : bs.length ≤ 140737488355328) (hE : ErrAt w) (hp : PowAt w) :
  Calls Tryz.prog 76 #[.pointer (some ⟨g, 0, none⟩), .string (textB bs)] w (RoPost ({ x with k := numV bs }, numB bs) g w) := by
 have H := Lib.hid (decimal_any bs w hbs hE hp)
 have HL := Lib.hid hL
 clear hE hp hL
 go_enter Tryz.func76, Tryz.ntmps76
 go_wp2_with fail
 refine H.out.mono ?_
 rintro e w1 ⟨rfl, hb1⟩
 have HW := Lib.hid (InW.of_below HL.out hb1)
 clear hb1 H
 have HW2 : Hid (InW w (w1.setCell ⟨g, 5, none⟩ (.int .u64 (numV bs : Nat))) g { x with k := numV bs }) := HW.out.put 5 _ rfl
 have gl := HW.out.1.lt
 have fr := HW.out.1.free 5
 have c5 := (HW.out.1.cell 5).trans (show _ = some (Value.int .u64 (x.k : Int)) from rfl)
 go_wp2
 go_ret
 exact ⟨rfl, HW2.out⟩
theorem text_inj {a b : List UInt8} (h : textB a = textB b) : a = b := by
 have := congrArg (fun b => b.data.toList) h
 simpa [textB] using this
theorem mdIx0 (a b c : ByteArray) (W : World) : (Instr.index 110 (.agg #[.string a, .string b, .string c]) (.int .i64 0)).run Tryz.prog W = .ok (.string a) W := by kernel_rfl
theorem mdIx1 (a b c : ByteArray) (W : World) : (Instr.index 110 (.agg #[.string a, .string b, .string c]) (.int .i64 1)).run Tryz.prog W = .ok (.string b) W := by kernel_rfl
theorem mdIx2 (a b c : ByteArray) (W : World) : (Instr.index 110 (.agg #[.string a, .string b, .string c]) (.int .i64 2)).run Tryz.prog W = .ok (.string c) W := by kernel_rfl
def moW : Nat → List UInt8 | 0 => [116, 114, 121] | 1 => [119, 97, 105, 116] | _ => [116, 105, 109, 101, 100]
def moO (x : In) (bs : List UInt8) : In × Bool :=
 if bs = moW 0 then ({ x with d := 0 }, true) else if bs = moW 1 then ({ x with d := 1 }, true) else if bs = moW 2 then ({ x with d := 2 }, true) else (x, false)
theorem moO_at {x : In} {bs : List UInt8} : ∀ {k : Nat}, k < 3 → (∀ j, j < k → bs ≠ moW j) → bs = moW k → moO x bs = ({ x with d := (k : Int) }, true)
 | 0, _, _, e => if_pos e
 | 1, _, h, e => by unfold moO; rw [if_neg (h 0 (by decide)), if_pos e]; rfl
 | 2, _, h, e => by unfold moO; rw [if_neg (h 0 (by decide)), if_neg (h 1 (by decide)), if_pos e]; rfl
 | k + 3, h, _, _ => by omega
theorem moO_no {x : In} {bs : List UInt8} (h : ∀ j, j < 3 → bs ≠ moW j) : moO x bs = (x, false) := by
 unfold moO
 rw [if_neg (h 0 (by decide)), if_neg (h 1 (by decide)), if_neg (h 2 (by decide))]
set_option maxHeartbeats 8000000 in
set_option maxRecDepth 100000 in
theorem modeRead (g gc : Nat) (x : In) (bs : List UInt8) (w : World) (hL : Lies w g 28 (inC x)) (hC : Lies w gc 110 mdC) :
  Calls Tryz.prog 81 #[.pointer (some ⟨g, 0, none⟩), .string (textB bs), .pointer (some ⟨gc, 0, none⟩)] w (RoPost (moO x bs) g w) := by
 have HI : Hid (InW w w g x) := ⟨hL, Kept.refl _ _⟩
 have cl := hC.lt
 obtain ⟨T0, h0⟩ : ∃ T, T = (⟨#[116, 114, 121]⟩ : ByteArray) := ⟨_, rfl⟩
 obtain ⟨T1, h1⟩ : ∃ T, T = (⟨#[119, 97, 105, 116]⟩ : ByteArray) := ⟨_, rfl⟩
 obtain ⟨T2, h2⟩ : ∃ T, T = (⟨#[116, 105, 109, 101, 100]⟩ : ByteArray) := ⟨_, rfl⟩
 have k0 := (hC.cell 0).trans (show _ = some (Value.string T0) by rw [h0]; rfl)
 have k1 := (hC.cell 1).trans (show _ = some (Value.string T1) by rw [h1]; rfl)
 have k2 := (hC.cell 2).trans (show _ = some (Value.string T2) by rw [h2]; rfl)
 have HL := Lib.hid hL
 have H0 := Lib.hid h0
 have H1 := Lib.hid h1
 have H2 := Lib.hid h2
 clear h0 h1 h2
 clear hL hC
 go_enter Tryz.func81, Tryz.ntmps81
 go_wp2_with fail
 clear k0 k1 k2 cl
 go_loopw [9] (fun u wr => ∃ k : Nat, k ≤ 3 ∧ u = .int .i64 k ∧ Hid (∀ j, j < k → bs ≠ moW j) ∧ wr = w) (fun u _ => 3 - (intOf u).toNat)
 case atStart => exact ⟨0, by omega, rfl, (fun j hj => by omega), rfl⟩
 case round =>
  obtain ⟨k, hk, rfl, HNO, rfl⟩ := hrel
  rcases (show k = 0 ∨ k = 1 ∨ k = 2 ∨ k = 3 by omega) with rfl | rfl | rfl | rfl
  ·rw [show ((0 : Nat) : Int) = 0 from rfl]
   have hix := mdIx0 T0 T1 T2
   by_cases he : bs = moW 0
   ·have HX := Lib.hid (moO_at (x := x) (by decide) HNO.out he)
    have HW2 : Hid (InW wr (wr.setCell ⟨g, 4, none⟩ (.int .i64 0)) g { x with d := (0 : Int) }) := HI.out.put 4 _ rfl
    have hT : textB bs = T0 := by rw [he, H0.out]; rfl
    rw [hT]
    clear he hT
    have gl := HL.out.lt
    have fr := HL.out.free 4
    have c4 := (HL.out.cell 4).trans (show _ = some (Value.int .i64 x.d) from rfl)
    go_wp2
    go_ret
    exact ⟨by rw [HX.out]; rfl, by rw [HX.out]; exact HW2.out⟩
   ·have hne : (T0.toList == (textB bs).toList) = false := text_ne fun h => he (text_inj (a := bs) (b := moW 0) (by rw [← h, H0.out]; rfl))
    have HN2 : Hid (∀ j, j < 0 + 1 → bs ≠ moW j) := fun j hj => by
     by_cases e : j = 0
     ·rw [e]; exact he
     ·exact HNO.out j (by omega)
    clear he
    go_wp2
    go_roundw
    case rel => exact ⟨0 + 1, by omega, by go_num, HN2, trivial⟩
    case measure => simp [intOf]
  ·rw [show ((1 : Nat) : Int) = 1 from rfl]
   have hix := mdIx1 T0 T1 T2
   by_cases he : bs = moW 1
   ·have HX := Lib.hid (moO_at (x := x) (by decide) HNO.out he)
    have HW2 : Hid (InW wr (wr.setCell ⟨g, 4, none⟩ (.int .i64 1)) g { x with d := (1 : Int) }) := HI.out.put 4 _ rfl
    have hT : textB bs = T1 := by rw [he, H1.out]; rfl
    rw [hT]
    clear he hT
    have gl := HL.out.lt
    have fr := HL.out.free 4
    have c4 := (HL.out.cell 4).trans (show _ = some (Value.int .i64 x.d) from rfl)
    go_wp2
    go_ret
    exact ⟨by rw [HX.out]; rfl, by rw [HX.out]; exact HW2.out⟩
   ·have hne : (T1.toList == (textB bs).toList) = false := text_ne fun h => he (text_inj (a := bs) (b := moW 1) (by rw [← h, H1.out]; rfl))
    have HN2 : Hid (∀ j, j < 1 + 1 → bs ≠ moW j) := fun j hj => by
     by_cases e : j = 1
     ·rw [e]; exact he
     ·exact HNO.out j (by omega)
    clear he
    go_wp2
    go_roundw
    case rel => exact ⟨1 + 1, by omega, by go_num, HN2, trivial⟩
    case measure => simp [intOf]
  ·rw [show ((2 : Nat) : Int) = 2 from rfl]
   have hix := mdIx2 T0 T1 T2
   by_cases he : bs = moW 2
   ·have HX := Lib.hid (moO_at (x := x) (by decide) HNO.out he)
    have HW2 : Hid (InW wr (wr.setCell ⟨g, 4, none⟩ (.int .i64 2)) g { x with d := (2 : Int) }) := HI.out.put 4 _ rfl
    have hT : textB bs = T2 := by rw [he, H2.out]; rfl
    rw [hT]
    clear he hT
    have gl := HL.out.lt
    have fr := HL.out.free 4
    have c4 := (HL.out.cell 4).trans (show _ = some (Value.int .i64 x.d) from rfl)
    go_wp2
    go_ret
    exact ⟨by rw [HX.out]; rfl, by rw [HX.out]; exact HW2.out⟩
   ·have hne : (T2.toList == (textB bs).toList) = false := text_ne fun h => he (text_inj (a := bs) (b := moW 2) (by rw [← h, H2.out]; rfl))
    have HN2 : Hid (∀ j, j < 2 + 1 → bs ≠ moW j) := fun j hj => by
     by_cases e : j = 2
     ·rw [e]; exact he
     ·exact HNO.out j (by omega)
    clear he
    go_wp2
    go_roundw
    case rel => exact ⟨2 + 1, by omega, by go_num, HN2, trivial⟩
    case measure => simp [intOf]
  ·have HX := Lib.hid (moO_no (x := x) HNO.out)
   go_wp2
   go_ret
   exact ⟨by rw [HX.out]; rfl, by rw [HX.out]; exact HI.out⟩
def WrPost (x : In) (o : Nat) (w : World) (e : Ending) (w' : World) : Prop := e = .returned (.string (textB (wrO x o))) ∧ Below w.heap.size w w'
theorem enterRg (a : Array Value) (wx : World) : (callFunc 71 a).run Tryz.prog wx = .ok (.enter 71 a) wx := by kernel_rfl
theorem enterRi (a : Array Value) (wx : World) : (callFunc 78 a).run Tryz.prog wx = .ok (.enter 78 a) wx := by kernel_rfl
theorem enterNu (a : Array Value) (wx : World) : (callFunc 74 a).run Tryz.prog wx = .ok (.enter 74 a) wx := by kernel_rfl
theorem enterMo (a : Array Value) (wx : World) : (callFunc 80 a).run Tryz.prog wx = .ok (.enter 80 a) wx := by kernel_rfl
theorem write_any {o : Nat} {x : In} (g : Nat) (ho : o = 65 ∨ o = 66 ∨ o = 82 ∨ o = 67 ∨ o = 68 ∨ o = 75) (hx : InIn x) :
  ∃ n m, (∀ (a : Array Value) (wx : World), (callFunc n a).run Tryz.prog wx = .ok (.enter n a) wx) ∧
   ((opV o g = [fnV n, fnV m] ∧ ∀ w, OdAt w o g → PowAt w → Calls Tryz.prog n #[.agg (inC x)] w (WrPost x o w)) ∨
   (opV o g = [capV n g, capV m g] ∧ ∀ w, OdAt w o g → PowAt w → Calls Tryz.prog n #[.agg (inC x), .pointer (some ⟨g, 0, none⟩)] w (WrPost x o w))) := by
 rcases ho with rfl | rfl | rfl | rfl | rfl | rfl
 ·refine ⟨_, _, enterRg, .inr ⟨rfl, fun w h hp => ?_⟩⟩
  unfold OdAt at h
  rw [if_neg (by decide), if_neg (by decide)] at h
  exact (regWrite 65 g x w hx h hp)
 ·refine ⟨_, _, enterRg, .inr ⟨rfl, fun w h hp => ?_⟩⟩
  unfold OdAt at h
  rw [if_neg (by decide), if_neg (by decide)] at h
  exact (regWrite 66 g x w hx h hp)
 ·refine ⟨_, _, enterRg, .inr ⟨rfl, fun w h hp => ?_⟩⟩
  unfold OdAt at h
  rw [if_neg (by decide), if_neg (by decide)] at h
  exact (regWrite 82 g x w hx h hp)
 ·exact ⟨_, _, enterRi, .inl ⟨rfl, fun w _ hp => ringWrite x w hx hp⟩⟩
 ·refine ⟨_, _, enterMo, .inr ⟨rfl, fun w h hp => ?_⟩⟩
  unfold OdAt at h
  rw [if_neg (by decide), if_pos rfl] at h
  exact modeWrite g x w hx h
 ·exact ⟨_, _, enterNu, .inl ⟨rfl, fun w _ hp => numWrite x w hx hp⟩⟩
theorem SeqS.cells1 {w : World} {v : Value} {n : Nat} {xs : List Value} (h : SeqS w 1 v n xs) (hn : 0 < n) : ∃ b off c, v = .slice (some ⟨b, off, none⟩) n c ∧ n ≤ c ∧ c ≤ maxLen ∧ b < w.heap.size ∧ ∀ k u, xs[k]? = some u → w.cell? ⟨b, off + k, none⟩ = some u := by
 obtain ⟨h1, A, c, rfl, h2, h3, h0, h4⟩ := h
 obtain ⟨b, off, rfl, hc⟩ := h4 0 (xs[0]'(by omega)) (List.getElem?_eq_getElem (by omega))
 refine ⟨b, off, c, rfl, h2, h3, World.block_lt_of_cell? w _ hc, fun k u hu => ?_⟩
 obtain ⟨b2, off2, e, hc2⟩ := h4 k u hu
 cases e
 exact hc2
def wdL (x : In) (l : List Nat) : List (List UInt8) := nmT x.op :: l.map (wrO x)
theorem join_ln (x : In) (l : List Nat) : Lib.join ((wdL x l).map fun b => (textB b).data.toList) (⟨#[32]⟩ : ByteArray).data.toList = nmT x.op ++ wdO x l := by
 have e : (wdL x l).map (fun b => (textB b).data.toList) = wdL x l := by
  refine (List.map_congr_left (g := id) fun b _ => ?_).trans (List.map_id _)
  exact List.toList_toArray
 rw [e]
 unfold wdL wdO
 rw [Lib.join_cons]
 refine congrArg _ ?_
 unfold Lib.joinTail
 rw [List.flatMap, List.map_map]
 rfl
def lnT (x : In) : ByteArray := if rightB x = true then textB (lnI x) else ⟨#[]⟩
def lnE (x : In) : Int := if rightB x = true then 0 else 1
set_option maxHeartbeats 8000000 in
set_option maxRecDepth 100000 in
theorem line_any (x : In) (w : World) (hn : NamesAt w) (hp : PowAt w) : Calls Tryz.prog 13 #[.agg (inC x)] w fun e w' => e = .returned (.tuple #[.string (lnT x), .int .i64 (lnE x)]) ∧ Below w.heap.size w w' := by
 have HL := Lib.hid (Lies.made w 28 (inC x))
 have HB := Lib.hid ((Below.refl w.heap.size w).alloc (Nat.le_refl _) (.cells (inC x) 28))
 have HN := Lib.hid hn
 have HP := Lib.hid hp
 have HG := Lib.hid hn.lt
 have HR := Lib.hid (right_any x)
 have hst := storeFn
 clear hn hp
 go_enter Tryz.func13, Tryz.ntmps13
 go_upto_region 1 with (fail)
 obtain ⟨q, hq⟩ : ∃ q, q = w.heap.size := ⟨_, rfl⟩
 rw [← hq] at HL ⊢
 clear hq
 generalize w.alloc (.cells (inC x) 28) = w1 at *
 have ql := HL.out.lt
 have c0 := (HL.out.cell 0).trans (show _ = some (Value.int .i64 x.op) from rfl)
 have c1 := (HL.out.cell 1).trans (show _ = some (Value.int .i64 x.a) from rfl)
 have c2 := (HL.out.cell 2).trans (show _ = some (Value.int .i64 x.b) from rfl)
 have c3 := (HL.out.cell 3).trans (show _ = some (Value.int .i64 x.c) from rfl)
 have c4 := (HL.out.cell 4).trans (show _ = some (Value.int .i64 x.d) from rfl)
 have c5 := (HL.out.cell 5).trans (show _ = some (Value.int .u64 (x.k : Int)) from rfl)
 go_wp2_with fail
 refine (HR.out w1).mono ?_
 rintro e w2 ⟨rfl, hb2⟩
 have HL2 := Lib.hid (HL.out.below hb2 HL.out.lt)
 have HB2 := Lib.hid (HB.out.trans (hb2.mono HB.out.size))
 clear hb2 HL HB HR c0 c1 c2 c3 c4 c5 ql
 by_cases hr : rightB x = true
 case neg =>
  have HE : Hid (lnT x = ⟨#[]⟩ ∧ lnE x = 1) := ⟨if_neg hr, if_neg hr⟩
  rw [Bool.not_eq_true] at hr
  rw [hr]
  go_wp2
  go_ret2
  exact ⟨by rw [HE.out.1, HE.out.2]; rfl, HB2.out⟩
 have HE : Hid (lnT x = textB (lnI x) ∧ lnE x = 0) := ⟨if_pos hr, if_pos hr⟩
 have HIN := Lib.hid (right_in10 hr)
 have hin := right_in10 hr
 rw [hr]
 clear hr
 have c0 := (HL2.out.cell 0).trans (show _ = some (Value.int .i64 x.op) from rfl)
 have ql := HL2.out.lt
 have HNM := Lib.hid (name_any x.op w2 (NamesAt.later HN.out HB2.out HG.out))
 go_wp2_with fail
 refine HNM.out.mono ?_
 rintro e w3 ⟨rfl, rfl⟩
 clear HNM c0 ql
 go_upto_region 4 with (fail)
 have HL3 := Lib.hid (HL2.out.alloc (.cells #[.string (nmB x.op)] 9))
 have HB3 := Lib.hid (HB2.out.alloc HB2.out.size (.cells #[.string (nmB x.op)] 9))
 have HO3 := Lib.hid (show (w2.alloc (.cells #[.string (nmB x.op)] 9)).ownsRow w.heap.size 9 1 (.slice (some ⟨w2.heap.size, 0, none⟩) 1 1) (0 + 1) (cellsW (wdL x ((odL x.op).take 0))) from World.ownsRow_lit (base := w.heap.size) (e := 9) (size := 1) w2 #[.string (nmB x.op)] 1 HB2.out.size (by unfold maxLen; omega) rfl)
 clear HL2 HB2
 have c0 := (HL3.out.cell 0).trans (show _ = some (Value.int .i64 x.op) from rfl)
 have ql := HL3.out.lt
 obtain ⟨p1, hp1⟩ : ∃ p, p = w2.heap.size := ⟨_, rfl⟩
 rw [← hp1] at HO3
 simp only [← hp1]
 clear hp1
 generalize w2.alloc (.cells #[.string (nmB x.op)] 9) = w3 at *
 have HOP := Lib.hid (opsPre x.op w3 (by omega))
 go_wp2_with fail
 refine HOP.out.mono ?_
 rintro e w4 ⟨v, rfl, ho, hb4⟩
 rw [show odG x.op = odL x.op from if_neg (by omega)] at ho
 obtain ⟨gs, hgl, hOG⟩ := ho
 obtain ⟨A9, c9, rfl, hnc, hcm, _⟩ := (SeqS.of_owns hOG.1).form
 have HOG := Lib.hid hOG
 have HL4 := Lib.hid (HL3.out.below hb4 HL3.out.lt)
 have HB4 := Lib.hid (HB3.out.trans (hb4.mono HB3.out.size))
 have HO4 := Lib.hid (owned_below HO3.out hb4)
 obtain ⟨L, hL⟩ : ∃ L, L = odL x.op := ⟨_, rfl⟩
 have HLM := Lib.hid (odL_mem x.op)
 have HLL := Lib.hid (show textB (lnI x) = textB (nmT x.op ++ wdO x L) by rw [hL]; rfl)
 have hl5 := odL_length x.op
 rw [← hL] at HOG HLM hgl hnc HO4 hl5 ⊢
 clear hOG hb4 HL3 HB3 HO3 HOP c0 ql hin hL
 have hnn : (L.length : Int) ≤ 5 := by omega
 go_wp2_with fail
 go_loopw [4, 18] (fun v t wr => ∃ k : Nat, k ≤ L.length ∧ t = .int .i64 k ∧ Hid (wr.ownsRow w.heap.size 9 1 v (k + 1) (cellsW (wdL x (L.take k)))) ∧ Hid (OpG wr w3.heap.size L gs (.slice A9 L.length c9)) ∧ Hid (Lies wr q 28 (inC x)) ∧ Hid (Below w.heap.size w wr)) (fun _ t _ => L.length - (intOf t).toNat)
 case atStart => exact ⟨0, by omega, rfl, HO4.out, HOG.out, HL4.out, HB4.out⟩
 case round =>
  clear HOG HL4 HB4 HO4
  obtain ⟨k, hk, rfl, HO, HG9, HL5, HB5⟩ := hrel
  by_cases hlt : k < L.length
  ·have hki : (k : Int) < (L.length : Int) := by omega
   obtain ⟨o, ho⟩ : ∃ o, L[k]? = some o := ⟨_, List.getElem?_eq_getElem hlt⟩
   obtain ⟨g, hg⟩ : ∃ g, gs[k]? = some g := ⟨_, List.getElem?_eq_getElem (by omega)⟩
   have HTK := Lib.hid (show L.take (k + 1) = L.take k ++ [o] by rw [List.take_add_one, ho]; rfl)
   have HOD := Lib.hid (HG9.out.2 k o g ho hg)
   obtain ⟨b9, o9, c9', he9, _, _, hc9⟩ := (SeqS.of_owns HG9.out.1).elem hlt (by decide)
   cases he9
   have HC := Lib.hid hc9
   clear hc9
   obtain ⟨nf, mf, hen, hcase⟩ := write_any (x := x) g (HLM.out o (List.mem_of_getElem? ho)) HIN.out
   rcases hcase with ⟨hov, hcall⟩ | ⟨hov, hcall⟩
   ·have d0 := HC.out 0 _ (by decide) ((opsL_get ho hg (by decide)).trans (by rw [hov]; rfl))
    have d1 := HC.out 1 _ (by decide) ((opsL_get ho hg (by decide)).trans (by rw [hov]; rfl))
    have HW := Lib.hid hcall
    have HEN := Lib.hid hen
    clear hcall hen hov HC
    have bl := World.block_lt_of_cell? wr _ d0
    try simp only [Nat.add_zero] at d0
    go_upto_region 7 with (fail)
    have HL6 := Lib.hid (HL5.out.alloc (.cells #[fnV nf, fnV mf] 61))
    have HO6 := Lib.hid (owned_below HO.out ((Below.refl wr.heap.size wr).alloc (Nat.le_refl _) (.cells #[fnV nf, fnV mf] 61)))
    have HG6 := Lib.hid (HG9.out.later ((Below.refl wr.heap.size wr).alloc (Nat.le_refl _) (.cells #[fnV nf, fnV mf] 61)))
    have HB6 := Lib.hid (HB5.out.alloc HB5.out.size (.cells #[fnV nf, fnV mf] 61))
    have HD6 := Lib.hid (OdAt.below HOD.out ((Below.refl wr.heap.size wr).alloc (Nat.le_refl _) (.cells #[fnV nf, fnV mf] 61)))
    have HX6 := Lib.hid (Lies.made wr 61 #[fnV nf, fnV mf])
    obtain ⟨p6, hp6⟩ : ∃ p, p = wr.heap.size := ⟨_, rfl⟩
    rw [← hp6] at HX6
    simp only [← hp6]
    clear d0 d1 bl HL5 HO HG9 HB5 HOD hp6
    generalize wr.alloc (.cells #[fnV nf, fnV mf] 61) = w6 at *
    have xl := HX6.out.lt
    have x0 := (HX6.out.cell 0).trans (show _ = some ((fnV nf)) from rfl)
    have ql := HL6.out.lt
    have c0 := (HL6.out.cell 0).trans (show _ = some (Value.int .i64 x.op) from rfl)
    have c1 := (HL6.out.cell 1).trans (show _ = some (Value.int .i64 x.a) from rfl)
    have c2 := (HL6.out.cell 2).trans (show _ = some (Value.int .i64 x.b) from rfl)
    have c3 := (HL6.out.cell 3).trans (show _ = some (Value.int .i64 x.c) from rfl)
    have c4 := (HL6.out.cell 4).trans (show _ = some (Value.int .i64 x.d) from rfl)
    have c5 := (HL6.out.cell 5).trans (show _ = some (Value.int .u64 (x.k : Int)) from rfl)
    have hen := HEN.out
    have HW6 := Lib.hid (HW.out w6 HD6.out (HP.out.later HB6.out))
    clear HW HEN HD6 HX6
    obtain ⟨A8, c8, rfl⟩ := own_sliceD HO6.out
    go_wp2_with fail
    refine HW6.out.mono ?_
    rintro e w7 ⟨rfl, hb7⟩
    have HL7 := Lib.hid (HL6.out.below hb7 HL6.out.lt)
    have HG7 := Lib.hid (HG6.out.later hb7)
    have HB7 := Lib.hid (HB6.out.trans (hb7.mono HB6.out.size))
    have HO7 := Lib.hid (owned_below HO6.out hb7)
    have hz7 := HB7.out.size
    clear hb7 HL6 HG6 HB6 HO6 HW6 hen c0 c1 c2 c3 c4 c5 ql x0 xl
    go_wp2_with (at_builtin; refine append_one _ (.string (textB (wrO x o))) rfl (.tmp 22) (.tmp 27) 52 rfl w.heap.size 9 _ _ Tryz.underlying52 Tryz.infoStr9 rfl rfl _ _ _ rfl HO7.out rfl (by unfold maxLen; omega) (by omega) hz7 ?_)
    intro v8 w8 ho8 hb8 hgr8
    rw [cellsW_push] at ho8
    have HO8 : Hid (w8.ownsRow w.heap.size 9 1 v8 (k + 1 + 1) (cellsW (wdL x (L.take (k + 1))))) := by
     show World.ownsRow _ _ _ _ _ _ _
     rw [HTK.out]
     unfold wdL at ho8 ⊢
     rw [List.map_append]
     exact ho8
    have HG8 := Lib.hid (HG7.out.grown HO7.out hgr8)
    have HL8 := Lib.hid (HL7.out.kept (kept_grown hgr8) (own_ne HO7.out HL7.out (by decide)))
    have HB8 := Lib.hid (HB7.out.trans hb8)
    clear ho8 hb8 hgr8 HO7 HG7 HL7 HB7 hz7
    go_wp2
    go_roundw
    case rel => exact ⟨k + 1, by omega, by go_num, HO8, HG8, HL8, HB8⟩
    case measure => simp [intOf]; omega
   ·have d0 := HC.out 0 _ (by decide) ((opsL_get ho hg (by decide)).trans (by rw [hov]; rfl))
    have d1 := HC.out 1 _ (by decide) ((opsL_get ho hg (by decide)).trans (by rw [hov]; rfl))
    have HW := Lib.hid hcall
    have HEN := Lib.hid hen
    clear hcall hen hov HC
    have bl := World.block_lt_of_cell? wr _ d0
    try simp only [Nat.add_zero] at d0
    go_upto_region 7 with (fail)
    have HL6 := Lib.hid (HL5.out.alloc (.cells #[capV nf g, capV mf g] 61))
    have HO6 := Lib.hid (owned_below HO.out ((Below.refl wr.heap.size wr).alloc (Nat.le_refl _) (.cells #[capV nf g, capV mf g] 61)))
    have HG6 := Lib.hid (HG9.out.later ((Below.refl wr.heap.size wr).alloc (Nat.le_refl _) (.cells #[capV nf g, capV mf g] 61)))
    have HB6 := Lib.hid (HB5.out.alloc HB5.out.size (.cells #[capV nf g, capV mf g] 61))
    have HD6 := Lib.hid (OdAt.below HOD.out ((Below.refl wr.heap.size wr).alloc (Nat.le_refl _) (.cells #[capV nf g, capV mf g] 61)))
    have HX6 := Lib.hid (Lies.made wr 61 #[capV nf g, capV mf g])
    obtain ⟨p6, hp6⟩ : ∃ p, p = wr.heap.size := ⟨_, rfl⟩
    rw [← hp6] at HX6
    simp only [← hp6]
    clear d0 d1 bl HL5 HO HG9 HB5 HOD hp6
    generalize wr.alloc (.cells #[capV nf g, capV mf g] 61) = w6 at *
    have xl := HX6.out.lt
    have x0 := (HX6.out.cell 0).trans (show _ = some ((capV nf g)) from rfl)
    have ql := HL6.out.lt
    have c0 := (HL6.out.cell 0).trans (show _ = some (Value.int .i64 x.op) from rfl)
    have c1 := (HL6.out.cell 1).trans (show _ = some (Value.int .i64 x.a) from rfl)
    have c2 := (HL6.out.cell 2).trans (show _ = some (Value.int .i64 x.b) from rfl)
    have c3 := (HL6.out.cell 3).trans (show _ = some (Value.int .i64 x.c) from rfl)
    have c4 := (HL6.out.cell 4).trans (show _ = some (Value.int .i64 x.d) from rfl)
    have c5 := (HL6.out.cell 5).trans (show _ = some (Value.int .u64 (x.k : Int)) from rfl)
    have hen := HEN.out
    have HW6 := Lib.hid (HW.out w6 HD6.out (HP.out.later HB6.out))
    clear HW HEN HD6 HX6
    obtain ⟨A8, c8, rfl⟩ := own_sliceD HO6.out
    go_wp2_with fail
    refine HW6.out.mono ?_
    rintro e w7 ⟨rfl, hb7⟩
    have HL7 := Lib.hid (HL6.out.below hb7 HL6.out.lt)
    have HG7 := Lib.hid (HG6.out.later hb7)
    have HB7 := Lib.hid (HB6.out.trans (hb7.mono HB6.out.size))
    have HO7 := Lib.hid (owned_below HO6.out hb7)
    have hz7 := HB7.out.size
    clear hb7 HL6 HG6 HB6 HO6 HW6 hen c0 c1 c2 c3 c4 c5 ql x0 xl
    go_wp2_with (at_builtin; refine append_one _ (.string (textB (wrO x o))) rfl (.tmp 22) (.tmp 27) 52 rfl w.heap.size 9 _ _ Tryz.underlying52 Tryz.infoStr9 rfl rfl _ _ _ rfl HO7.out rfl (by unfold maxLen; omega) (by omega) hz7 ?_)
    intro v8 w8 ho8 hb8 hgr8
    rw [cellsW_push] at ho8
    have HO8 : Hid (w8.ownsRow w.heap.size 9 1 v8 (k + 1 + 1) (cellsW (wdL x (L.take (k + 1))))) := by
     show World.ownsRow _ _ _ _ _ _ _
     rw [HTK.out]
     unfold wdL at ho8 ⊢
     rw [List.map_append]
     exact ho8
    have HG8 := Lib.hid (HG7.out.grown HO7.out hgr8)
    have HL8 := Lib.hid (HL7.out.kept (kept_grown hgr8) (own_ne HO7.out HL7.out (by decide)))
    have HB8 := Lib.hid (HB7.out.trans hb8)
    clear ho8 hb8 hgr8 HO7 HG7 HL7 HB7 hz7
    go_wp2
    go_roundw
    case rel => exact ⟨k + 1, by omega, by go_num, HO8, HG8, HL8, HB8⟩
    case measure => simp [intOf]; omega
  ·obtain rfl : k = L.length := by omega
   have hsq := SeqS.of_owns HO.out
   rw [List.take_length] at hsq
   obtain ⟨b8, o8, c8, rfl, hc1, hc2, hbl, hcc⟩ := hsq.cells1 (by omega)
   have hjl : (nmT x.op ++ wdO x L).length ≤ 200 := by
    have h1 := nmT_len x.op
    have h2 := wdO_len x L
    rw [List.length_append]; omega
   have hj := join_ln x L
   have HJ := Lib.hid (Tryz.strings_Join b8 o8 c8 ((wdL x L).map textB) ⟨#[32]⟩ wr (fun j u hu => by
    rw [List.getElem?_map] at hu
    obtain ⟨z, hz, rfl⟩ := Option.map_eq_some_iff.1 hu
    refine hcc j _ ?_
    unfold cellsW
    rw [List.getElem?_map, hz]; rfl) hbl (by unfold wdL; simp; omega) (by unfold wdL; simp; omega) (by rw [List.map_map]; show (Lib.join ((wdL x L).map fun b => (textB b).data.toList) (⟨#[32]⟩ : ByteArray).data.toList).length ≤ _; rw [hj]; omega))
   have hj2 : Lib.join (((wdL x L).map textB).map (·.data.toList)) (⟨#[32]⟩ : ByteArray).data.toList = nmT x.op ++ wdO x L := by rw [List.map_map]; exact hj
   rw [hj2, show ((wdL x L).map textB).length = L.length + 1 by unfold wdL; simp] at HJ
   clear hj hj2 hjl hcc hsq HO HG9 HL5 hbl
   go_wp2_with fail
   refine HJ.out.mono ?_
   rintro e w9 ⟨rfl, hb9⟩
   have HB9 := Lib.hid (HB5.out.trans (hb9.mono HB5.out.size))
   go_wp2
   go_ret2
   exact ⟨by rw [HE.out.1, HE.out.2, HLL.out]; rfl, HB9.out⟩
noncomputable def rdO (x : In) (o : Nat) (bs : List UInt8) : In × Bool :=
 if o = 67 then (riO x 82 bs, riB bs) else if o = 68 then moO x bs else if o = 75 then ({ x with k := numV bs }, numB bs) else rgO x o bs
theorem enterRg2 (a : Array Value) (wx : World) : (callFunc 72 a).run Tryz.prog wx = .ok (.enter 72 a) wx := by kernel_rfl
theorem enterRi2 (a : Array Value) (wx : World) : (callFunc 79 a).run Tryz.prog wx = .ok (.enter 79 a) wx := by kernel_rfl
theorem enterNu2 (a : Array Value) (wx : World) : (callFunc 76 a).run Tryz.prog wx = .ok (.enter 76 a) wx := by kernel_rfl
theorem enterMo2 (a : Array Value) (wx : World) : (callFunc 81 a).run Tryz.prog wx = .ok (.enter 81 a) wx := by kernel_rfl
theorem read_any {o : Nat} (g : Nat) (ho : o = 65 ∨ o = 66 ∨ o = 82 ∨ o = 67 ∨ o = 68 ∨ o = 75) :
  ∃ n m, (∀ (a : Array Value) (wx : World), (callFunc m a).run Tryz.prog wx = .ok (.enter m a) wx) ∧
   ((opV o g = [fnV n, fnV m] ∧ ∀ (w : World) (gi : Nat) (x : In) (bs : List UInt8), OdAt w o g → ErrAt w → PowAt w → Lies w gi 28 (inC x) → bs.length ≤ 140737488355328 → Calls Tryz.prog m #[.pointer (some ⟨gi, 0, none⟩), .string (textB bs)] w (RoPost (rdO x o bs) gi w)) ∨
   (opV o g = [capV n g, capV m g] ∧ ∀ (w : World) (gi : Nat) (x : In) (bs : List UInt8), OdAt w o g → ErrAt w → PowAt w → Lies w gi 28 (inC x) → bs.length ≤ 140737488355328 → Calls Tryz.prog m #[.pointer (some ⟨gi, 0, none⟩), .string (textB bs), .pointer (some ⟨g, 0, none⟩)] w (RoPost (rdO x o bs) gi w))) := by
 rcases ho with rfl | rfl | rfl | rfl | rfl | rfl
 ·refine ⟨_, _, enterRg2, .inr ⟨rfl, fun w gi x bs h hE hp hL hb => ?_⟩⟩
  unfold OdAt at h
  rw [if_neg (by decide), if_neg (by decide)] at h
  exact regRead 65 gi g x bs w hL h hb hE hp
 ·refine ⟨_, _, enterRg2, .inr ⟨rfl, fun w gi x bs h hE hp hL hb => ?_⟩⟩
  unfold OdAt at h
  rw [if_neg (by decide), if_neg (by decide)] at h
  exact regRead 66 gi g x bs w hL h hb hE hp
 ·refine ⟨_, _, enterRg2, .inr ⟨rfl, fun w gi x bs h hE hp hL hb => ?_⟩⟩
  unfold OdAt at h
  rw [if_neg (by decide), if_neg (by decide)] at h
  exact regRead 82 gi g x bs w hL h hb hE hp
 ·exact ⟨_, _, enterRi2, .inl ⟨rfl, fun w gi x bs _ hE hp hL hb => ringRead gi x bs w hL hb hE hp⟩⟩
 ·refine ⟨_, _, enterMo2, .inr ⟨rfl, fun w gi x bs h hE hp hL hb => ?_⟩⟩
  unfold OdAt at h
  rw [if_neg (by decide), if_pos rfl] at h
  exact modeRead gi g x bs w hL h
 ·exact ⟨_, _, enterNu2, .inl ⟨rfl, fun w gi x bs _ hE hp hL hb => numRead gi x bs w hL hb hE hp⟩⟩
noncomputable def rdK : List Nat → List (List UInt8) → In → In × Bool
 | [], _, x => (x, true)
 | _ :: _, [], x => (x, false)
 | o :: os, b :: bs, x => if (rdO x o b).2 = true then rdK os bs (rdO x o b).1 else ((rdO x o b).1, false)
def in0 : In := ⟨0, 0, 0, 0, 0, 0⟩
noncomputable def rlF (op : Nat) (ws : List (List UInt8)) : In × Bool :=
 if op = 0 ∨ ws.length ≠ 1 + (odG (op : Int)).length then (in0, false) else
 if (rdK (odG (op : Int)) ws.tail ⟨(op : Int), 0, 0, 0, 0, 0⟩).2 = true then ((rdK (odG (op : Int)) ws.tail ⟨(op : Int), 0, 0, 0, 0, 0⟩).1, rightB (rdK (odG (op : Int)) ws.tail ⟨(op : Int), 0, 0, 0, 0, 0⟩).1) else (in0, false)
noncomputable def rlR (ws : List (List UInt8)) : In × Bool := rlF (fdN (textB (ws.headD []))) ws
theorem rlF_no {op : Nat} {ws : List (List UInt8)} (h : op = 0 ∨ ws.length ≠ 1 + (odG (op : Int)).length) : rlF op ws = (in0, false) := if_pos h
theorem rlF_bad {op : Nat} {ws : List (List UInt8)} {R : In × Bool} (h : ¬ (op = 0 ∨ ws.length ≠ 1 + (odG (op : Int)).length)) (hr : rdK (odG (op : Int)) ws.tail ⟨(op : Int), 0, 0, 0, 0, 0⟩ = R) (h2 : R.2 = false) : rlF op ws = (in0, false) := by
 unfold rlF
 rw [if_neg h, hr, h2, if_neg (by decide)]
theorem rlF_ok {op : Nat} {ws : List (List UInt8)} {R : In × Bool} (h : ¬ (op = 0 ∨ ws.length ≠ 1 + (odG (op : Int)).length)) (hr : rdK (odG (op : Int)) ws.tail ⟨(op : Int), 0, 0, 0, 0, 0⟩ = R) (h2 : R.2 = true) : rlF op ws = (R.1, rightB R.1) := by
 unfold rlF
 rw [if_neg h, hr, h2, if_pos rfl]
theorem rdK_next {L : List Nat} {ws : List (List UInt8)} {k o : Nat} {b : List UInt8} {x : In} (ho : L[k]? = some o) (hb : ws[k]? = some b) :
  rdK (L.drop k) (ws.drop k) x = if (rdO x o b).2 = true then rdK (L.drop (k + 1)) (ws.drop (k + 1)) (rdO x o b).1 else ((rdO x o b).1, false) := by
 have h1 : L.drop k = o :: L.drop (k + 1) := by
  rw [List.drop_eq_getElem_cons (List.getElem?_eq_some_iff.1 ho).1]
  rw [(List.getElem?_eq_some_iff.1 ho).2]
 have h2 : ws.drop k = b :: ws.drop (k + 1) := by
  rw [List.drop_eq_getElem_cons (List.getElem?_eq_some_iff.1 hb).1]
  rw [(List.getElem?_eq_some_iff.1 hb).2]
 rw [h1, h2]
 rfl
theorem OpG.rowed {q q' : World} {B : Nat} {os gs : List Nat} {v : Value} {g : Nat} {cs : Array Value} (h : OpG q B os gs v) (hl : Lies q g 28 cs) (hk : Kept (oneRow g) q q') : OpG q' B os gs v :=
 ⟨owns_kept h.1 hk (fun r cur _ hl2 (e : r = g) => by subst e; exact absurd (hl2.same hl).1 (by decide)), fun i o g2 a b => by
  have h2 := h.2 i o g2 a b
  unfold OdAt at *
  split
  ·trivial
  ·rename_i h1
   rw [if_neg h1] at h2
   split
   ·rename_i h3
    rw [if_pos h3] at h2
    exact h2.kept hk (fun (e : g2 = g) => by subst e; exact absurd (h2.same hl).1 (by decide))
   ·rename_i h3
    rw [if_neg h3] at h2
    exact h2.kept hk (fun (e : g2 = g) => by subst e; exact absurd (h2.same hl).1 (by decide))⟩
theorem odG_mem (op : Int) : ∀ o ∈ odG op, o = 65 ∨ o = 66 ∨ o = 82 ∨ o = 67 ∨ o = 68 ∨ o = 75 := by
 unfold odG
 split
 ·decide
 ·exact odL_mem op
theorem odG_length (op : Int) : (odG op).length ≤ 5 := by
 unfold odG
 split
 ·decide
 ·exact odL_length op
theorem fdN_le (s : ByteArray) : fdN s ≤ 25 := by
 unfold fdN
 cases h : (List.range' 1 25).find? (fun k => decide (nmL.getD k ByteArray.empty = s)) with
 | none => simp
 | some k =>
  have := List.mem_of_find?_eq_some h
  have := List.mem_range'_1.1 this
  simp; omega
def upd (x y : In) (o : Nat) : In :=
 if o = 65 then { x with a := y.a } else if o = 66 then { x with b := y.b } else if o = 82 then { x with c := y.c } else if o = 67 then { x with c := y.c } else if o = 68 then { x with d := y.d } else { x with k := y.k }
def updTen (x y : In) : List Nat → In
 | [] => x
 | o :: L => updTen (upd x y o) y L
theorem riB_dec {n : Nat} (h : n ≤ 9) : riB (decE n) = true := by
 unfold riB
 rw [numB_dec (by omega), numV_dec (by omega), decide_eq_true h]; rfl
theorem riO_dec {x : In} {o n : Nat} (h : n ≤ 9) : riO x o (decE n) = setO x o (n : Int) := by
 rw [riO_yes (riB_dec h), numV_dec (by omega)]
theorem rdO_wr {x y : In} {o : Nat} (ho : o = 65 ∨ o = 66 ∨ o = 82 ∨ o = 67 ∨ o = 68 ∨ o = 75) (hy : InIn y) : rdO x o (wrO y o) = (upd x y o, true) := by
 obtain ⟨_, h1, h2, h3, h4, h5⟩ := hy
 rcases ho with rfl | rfl | rfl | rfl | rfl | rfl
 ·show (riO x 65 (decE y.a.toNat), riB (decE y.a.toNat)) = _
  rw [riO_dec (by omega), riB_dec (by omega), Int.toNat_of_nonneg h1.1]; rfl
 ·show (riO x 66 (decE y.b.toNat), riB (decE y.b.toNat)) = _
  rw [riO_dec (by omega), riB_dec (by omega), Int.toNat_of_nonneg h2.1]; rfl
 ·show (riO x 82 (decE y.c.toNat), riB (decE y.c.toNat)) = _
  rw [riO_dec (by omega), riB_dec (by omega), Int.toNat_of_nonneg h3.1]; rfl
 ·show (riO x 82 (decE y.c.toNat), riB (decE y.c.toNat)) = _
  rw [riO_dec (by omega), riB_dec (by omega), Int.toNat_of_nonneg h3.1]; rfl
 ·show moO x (wtB y.d) = ({ x with d := y.d }, true)
  rcases (show y.d = 0 ∨ y.d = 1 ∨ y.d = 2 by omega) with e | e | e
  all_goals rw [e]; rfl
 ·show ({ x with k := numV (decE y.k) }, numB (decE y.k)) = ({ x with k := y.k }, true)
  rw [numV_dec h5, numB_dec h5]
theorem rdK_wr {y : In} (hy : InIn y) : ∀ (L : List Nat) (x : In), (∀ o ∈ L, o = 65 ∨ o = 66 ∨ o = 82 ∨ o = 67 ∨ o = 68 ∨ o = 75) → rdK L (L.map (wrO y)) x = (updTen x y L, true)
 | [], x, _ => rfl
 | o :: L, x, h => by
  have e := rdO_wr (x := x) (h o List.mem_cons_self) hy
  show (if (rdO x o (wrO y o)).2 = true then rdK L (L.map (wrO y)) (rdO x o (wrO y o)).1 else _) = _
  rw [e, if_pos rfl]
  exact rdK_wr hy L _ (fun o' h' => h o' (List.mem_cons_of_mem _ h'))
set_option maxRecDepth 100000 in
theorem upd_right {y : In} (h : rightB y = true) : updTen ⟨y.op, 0, 0, 0, 0, 0⟩ y (odL y.op) = y := by
 obtain ⟨op, a, b, c, d, k⟩ := y
 unfold rightB wB kB at h
 simp only [Bool.and_eq_true, decide_eq_true_eq] at h
 obtain ⟨h0, ⟨h1, h2⟩, ⟨h3, h4⟩, ⟨h5, h6⟩, ⟨h7, h8⟩, h9⟩ := h
 rcases op_lit h0 with e | e | e | e | e | e | e | e | e | e | e | e | e | e | e | e | e | e | e | e | e | e | e | e | e
 all_goals
  change op = _ at e
  subst e
  simp [gL, gK] at h2 h4 h6 h8 h9
  simp [odL, updTen, upd]
  try omega
def sixO (o : Nat) : Prop := o = 65 ∨ o = 66 ∨ o = 82 ∨ o = 67 ∨ o = 68 ∨ o = 75
def slotO (o : Nat) : Nat := if o = 65 then 0 else if o = 66 then 1 else if o = 82 then 2 else if o = 67 then 2 else if o = 68 then 3 else 4
theorem wrO_upd {x y : In} {o o' : Nat} (ho : sixO o) (ho' : sixO o') (h : slotO o ≠ slotO o') : wrO (upd x y o) o' = wrO x o' := by
 unfold sixO at ho ho'
 rcases ho with rfl | rfl | rfl | rfl | rfl | rfl <;> rcases ho' with rfl | rfl | rfl | rfl | rfl | rfl
 all_goals first
  | rfl
  | (exact absurd rfl h)
theorem upd_op (x y : In) (o : Nat) : (upd x y o).op = x.op := by
 unfold upd
 repeat' split
 all_goals rfl
theorem riO_ok {x : In} {o : Nat} {r : List UInt8} (h : riB r = true) : riO x o r = setO x o ((numV r : Nat) : Int) ∧ decE (numV r) = r := by
 refine ⟨riO_yes h, ?_⟩
 unfold riB at h
 rw [Bool.and_eq_true] at h
 exact dec_numV h.1
theorem rgO_ok {x x' : In} {o : Nat} {b : List UInt8} (h : rgO x o b = (x', true)) : ∃ r, b = 114 :: r ∧ x' = setO x o ((numV r : Nat) : Int) ∧ decE (numV r) = r := by
 unfold rgO at h
 split at h
 ·rename_i r
  rw [Prod.mk.injEq] at h
  obtain ⟨e1, e2⟩ := riO_ok (x := x) (o := o) h.2
  exact ⟨r, rfl, h.1.symm.trans e1, e2⟩
 ·rw [Prod.mk.injEq] at h
  exact absurd h.2 (by decide)
theorem rdO_ok {x x' : In} {o : Nat} {b : List UInt8} (ho : sixO o) (h : rdO x o b = (x', true)) : (∃ y, x' = upd x y o) ∧ wrO x' o = b := by
 unfold sixO at ho
 rcases ho with rfl | rfl | rfl | rfl | rfl | rfl
 ·obtain ⟨r, rfl, rfl, e⟩ := rgO_ok (show rgO x 65 b = (x', true) from h)
  refine ⟨⟨{ x with a := ((numV r : Nat) : Int) }, rfl⟩, ?_⟩
  show 114 :: decE ((numV r : Nat) : Int).toNat = _
  rw [Int.toNat_natCast, e]
 ·obtain ⟨r, rfl, rfl, e⟩ := rgO_ok (show rgO x 66 b = (x', true) from h)
  refine ⟨⟨{ x with b := ((numV r : Nat) : Int) }, rfl⟩, ?_⟩
  show 114 :: decE ((numV r : Nat) : Int).toNat = _
  rw [Int.toNat_natCast, e]
 ·obtain ⟨r, rfl, rfl, e⟩ := rgO_ok (show rgO x 82 b = (x', true) from h)
  refine ⟨⟨{ x with c := ((numV r : Nat) : Int) }, rfl⟩, ?_⟩
  show 114 :: decE ((numV r : Nat) : Int).toNat = _
  rw [Int.toNat_natCast, e]
 ·have h' : (riO x 82 b, riB b) = (x', true) := h
  rw [Prod.mk.injEq] at h'
  obtain ⟨e1, e2⟩ := riO_ok (x := x) (o := 82) h'.2
  obtain rfl : x' = _ := h'.1.symm.trans e1
  refine ⟨⟨{ x with c := ((numV b : Nat) : Int) }, rfl⟩, ?_⟩
  show decE ((numV b : Nat) : Int).toNat = _
  rw [Int.toNat_natCast, e2]
 ·have h' : moO x b = (x', true) := h
  unfold moO at h'
  split at h'
  ·rename_i e
   rw [Prod.mk.injEq] at h'
   obtain rfl := h'.1
   exact ⟨⟨{ x with d := 0 }, rfl⟩, e.symm⟩
  ·split at h'
   ·rename_i e
    rw [Prod.mk.injEq] at h'
    obtain rfl := h'.1
    exact ⟨⟨{ x with d := 1 }, rfl⟩, e.symm⟩
   ·split at h'
    ·rename_i e
     rw [Prod.mk.injEq] at h'
     obtain rfl := h'.1
     exact ⟨⟨{ x with d := 2 }, rfl⟩, e.symm⟩
    ·rw [Prod.mk.injEq] at h'
     exact absurd h'.2 (by decide)
 ·have h' : ({ x with k := numV b }, numB b) = (x', true) := h
  rw [Prod.mk.injEq] at h'
  obtain rfl := h'.1
  exact ⟨⟨{ x with k := numV b }, rfl⟩, dec_numV h'.2⟩
theorem rdK_ok : ∀ (L : List Nat) (rs : List (List UInt8)) (x x' : In), (∀ o ∈ L, sixO o) → (L.map slotO).Nodup → rs.length = L.length → rdK L rs x = (x', true) →
  rs = L.map (wrO x') ∧ (∀ o', sixO o' → slotO o' ∉ L.map slotO → wrO x' o' = wrO x o') ∧ x'.op = x.op
 | [], rs, x, x', _, _, hl, h => by
  have h' : (x, true) = (x', true) := h
  rw [Prod.mk.injEq] at h'
  obtain rfl := h'.1
  exact ⟨List.eq_nil_of_length_eq_zero hl, fun _ _ _ => rfl, rfl⟩
 | o :: L, [], x, x', _, _, hl, _ => by simp at hl
 | o :: L, b :: rs, x, x', h6, hn, hl, h => by
  have h' : (if (rdO x o b).2 = true then rdK L rs (rdO x o b).1 else ((rdO x o b).1, false)) = (x', true) := h
  by_cases hr : (rdO x o b).2 = true
  ·rw [if_pos hr] at h'
   obtain ⟨⟨y, hy⟩, hw⟩ := rdO_ok (h6 o List.mem_cons_self) (show rdO x o b = ((rdO x o b).1, true) by rw [← hr])
   rw [List.map_cons, List.nodup_cons] at hn
   obtain ⟨i1, i2, i3⟩ := rdK_ok L rs _ x' (fun o' h' => h6 o' (List.mem_cons_of_mem _ h')) hn.2 (by simpa using hl) h'
   refine ⟨?_, fun o' ho' hno => ?_, ?_⟩
   ·rw [List.map_cons, ← i1, i2 o (h6 o List.mem_cons_self) hn.1, hw]
   ·rw [List.map_cons, List.mem_cons, not_or] at hno
    rw [i2 o' ho' hno.2, hy]
    exact wrO_upd (h6 o List.mem_cons_self) ho' (fun e => hno.1 e.symm)
   ·rw [i3, hy, upd_op]
  ·rw [if_neg hr, Prod.mk.injEq] at h'
   exact absurd h'.2 (by decide)
theorem odL_nodup (op : Int) : ((odL op).map slotO).Nodup := by
 unfold odL
 repeat' split
 all_goals decide
theorem fdN_nm : ∀ i, i < 26 → 1 ≤ i → fdN (nmL.getD i ByteArray.empty) = i := by decide +kernel
theorem fdN_at_nm {s : ByteArray} (h : fdN s ≠ 0) : nmL.getD (fdN s) ByteArray.empty = s := by
 unfold fdN at *
 cases hf : (List.range' 1 25).find? (fun k => decide (nmL.getD k ByteArray.empty = s)) with
 | none => rw [hf] at h; simp at h
 | some k =>
  have := List.find?_some hf
  rw [Option.getD_some]
  simpa using this
theorem nmB_nat {n : Nat} (h1 : 1 ≤ n) (h2 : n ≤ 25) : nmB (n : Int) = nmL.getD n ByteArray.empty := by
 unfold nmB
 rw [if_pos (by unfold opB; simp; omega), Int.toNat_natCast]
theorem rlR_line {y : In} (h : rightB y = true) : rlR (nmT y.op :: (odL y.op).map (wrO y)) = (y, true) := by
 have hi := right_in10 h
 obtain ⟨n, hn⟩ : ∃ n : Nat, y.op = (n : Int) := ⟨y.op.toNat, by omega⟩
 have h1 : 1 ≤ n ∧ n ≤ 25 := by omega
 have hf : fdN (textB (nmT y.op)) = n := by
  rw [← nm_text, hn, nmB_nat h1.1 h1.2, fdN_nm n (by omega) h1.1]
 have hod : odG (n : Int) = odL y.op := by rw [hn]; exact if_neg (by omega)
 unfold rlR
 show rlF (fdN (textB (nmT y.op))) _ = _
 rw [hf]
 have hu := upd_right h
 rw [hn] at hu
 refine (rlF_ok (R := (y, true)) ?_ ?_ rfl).trans ?_
 ·rw [hod, List.length_cons, List.length_map]; omega
 ·rw [hod, List.tail_cons, rdK_wr hi _ _ (odL_mem y.op), hn, hu]
 ·rw [h]
theorem rlR_ok {w0 : List UInt8} {rs : List (List UInt8)} {x : In} (h : rlR (w0 :: rs) = (x, true)) : rightB x = true ∧ w0 :: rs = nmT x.op :: (odL x.op).map (wrO x) := by
 unfold rlR at h
 replace h : rlF (fdN (textB w0)) (w0 :: rs) = (x, true) := h
 have hle := fdN_le (textB w0)
 have hnm := @fdN_at_nm (textB w0)
 obtain ⟨n, hn⟩ : ∃ n, n = fdN (textB w0) := ⟨_, rfl⟩
 rw [← hn] at h hle hnm
 by_cases hb : n = 0 ∨ (w0 :: rs).length ≠ 1 + (odG (n : Int)).length
 ·rw [rlF_no hb, Prod.mk.injEq] at h
  exact absurd h.2 (by decide)
 ·have hn0 : n ≠ 0 := fun e => hb (.inl e)
  have hod : odG (n : Int) = odL (n : Int) := if_neg (by omega)
  have hlen : rs.length = (odL (n : Int)).length := by
   rw [← hod]
   by_cases e : (w0 :: rs).length = 1 + (odG (n : Int)).length
   ·rw [List.length_cons] at e; omega
   ·exact absurd (.inr e) hb
  cases hR : rdK (odG (n : Int)) (w0 :: rs).tail ⟨(n : Int), 0, 0, 0, 0, 0⟩ with
  | mk y ok =>
   cases ok with
   | false =>
    rw [rlF_bad hb hR rfl, Prod.mk.injEq] at h
    exact absurd h.2 (by decide)
   | true =>
    rw [rlF_ok hb hR rfl, Prod.mk.injEq] at h
    obtain ⟨rfl, hr⟩ := h
    rw [hod] at hR
    obtain ⟨i1, _, i3⟩ := rdK_ok _ _ _ _ (odL_mem (n : Int)) (odL_nodup _) hlen hR
    have hop : y.op = (n : Int) := i3
    refine ⟨hr, ?_⟩
    have e := hnm hn0
    rw [← nmB_nat (by omega) hle] at e
    have hw0 : w0 = nmT (n : Int) := text_inj (a := w0) (b := nmT (n : Int)) (by rw [← e]; exact nm_text _)
    rw [hop, ← i1, ← hw0]
noncomputable def smB10 (b : List UInt8) : Bool := numB b && decide (numV b ≤ 255)
def quW : List UInt8 := [113, 117, 101, 117, 101]
def caW : List UInt8 := [99, 97, 115, 116]
def ri0 : Ri := ⟨0, 0, 0⟩
noncomputable def rrT (w0 : List UInt8) : List (List UInt8) → Ri × Bool
 | [a] => if w0 = quW then (⟨1, (numV a : Int), 1⟩, true) else (ri0, false)
 | [a, b] => if w0 = caW then (⟨2, (numV a : Int), (numV b : Int)⟩, true) else (ri0, false)
 | _ => (ri0, false)
noncomputable def rrR (w0 : List UInt8) (rs : List (List UInt8)) : Ri × Bool := if rs.all smB10 = true then rrT w0 rs else (ri0, false)
theorem rrR_bad {w0 : List UInt8} {rs : List (List UInt8)} {k : Nat} {b : List UInt8} (hb : rs[k]? = some b) (h : smB10 b = false) : rrR w0 rs = (ri0, false) := by
 unfold rrR
 rw [if_neg]
 rw [List.all_eq_true]
 intro hall
 rw [hall b (List.mem_of_getElem? hb)] at h
 cases h
theorem rrR_ok {w0 : List UInt8} {rs : List (List UInt8)} (h : ∀ b ∈ rs, smB10 b = true) : rrR w0 rs = rrT w0 rs := if_pos (List.all_eq_true.2 h)
theorem rrT_q {a : List UInt8} : rrT quW [a] = (⟨1, (numV a : Int), 1⟩, true) := by simp [rrT]
theorem rrT_c {a b : List UInt8} : rrT caW [a, b] = (⟨2, (numV a : Int), (numV b : Int)⟩, true) := by simp [rrT]
theorem rrT_no {w0 : List UInt8} {rs : List (List UInt8)} (h1 : ¬ (w0 = quW ∧ rs.length = 1)) (h2 : ¬ (w0 = caW ∧ rs.length = 2)) : rrT w0 rs = (ri0, false) := by
 unfold rrT
 split
 ·rw [if_neg (fun e => h1 ⟨e, rfl⟩)]
 ·rw [if_neg (fun e => h2 ⟨e, rfl⟩)]
 ·rfl
noncomputable def nmL10 (rs : List (List UInt8)) : List Value := rs.map fun b => .int .i64 ((numV b : Nat) : Int)
theorem infoI10 : (Tryz.prog.info? 3).map (fun i => (i.zero, i.size, i.bytes)) = some (some (.int .i64 0), 1, 8) := by kernel_rfl
abbrev riZ : Array Value := #[.int .i64 0, .int .i64 0, .int .i64 0]
abbrev st3 (w : World) (b : Nat) (a0 a1 a2 : Value) : World := ((w.setCell ⟨b, 0, none⟩ a0).setCell ⟨b, 1, none⟩ a1).setCell ⟨b, 2, none⟩ a2
theorem st3_lies {w : World} {b : Nat} {T : TypeId} {z0 z1 z2 a0 a1 a2 : Value} (h : Lies w b T #[z0, z1, z2]) : Lies (st3 w b a0 a1 a2) b T #[a0, a1, a2] := ((h.put 0 a0).put 1 a1).put 2 a2
theorem st3_kept (w : World) (b : Nat) (a0 a1 a2 : Value) : Kept (oneRow b) w (st3 w b a0 a1 a2) :=
 ((Kept.put w b 0 a0).trans (Kept.put _ b 1 a1) (fun _ _ h => h)).trans (Kept.put _ b 2 a2) (fun _ _ h => h)
def RrPost10 (y : Ri × Bool) (w : World) (e : Ending) (w' : World) : Prop := e = .returned (.tuple #[.agg (riC y.1), .bool y.2]) ∧ Below w.heap.size w w'
set_option maxHeartbeats 16000000 in
set_option maxRecDepth 100000 in
theorem readRing10 (w0 : List UInt8) (rs : List (List UInt8)) (wb wo wc : Nat) (w : World) (hlen : rs.length ≤ 10000000) (hwl : ∀ b ∈ rs, b.length ≤ 140737488355328) (hc : rs.length + 1 ≤ wc) (hcm : wc ≤ 9223372036854775807)
  (hcell : ∀ (k : Nat) (b : List UInt8), (w0 :: rs)[k]? = some b → w.cell? ⟨wb, wo + k, none⟩ = some (.string (textB b))) (hE : ErrAt w) (hp : PowAt w) :
  Calls Tryz.prog 62 #[.slice (some ⟨wb, wo, none⟩) (rs.length + 1) wc] w (RrPost10 (rrR w0 rs) w) := by
 have HL0 := Lib.hid (Lies.made w 51 riZ)
 have HB := Lib.hid ((Below.refl w.heap.size w).alloc (Nat.le_refl _) (.cells riZ 51))
 have HCE := Lib.hid hcell
 have HE := Lib.hid hE
 have HP := Lib.hid hp
 have HWL := Lib.hid hwl
 clear hcell hE hp hwl
 go_enter Tryz.func62, Tryz.ntmps62
 go_upto_region 1 with (fail)
 obtain ⟨N0, hN0⟩ : ∃ g, g = w.heap.size := ⟨_, rfl⟩
 have HN0 := Lib.hid hN0
 rw [← hN0] at HL0 ⊢
 clear hN0
 generalize w.alloc (.cells riZ 51) = w1 at *
 have HO0 : Hid (w1.ownsRow w.heap.size 3 1 (.slice none 0 0) 0 (nmL10 (rs.take 0))) := World.ownsRow_nil _ _ _ _
 have d0w := HCE.out 0 w0 rfl
 rw [Nat.add_zero] at d0w
 have HDW := Lib.hid d0w
 clear d0w
 by_cases h1c : wc = 1
 ·obtain rfl : rs = [] := List.eq_nil_of_length_eq_zero (by omega)
  subst h1c
  have HXX : Hid (rrR w0 [] = (ri0, false)) := (rrR_ok (fun b hb => by simp at hb)).trans (rrT_no (fun h => by simp at h) (fun h => by simp at h))
  have HCB := Lib.hid HB.out
  go_wp2_with fail
  go_loopw [4, 12] (fun v u wr => v = .slice none 0 0 ∧ u = .int .i64 0 ∧ Hid (Lies wr N0 51 riZ) ∧ Hid (Below w.heap.size w wr)) (fun _ u _ => 0)
  case atStart => exact ⟨rfl, rfl, HL0.out, HB.out⟩
  case round =>
   clear HO0 HL0 HB
   obtain ⟨rfl, rfl, HL, HB9⟩ := hrel
   have d0 := cell_later HDW.out HB9.out
   have dl := World.block_lt_of_cell? _ _ d0
   by_cases hq : w0 = quW
   ·subst hq
    rw [show textB quW = (⟨#[113, 117, 101, 117, 101]⟩ : ByteArray) from rfl] at d0
    have lt := HL.out.lt
    have f0 := HL.out.free 0
    have f1 := HL.out.free 1
    have f2 := HL.out.free 2
    have c0 := (HL.out.cell 0).trans (show _ = some (Value.int .i64 0) from rfl)
    have c1 := (HL.out.cell 1).trans (show _ = some (Value.int .i64 0) from rfl)
    have c2 := (HL.out.cell 2).trans (show _ = some (Value.int .i64 0) from rfl)
    go_wp2_with fail
    have HBZ := Lib.hid (HB9.out.trans ((st3_kept wr N0 (.int .i64 0) (.int .i64 0) (.int .i64 0)).below HB9.out.size (fun j hj (e : j = N0) => by have := HN0.out; omega)))
    have HRZ := Lib.hid (st3_lies (a0 := (.int .i64 0)) (a1 := (.int .i64 0)) (a2 := (.int .i64 0)) HL.out)
    have q0 := (HRZ.out.cell 0).trans (show _ = some ((.int .i64 0)) from rfl)
    have q1 := (HRZ.out.cell 1).trans (show _ = some ((.int .i64 0)) from rfl)
    have q2 := (HRZ.out.cell 2).trans (show _ = some ((.int .i64 0)) from rfl)
    refine bodyPost_ret (v := .tuple #[.agg riZ, (.bool false)]) (by simp [results, Tryz.results62, go_sem, q0, q1, q2]) rfl ?_
    exact ⟨by rw [HXX.out]; rfl, HBZ.out⟩
   ·by_cases hca : w0 = caW
    ·subst hca
     rw [show textB caW = (⟨#[99, 97, 115, 116]⟩ : ByteArray) from rfl] at d0
     have lt := HL.out.lt
     have f0 := HL.out.free 0
     have f1 := HL.out.free 1
     have f2 := HL.out.free 2
     have c0 := (HL.out.cell 0).trans (show _ = some (Value.int .i64 0) from rfl)
     have c1 := (HL.out.cell 1).trans (show _ = some (Value.int .i64 0) from rfl)
     have c2 := (HL.out.cell 2).trans (show _ = some (Value.int .i64 0) from rfl)
     go_wp2_with fail
     have HBZ := Lib.hid (HB9.out.trans ((st3_kept wr N0 (.int .i64 0) (.int .i64 0) (.int .i64 0)).below HB9.out.size (fun j hj (e : j = N0) => by have := HN0.out; omega)))
     have HRZ := Lib.hid (st3_lies (a0 := (.int .i64 0)) (a1 := (.int .i64 0)) (a2 := (.int .i64 0)) HL.out)
     have q0 := (HRZ.out.cell 0).trans (show _ = some ((.int .i64 0)) from rfl)
     have q1 := (HRZ.out.cell 1).trans (show _ = some ((.int .i64 0)) from rfl)
     have q2 := (HRZ.out.cell 2).trans (show _ = some ((.int .i64 0)) from rfl)
     refine bodyPost_ret (v := .tuple #[.agg riZ, (.bool false)]) (by simp [results, Tryz.results62, go_sem, q0, q1, q2]) rfl ?_
     exact ⟨by rw [HXX.out]; rfl, HBZ.out⟩
    ·have hne1 : ((textB w0).toList == ([113, 117, 101, 117, 101] : List UInt8)) = false := by rw [text_toList, beq_eq_false_iff_ne]; exact hq
     have hne2 : ((textB w0).toList == ([99, 97, 115, 116] : List UInt8)) = false := by rw [text_toList, beq_eq_false_iff_ne]; exact hca
     obtain ⟨T0, hT0⟩ : ∃ T, T = textB w0 := ⟨_, rfl⟩
     rw [← hT0] at d0 hne1 hne2
     clear hT0
     have lt := HL.out.lt
     have f0 := HL.out.free 0
     have f1 := HL.out.free 1
     have f2 := HL.out.free 2
     have c0 := (HL.out.cell 0).trans (show _ = some (Value.int .i64 0) from rfl)
     have c1 := (HL.out.cell 1).trans (show _ = some (Value.int .i64 0) from rfl)
     have c2 := (HL.out.cell 2).trans (show _ = some (Value.int .i64 0) from rfl)
     go_wp2_with fail
     have HBZ := Lib.hid (HB9.out.trans ((st3_kept wr N0 (.int .i64 0) (.int .i64 0) (.int .i64 0)).below HB9.out.size (fun j hj (e : j = N0) => by have := HN0.out; omega)))
     have HRZ := Lib.hid (st3_lies (a0 := (.int .i64 0)) (a1 := (.int .i64 0)) (a2 := (.int .i64 0)) HL.out)
     have q0 := (HRZ.out.cell 0).trans (show _ = some ((.int .i64 0)) from rfl)
     have q1 := (HRZ.out.cell 1).trans (show _ = some ((.int .i64 0)) from rfl)
     have q2 := (HRZ.out.cell 2).trans (show _ = some ((.int .i64 0)) from rfl)
     refine bodyPost_ret (v := .tuple #[.agg riZ, (.bool false)]) (by simp [results, Tryz.results62, go_sem, q0, q1, q2]) rfl ?_
     exact ⟨by rw [HXX.out]; rfl, HBZ.out⟩
 go_wp2_with fail
 go_loopw [4, 12] (fun v u wr => ∃ (k : Nat), k ≤ rs.length ∧ u = .int .i64 k ∧ Hid (∀ b ∈ rs.take k, smB10 b = true) ∧ Hid (wr.ownsRow w.heap.size 3 1 v k (nmL10 (rs.take k))) ∧ Hid (Lies wr N0 51 riZ) ∧ Hid (Below w.heap.size w wr)) (fun _ u _ => rs.length - (intOf u).toNat)
 case atStart => exact ⟨0, by omega, rfl, (fun b hb => by simp at hb), HO0.out, HL0.out, HB.out⟩
 case round =>
  clear HO0 HL0 HB
  obtain ⟨k, hk, rfl, HSM, HO, HL5, HB5⟩ := hrel
  by_cases hlt : k < rs.length
  ·have hki : (k : Int) < (rs.length : Int) := by omega
   obtain ⟨b, hb⟩ : ∃ b, rs[k]? = some b := ⟨_, List.getElem?_eq_getElem hlt⟩
   have d0 := cell_later (HCE.out (k + 1) b (by rw [List.getElem?_cons_succ]; exact hb)) HB5.out
   rw [show wo + (k + 1) = wo + 1 + k by omega] at d0
   have dl := World.block_lt_of_cell? _ _ d0
   have HD := Lib.hid (decimal_any b wr (HWL.out b (List.mem_of_getElem? hb)) (HE.out.later HB5.out) (HP.out.later HB5.out))
   have HBM := Lib.hid hb
   obtain ⟨A8, c8, rfl⟩ := own_sliceD HO.out
   clear hb
   go_wp2_with fail
   refine HD.out.mono ?_
   rintro e w7 ⟨rfl, hb7⟩
   have HO7 := Lib.hid (owned_below HO.out hb7)
   have HL7 := Lib.hid (HL5.out.below hb7 HL5.out.lt)
   have HB7 := Lib.hid (HB5.out.trans (hb7.mono HB5.out.size))
   have hz7 := HB7.out.size
   clear hb7 HO HL5 HB5 HD d0 dl
   obtain ⟨m, hm⟩ : ∃ m, m = numV b := ⟨_, rfl⟩
   have HM := Lib.hid hm
   have HSB : Hid (smB10 b = (numB b && decide (m ≤ 255))) := by rw [hm]; rfl
   rw [← hm]
   clear hm
   cases hnb : numB b
   ·have HXX : Hid (rrR w0 rs = (ri0, false)) := rrR_bad HBM.out (by rw [HSB.out, hnb]; rfl)
    have HL := HL7
    have HB9 := HB7
    clear hnb
    have lt := HL.out.lt
    have f0 := HL.out.free 0
    have f1 := HL.out.free 1
    have f2 := HL.out.free 2
    have c0 := (HL.out.cell 0).trans (show _ = some (Value.int .i64 0) from rfl)
    have c1 := (HL.out.cell 1).trans (show _ = some (Value.int .i64 0) from rfl)
    have c2 := (HL.out.cell 2).trans (show _ = some (Value.int .i64 0) from rfl)
    go_wp2_with fail
    have HBZ := Lib.hid (HB9.out.trans ((st3_kept w7 N0 (.int .i64 0) (.int .i64 0) (.int .i64 0)).below HB9.out.size (fun j hj (e : j = N0) => by have := HN0.out; omega)))
    have HRZ := Lib.hid (st3_lies (a0 := (.int .i64 0)) (a1 := (.int .i64 0)) (a2 := (.int .i64 0)) HL.out)
    have q0 := (HRZ.out.cell 0).trans (show _ = some ((.int .i64 0)) from rfl)
    have q1 := (HRZ.out.cell 1).trans (show _ = some ((.int .i64 0)) from rfl)
    have q2 := (HRZ.out.cell 2).trans (show _ = some ((.int .i64 0)) from rfl)
    refine bodyPost_ret (v := .tuple #[.agg riZ, (.bool false)]) (by simp [results, Tryz.results62, go_sem, q0, q1, q2]) rfl ?_
    exact ⟨by rw [HXX.out]; rfl, HBZ.out⟩
   ·by_cases h255 : m ≤ 255
    ·have HS1 : Hid (smB10 b = true) := by show _ = _; rw [HSB.out, hnb, decide_eq_true h255]; rfl
     have g1 : decide ((m : Int) > 255) = false := decide_eq_false (by omega)
     have g2 : decide (255 < (m : Int)) = false := decide_eq_false (by omega)
     have hw : IntKind.i64.wrap (m : Int) = (m : Int) := by rw [IntKind.wrap_i64]; omega
     clear hnb
     go_wp2_with (at_builtin; refine append_one _ (.int .i64 (m : Int)) rfl (.tmp 28) (.tmp 31) 63 rfl w.heap.size 3 _ _ Tryz.underlying63 infoI10 rfl rfl _ _ _ rfl HO7.out rfl (by unfold maxLen; omega) (by omega) hz7 ?_)
     intro v8 w8 ho8 hb8 hgr8
     have HO8 : Hid (w8.ownsRow w.heap.size 3 1 v8 (k + 1) (nmL10 (rs.take (k + 1)))) := by
      show World.ownsRow _ _ _ _ _ _ _
      rw [List.take_add_one, HBM.out]
      unfold nmL10 at ho8 ⊢
      rw [List.map_append]
      rw [HM.out] at ho8
      exact ho8
     have HSM8 : Hid (∀ c ∈ rs.take (k + 1), smB10 c = true) := by
      intro c hc
      rw [List.take_add_one, HBM.out, List.mem_append] at hc
      rcases hc with hc | hc
      ·exact HSM.out c hc
      ·rw [Option.toList_some, List.mem_singleton] at hc
       rw [hc]; exact HS1.out
     have HL8 := Lib.hid (HL7.out.kept (kept_grown hgr8) (own_ne HO7.out HL7.out (by decide)))
     have HB8 := Lib.hid (HB7.out.trans hb8)
     clear ho8 hb8 hgr8 HO7 HL7 HB7 HSM hz7
     go_wp2
     go_roundw
     case rel => exact ⟨k + 1, by omega, by go_num, HSM8, HO8, HL8, HB8⟩
     case measure => simp [intOf]; omega
    ·have HXX : Hid (rrR w0 rs = (ri0, false)) := rrR_bad HBM.out (by rw [HSB.out, hnb, decide_eq_false h255]; rfl)
     have g1 : decide ((m : Int) > 255) = true := decide_eq_true (by omega)
     have g2 : decide (255 < (m : Int)) = true := decide_eq_true (by omega)
     have HL := HL7
     have HB9 := HB7
     clear hnb
     have lt := HL.out.lt
     have f0 := HL.out.free 0
     have f1 := HL.out.free 1
     have f2 := HL.out.free 2
     have c0 := (HL.out.cell 0).trans (show _ = some (Value.int .i64 0) from rfl)
     have c1 := (HL.out.cell 1).trans (show _ = some (Value.int .i64 0) from rfl)
     have c2 := (HL.out.cell 2).trans (show _ = some (Value.int .i64 0) from rfl)
     go_wp2_with fail
     have HBZ := Lib.hid (HB9.out.trans ((st3_kept w7 N0 (.int .i64 0) (.int .i64 0) (.int .i64 0)).below HB9.out.size (fun j hj (e : j = N0) => by have := HN0.out; omega)))
     have HRZ := Lib.hid (st3_lies (a0 := (.int .i64 0)) (a1 := (.int .i64 0)) (a2 := (.int .i64 0)) HL.out)
     have q0 := (HRZ.out.cell 0).trans (show _ = some ((.int .i64 0)) from rfl)
     have q1 := (HRZ.out.cell 1).trans (show _ = some ((.int .i64 0)) from rfl)
     have q2 := (HRZ.out.cell 2).trans (show _ = some ((.int .i64 0)) from rfl)
     refine bodyPost_ret (v := .tuple #[.agg riZ, (.bool false)]) (by simp [results, Tryz.results62, go_sem, q0, q1, q2]) rfl ?_
     exact ⟨by rw [HXX.out]; rfl, HBZ.out⟩
  ·obtain rfl : k = rs.length := by omega
   rw [List.take_length] at HSM HO
   have HXX := Lib.hid (rrR_ok (w0 := w0) HSM.out)
   have d0 := cell_later HDW.out HB5.out
   have dl := World.block_lt_of_cell? _ _ d0
   obtain ⟨A8, c8, rfl⟩ := own_sliceD HO.out
   have HB9 := HB5
   have HL := HL5
   clear HSM HB5 HL5
   by_cases hq : w0 = quW
   ·subst hq
    rw [show textB quW = (⟨#[113, 117, 101, 117, 101]⟩ : ByteArray) from rfl] at d0
    by_cases h1 : rs.length = 1
    ·obtain ⟨a, rfl⟩ := List.length_eq_one_iff.1 h1
     obtain ⟨b8, o8, c9, he8, hc1, hc2, hbl, hcc⟩ := (SeqS.of_owns HO.out).cells1 (by simp)
     cases he8
     have s0 : wr.cell? ⟨b8, o8 + 0, none⟩ = some (.int .i64 ((numV a : Nat) : Int)) := hcc 0 _ rfl
     rw [Nat.add_zero] at s0
     have HYY := Lib.hid (HXX.out.trans rrT_q)
     obtain ⟨m, hm⟩ : ∃ m, m = numV a := ⟨_, rfl⟩
     rw [← hm] at s0 HYY
     clear hm hcc HO
     have lt := HL.out.lt
     have f0 := HL.out.free 0
     have f1 := HL.out.free 1
     have f2 := HL.out.free 2
     have c0 := (HL.out.cell 0).trans (show _ = some (Value.int .i64 0) from rfl)
     have c1 := (HL.out.cell 1).trans (show _ = some (Value.int .i64 0) from rfl)
     have c2 := (HL.out.cell 2).trans (show _ = some (Value.int .i64 0) from rfl)
     go_wp2_with fail
     have HBZ := Lib.hid (HB9.out.trans ((st3_kept wr N0 (.int .i64 1) (.int .i64 (m : Int)) (.int .i64 1)).below HB9.out.size (fun j hj (e : j = N0) => by have := HN0.out; omega)))
     have HRZ := Lib.hid (st3_lies (a0 := (.int .i64 1)) (a1 := (.int .i64 (m : Int))) (a2 := (.int .i64 1)) HL.out)
     have q0 := (HRZ.out.cell 0).trans (show _ = some ((.int .i64 1)) from rfl)
     have q1 := (HRZ.out.cell 1).trans (show _ = some ((.int .i64 (m : Int))) from rfl)
     have q2 := (HRZ.out.cell 2).trans (show _ = some ((.int .i64 1)) from rfl)
     refine bodyPost_ret (v := .tuple #[.agg (riC ⟨1,(m : Int),1⟩), (.bool true)]) (by simp [results, Tryz.results62, go_sem, q0, q1, q2]) rfl ?_
     exact ⟨by rw [HYY.out], HBZ.out⟩
    ·have e1 : ((rs.length : Int) == 1) = false := by rw [beq_eq_false_iff_ne]; omega
     replace HXX := Lib.hid (HXX.out.trans (rrT_no (fun h => h1 h.2) (fun h => absurd h.1 (by decide))))
     have lt := HL.out.lt
     have f0 := HL.out.free 0
     have f1 := HL.out.free 1
     have f2 := HL.out.free 2
     have c0 := (HL.out.cell 0).trans (show _ = some (Value.int .i64 0) from rfl)
     have c1 := (HL.out.cell 1).trans (show _ = some (Value.int .i64 0) from rfl)
     have c2 := (HL.out.cell 2).trans (show _ = some (Value.int .i64 0) from rfl)
     go_wp2_with fail
     have HBZ := Lib.hid (HB9.out.trans ((st3_kept wr N0 (.int .i64 0) (.int .i64 0) (.int .i64 0)).below HB9.out.size (fun j hj (e : j = N0) => by have := HN0.out; omega)))
     have HRZ := Lib.hid (st3_lies (a0 := (.int .i64 0)) (a1 := (.int .i64 0)) (a2 := (.int .i64 0)) HL.out)
     have q0 := (HRZ.out.cell 0).trans (show _ = some ((.int .i64 0)) from rfl)
     have q1 := (HRZ.out.cell 1).trans (show _ = some ((.int .i64 0)) from rfl)
     have q2 := (HRZ.out.cell 2).trans (show _ = some ((.int .i64 0)) from rfl)
     refine bodyPost_ret (v := .tuple #[.agg riZ, (.bool false)]) (by simp [results, Tryz.results62, go_sem, q0, q1, q2]) rfl ?_
     exact ⟨by rw [HXX.out]; rfl, HBZ.out⟩
   ·by_cases hca : w0 = caW
    ·subst hca
     rw [show textB caW = (⟨#[99, 97, 115, 116]⟩ : ByteArray) from rfl] at d0
     by_cases h2 : rs.length = 2
     ·obtain ⟨a, b, rfl⟩ : ∃ a b, rs = [a, b] := by match rs, h2 with | [a, b], _ => exact ⟨a, b, rfl⟩
      obtain ⟨b8, o8, c9, he8, hc1, hc2, hbl, hcc⟩ := (SeqS.of_owns HO.out).cells1 (by simp)
      cases he8
      have s0 : wr.cell? ⟨b8, o8 + 0, none⟩ = some (.int .i64 ((numV a : Nat) : Int)) := hcc 0 _ rfl
      have s1 : wr.cell? ⟨b8, o8 + 1, none⟩ = some (.int .i64 ((numV b : Nat) : Int)) := hcc 1 _ rfl
      rw [Nat.add_zero] at s0
      have HYY := Lib.hid (HXX.out.trans rrT_c)
      have hbn : ¬ b8 = N0 := fun e => by
       rcases owns_row HO.out with ⟨h, _⟩ | ⟨r9, cap, cur, hv, _, hl, _⟩
       ·cases h
       ·cases hv; subst e; exact absurd (hl.same HL.out).1 (by decide)
      obtain ⟨m, hm⟩ : ∃ m, m = numV a := ⟨_, rfl⟩
      obtain ⟨m2, hm2⟩ : ∃ m, m = numV b := ⟨_, rfl⟩
      rw [← hm] at s0 HYY
      rw [← hm2] at s1 HYY
      clear hm hm2 hcc HO hq
      go_wp2_with fail
      refine wp_region_held_drew (S := fun y => y.cell? ⟨b8, o8, none⟩ = some (.int .i64 (m : Int)) ∧ y.cell? ⟨b8, o8 + 1, none⟩ = some (.int .i64 (m2 : Int)) ∧ b8 < y.heap.size) (by kernel_rfl) ⟨s0, s1, hbl⟩ (fun hHeld => ?_)
      clear s0 s1 hbl d0 dl
      replace HL := Lib.hid HL.out.drew
      replace HB9 := Lib.hid (show Below w.heap.size w wr.drew from below_drewN HB9.out 1)
      generalize wr.drew = wD at *
      have lt := HL.out.lt
      have f0 := HL.out.free 0
      have f1 := HL.out.free 1
      have f2 := HL.out.free 2
      have c0 := (HL.out.cell 0).trans (show _ = some (Value.int .i64 0) from rfl)
      have c1 := (HL.out.cell 1).trans (show _ = some (Value.int .i64 0) from rfl)
      have c2 := (HL.out.cell 2).trans (show _ = some (Value.int .i64 0) from rfl)
      try simp only [Act.put, List.setIfInBounds_toArray, List.set_cons_zero, List.set_cons_succ]
      refine wpAnyH_take (i := 0) (v := (.slice (some ⟨b8, o8, none⟩) 2 c8)) rfl (by kernel_rfl) (by kernel_rfl) (by kernel_rfl) (fun _ _ _ h => h) (Or.inl ⟨by rfl, fun w h => by (simp only [List.getElem_toArray, List.getElem_cons_succ, List.getElem_cons_zero]; clear h; go_simp)⟩) (by assumption) ?_
      simp only [Act.put, List.getElem_toArray, List.getElem_cons_succ, List.getElem_cons_zero, List.setIfInBounds_toArray, List.set_cons_zero, List.set_cons_succ]
      refine wpAnyH_take (i := 1) (v := (.pointer (some ⟨b8, o8, none⟩))) rfl (by kernel_rfl) (by kernel_rfl) (by kernel_rfl) (fun _ _ _ h => h) (Or.inl ⟨by rfl, fun w h => by (simp only [List.getElem_toArray, List.getElem_cons_succ, List.getElem_cons_zero]; clear h; go_simp)⟩) (by assumption) ?_
      simp only [Act.put, List.getElem_toArray, List.getElem_cons_succ, List.getElem_cons_zero, List.setIfInBounds_toArray, List.set_cons_zero, List.set_cons_succ]
      refine wpAnyH_take (i := 2) (v := (.int .i64 (m : Int))) rfl (by kernel_rfl) (by kernel_rfl) (by kernel_rfl) (fun _ _ _ h => h) (Or.inl ⟨by rfl, fun w h => by (simp only [List.getElem_toArray, List.getElem_cons_succ, List.getElem_cons_zero]; have h1 := h.1; have h2 := h.2.2; clear h; go_simp)⟩) (by assumption) ?_
      simp only [Act.put, List.getElem_toArray, List.getElem_cons_succ, List.getElem_cons_zero, List.setIfInBounds_toArray, List.set_cons_zero, List.set_cons_succ]
      refine wpAnyH_take (i := 3) (v := (.slice (some ⟨b8, o8, none⟩) 2 c8)) rfl (by kernel_rfl) (by kernel_rfl) (by kernel_rfl) (fun _ _ _ h => h) (Or.inl ⟨by rfl, fun w h => by (simp only [List.getElem_toArray, List.getElem_cons_succ, List.getElem_cons_zero]; clear h; go_simp)⟩) (by assumption) ?_
      simp only [Act.put, List.getElem_toArray, List.getElem_cons_succ, List.getElem_cons_zero, List.setIfInBounds_toArray, List.set_cons_zero, List.set_cons_succ]
      refine wpAnyH_take (i := 4) (v := (.pointer (some ⟨b8, o8 + 1, none⟩))) rfl (by kernel_rfl) (by kernel_rfl) (by kernel_rfl) (fun _ _ _ h => h) (Or.inl ⟨by rfl, fun w h => by (simp only [List.getElem_toArray, List.getElem_cons_succ, List.getElem_cons_zero]; clear h; go_simp)⟩) (by assumption) ?_
      simp only [Act.put, List.getElem_toArray, List.getElem_cons_succ, List.getElem_cons_zero, List.setIfInBounds_toArray, List.set_cons_zero, List.set_cons_succ]
      refine wpAnyH_take (i := 5) (v := (.int .i64 (m2 : Int))) rfl (by kernel_rfl) (by kernel_rfl) (by kernel_rfl) (fun _ _ _ h => h) (Or.inl ⟨by rfl, fun w h => by (simp only [List.getElem_toArray, List.getElem_cons_succ, List.getElem_cons_zero]; have h1 := h.2.1; have h2 := h.2.2; clear h; go_simp)⟩) (by assumption) ?_
      simp only [Act.put, List.getElem_toArray, List.getElem_cons_succ, List.getElem_cons_zero, List.setIfInBounds_toArray, List.set_cons_zero, List.set_cons_succ]
      refine wpAnyH_take (i := 6) (v := (.agg #[.int .i64 2, .int .i64 (m : Int), .int .i64 (m2 : Int)])) rfl (by kernel_rfl) (by kernel_rfl) (by kernel_rfl) (fun _ _ _ h => h) (Or.inl ⟨by rfl, fun w h => by (simp only [List.getElem_toArray, List.getElem_cons_succ, List.getElem_cons_zero]; clear h; go_simp)⟩) (by assumption) ?_
      simp only [Act.put, List.getElem_toArray, List.getElem_cons_succ, List.getElem_cons_zero, List.setIfInBounds_toArray, List.set_cons_zero, List.set_cons_succ]
      refine wpAnyH_ready (rs := [7]) (by kernel_rfl) (by simp) ?_
      refine AllReadyH.cons rfl (fun K hK => ?_) AllReadyH.nil
      rw [if_pos (by rfl)]
      go_wp2_with fail
      refine hK.out _ _ (have k3 := st3_kept wD N0 (.int .i64 2) (.int .i64 (m : Int)) (.int .i64 (m2 : Int)); ⟨(cell_keptN k3 hHeld.2.2 (fun (e : b8 = N0) => hbn e)).trans hHeld.1, (cell_keptN k3 hHeld.2.2 (fun (e : b8 = N0) => hbn e)).trans hHeld.2.1, Nat.lt_of_lt_of_le hHeld.2.2 k3.size⟩) (fun hHeld2 => ?_)
      clear hK K hHeld
      try simp only [Act.put, List.setIfInBounds_toArray, List.set_cons_zero, List.set_cons_succ]
      refine wpAnyH_take (i := 8) (v := (.bool true)) rfl (by kernel_rfl) (by kernel_rfl) (by kernel_rfl) (fun _ _ _ h => h) (Or.inl ⟨by rfl, fun w h => by (simp only [List.getElem_toArray, List.getElem_cons_succ, List.getElem_cons_zero]; clear h; go_simp)⟩) (by assumption) ?_
      simp only [Act.put, List.getElem_toArray, List.getElem_cons_succ, List.getElem_cons_zero, List.setIfInBounds_toArray, List.set_cons_zero, List.set_cons_succ]
      refine wpAnyH_done (by kernel_rfl) ?_ _
      go_wp2_with fail
      have HBZ := Lib.hid (HB9.out.trans ((st3_kept wD N0 (.int .i64 2) (.int .i64 (m : Int)) (.int .i64 (m2 : Int))).below HB9.out.size (fun j hj (e : j = N0) => by have := HN0.out; omega)))
      have HRZ := Lib.hid (st3_lies (a0 := (.int .i64 2)) (a1 := (.int .i64 (m : Int))) (a2 := (.int .i64 (m2 : Int))) HL.out)
      have q0 := (HRZ.out.cell 0).trans (show _ = some ((.int .i64 2)) from rfl)
      have q1 := (HRZ.out.cell 1).trans (show _ = some ((.int .i64 (m : Int))) from rfl)
      have q2 := (HRZ.out.cell 2).trans (show _ = some ((.int .i64 (m2 : Int))) from rfl)
      refine bodyPost_ret (v := .tuple #[.agg (riC ⟨2,(m : Int),(m2 : Int)⟩), (.bool true)]) (by simp [results, Tryz.results62, go_sem, q0, q1, q2]) rfl ?_
      exact ⟨by rw [HYY.out], HBZ.out⟩
     ·have e1 : ((rs.length : Int) == 2) = false := by rw [beq_eq_false_iff_ne]; omega
      replace HXX := Lib.hid (HXX.out.trans (rrT_no (fun h => absurd h.1 (by decide)) (fun h => h2 h.2)))
      clear hq
      have lt := HL.out.lt
      have f0 := HL.out.free 0
      have f1 := HL.out.free 1
      have f2 := HL.out.free 2
      have c0 := (HL.out.cell 0).trans (show _ = some (Value.int .i64 0) from rfl)
      have c1 := (HL.out.cell 1).trans (show _ = some (Value.int .i64 0) from rfl)
      have c2 := (HL.out.cell 2).trans (show _ = some (Value.int .i64 0) from rfl)
      go_wp2_with fail
      have HBZ := Lib.hid (HB9.out.trans ((st3_kept wr N0 (.int .i64 0) (.int .i64 0) (.int .i64 0)).below HB9.out.size (fun j hj (e : j = N0) => by have := HN0.out; omega)))
      have HRZ := Lib.hid (st3_lies (a0 := (.int .i64 0)) (a1 := (.int .i64 0)) (a2 := (.int .i64 0)) HL.out)
      have q0 := (HRZ.out.cell 0).trans (show _ = some ((.int .i64 0)) from rfl)
      have q1 := (HRZ.out.cell 1).trans (show _ = some ((.int .i64 0)) from rfl)
      have q2 := (HRZ.out.cell 2).trans (show _ = some ((.int .i64 0)) from rfl)
      refine bodyPost_ret (v := .tuple #[.agg riZ, (.bool false)]) (by simp [results, Tryz.results62, go_sem, q0, q1, q2]) rfl ?_
      exact ⟨by rw [HXX.out]; rfl, HBZ.out⟩
    ·have hne1 : ((textB w0).toList == ([113, 117, 101, 117, 101] : List UInt8)) = false := by rw [text_toList, beq_eq_false_iff_ne]; exact hq
     have hne2 : ((textB w0).toList == ([99, 97, 115, 116] : List UInt8)) = false := by rw [text_toList, beq_eq_false_iff_ne]; exact hca
     replace HXX := Lib.hid (HXX.out.trans (rrT_no (fun h => hq h.1) (fun h => hca h.1)))
     obtain ⟨T0, hT0⟩ : ∃ T, T = textB w0 := ⟨_, rfl⟩
     rw [← hT0] at d0 hne1 hne2
     clear hT0
     have lt := HL.out.lt
     have f0 := HL.out.free 0
     have f1 := HL.out.free 1
     have f2 := HL.out.free 2
     have c0 := (HL.out.cell 0).trans (show _ = some (Value.int .i64 0) from rfl)
     have c1 := (HL.out.cell 1).trans (show _ = some (Value.int .i64 0) from rfl)
     have c2 := (HL.out.cell 2).trans (show _ = some (Value.int .i64 0) from rfl)
     go_wp2_with fail
     have HBZ := Lib.hid (HB9.out.trans ((st3_kept wr N0 (.int .i64 0) (.int .i64 0) (.int .i64 0)).below HB9.out.size (fun j hj (e : j = N0) => by have := HN0.out; omega)))
     have HRZ := Lib.hid (st3_lies (a0 := (.int .i64 0)) (a1 := (.int .i64 0)) (a2 := (.int .i64 0)) HL.out)
     have q0 := (HRZ.out.cell 0).trans (show _ = some ((.int .i64 0)) from rfl)
     have q1 := (HRZ.out.cell 1).trans (show _ = some ((.int .i64 0)) from rfl)
     have q2 := (HRZ.out.cell 2).trans (show _ = some ((.int .i64 0)) from rfl)
     refine bodyPost_ret (v := .tuple #[.agg riZ, (.bool false)]) (by simp [results, Tryz.results62, go_sem, q0, q1, q2]) rfl ?_
     exact ⟨by rw [HXX.out]; rfl, HBZ.out⟩
def rilB (r : Ri) : Bool := wB r.k 255 && (wB r.c 255 && wB r.r 255)
def encB (p : Pg) : Bool := decide (p.rs.length ≤ 8) && (decide (p.ts.length ≤ 8) && (p.rs.all rilB && p.ts.all (fun l => decide (l.length ≤ 256) && l.all rightB)))
theorem enc_parts {p : Pg} : encB p = true ↔ p.rs.length ≤ 8 ∧ p.ts.length ≤ 8 ∧ (∀ r ∈ p.rs, rilB r = true) ∧ ∀ l ∈ p.ts, l.length ≤ 256 ∧ ∀ x ∈ l, rightB x = true := by
 unfold encB
 simp only [Bool.and_eq_true, decide_eq_true_eq, List.all_eq_true]
theorem enc_not {p : Pg} (h : ¬ (p.rs.length ≤ 8 ∧ p.ts.length ≤ 8 ∧ (∀ r ∈ p.rs, rilB r = true) ∧ ∀ l ∈ p.ts, l.length ≤ 256 ∧ ∀ x ∈ l, rightB x = true)) : encB p = false := by
 cases hq : encB p with
 | false => rfl
 | true => exact absurd (enc_parts.1 hq) h
theorem take_all_next {α : Type} {q : α → Prop} {l : List α} {i : Nat} {x : α} (h : ∀ y ∈ l.take i, q y) (hx : l[i]? = some x) (hq : q x) : ∀ y ∈ l.take (i + 1), q y := by
 intro y hy
 rw [List.take_add_one, hx, Option.toList_some, List.mem_append] at hy
 rcases hy with hy | hy
 ·exact h y hy
 ·simp at hy; subst hy; exact hq
set_option maxHeartbeats 8000000 in
set_option maxRecDepth 100000 in
theorem enc_any (p : Pg) (A : Option Addr) (c : Nat) (B : Option Addr) (d : Nat) (w : World) (h : PgAt w A c B d p) :
  Calls Tryz.prog 40 #[.agg (pgC A c B d p)] w fun e w' => e = .returned (.bool (encB p)) ∧ Below w.heap.size w w' := by
 obtain ⟨hc1, hc2⟩ := seq_form h.1
 obtain ⟨hd1, hd2⟩ := h.2.form
 have hb0 : Below w.heap.size w (w.alloc (.cells (pgC A c B d p) 25)) := (Below.refl _ _).alloc (Nat.le_refl _) _
 have l0 := Lies.made w 25 (pgC A c B d p)
 have HH := Lib.hid h
 have HB0 := Lib.hid hb0
 have HL0 := Lib.hid l0
 have HEN := Lib.hid (@enc_not p)
 have HET := Lib.hid (@enc_parts p).2
 clear h hb0 l0
 by_cases h1 : 8 < p.rs.length
 ·have HE := Lib.hid (HEN.out (fun h => by have := h.1; omega))
  have e1 : decide ((8 : Int) < (p.rs.length : Int)) = true := decide_eq_true (by omega)
  have e2 : decide (8 < p.rs.length) = true := decide_eq_true h1
  clear h1 HEN HET
  go_enter Tryz.func40, Tryz.ntmps40
  go_wp2
  go_ret
  exact ⟨ret_bool (by rw [HE.out]), HB0.out⟩
 have e1 : decide ((8 : Int) < (p.rs.length : Int)) = false := decide_eq_false (by omega)
 have e2 : decide (8 < p.rs.length) = false := decide_eq_false h1
 by_cases h2 : 8 < p.ts.length
 ·have HE := Lib.hid (HEN.out (fun h => by have := h.2.1; omega))
  have e3 : decide ((8 : Int) < (p.ts.length : Int)) = true := decide_eq_true (by omega)
  have e4 : decide (8 < p.ts.length) = true := decide_eq_true h2
  clear h2 HEN HET
  go_enter Tryz.func40, Tryz.ntmps40
  go_wp2
  go_ret
  exact ⟨ret_bool (by rw [HE.out]), HB0.out⟩
 have e3 : decide ((8 : Int) < (p.ts.length : Int)) = false := decide_eq_false (by omega)
 have e4 : decide (8 < p.ts.length) = false := decide_eq_false h2
 go_enter Tryz.func40, Tryz.ntmps40
 go_wp2_with fail
 generalize w.alloc (.cells (pgC A c B d p) 25) = w1 at *
 go_loopw [22] (fun u wr => ∃ i : Nat, i ≤ p.rs.length ∧ u = .int .i64 i ∧ Hid (∀ r ∈ p.rs.take i, rilB r = true) ∧ Hid (Below w.heap.size w wr) ∧ Hid (Lies wr w.heap.size 25 (pgC A c B d p))) (fun u _ => p.rs.length - (intOf u).toNat)
 case atStart => exact ⟨0, by omega, rfl, (by show ∀ r ∈ p.rs.take 0, _; simp), HB0, HL0⟩
 case round =>
  clear HB0 HL0
  obtain ⟨i, hi, rfl, hq, hbw, hlw⟩ := hrel
  by_cases hlt : i < p.rs.length
  ·have hii : (i : Int) < (p.rs.length : Int) := by omega
   obtain ⟨r, hr⟩ : ∃ r, p.rs[i]? = some r := ⟨_, List.getElem?_eq_getElem hlt⟩
   obtain ⟨b, off, rfl, hbl, hg⟩ := RisAt.at_ (HH.out.1.later hbw.out) hr
   have g0 := hg 0 _ (by decide) rfl
   have g1 := hg 1 _ (by decide) rfl
   have g2 := hg 2 _ (by decide) rfl
   rw [Nat.add_zero] at g0
   have hbx : Below wr.heap.size wr (wr.alloc (.cells #[.int .i64 r.k, .int .i64 r.c, .int .i64 r.r] 51)) := (Below.refl _ _).alloc (Nat.le_refl _) _
   have HBW := Lib.hid (hbw.out.trans (hbx.mono hbw.out.size))
   have HLW := Lib.hid (hlw.out.below hbx hlw.out.lt)
   have HN := Lib.hid (fun (h : rilB r = true) => take_all_next (q := fun r => rilB r = true) hq.out hr h)
   have HNO := Lib.hid (fun (h : rilB r = false) => HEN.out (fun hh => by have := hh.2.2.1 r (List.mem_of_getElem? hr); rw [h] at this; cases this))
   have HR : Hid (rilB r = (wB r.k 255 && (wB r.c 255 && wB r.r 255))) := rfl
   obtain ⟨bk, hbk⟩ : ∃ q, wB r.k 255 = q := ⟨_, rfl⟩
   obtain ⟨bc, hbc⟩ : ∃ q, wB r.c 255 = q := ⟨_, rfl⟩
   obtain ⟨br, hbr⟩ : ∃ q, wB r.r 255 = q := ⟨_, rfl⟩
   have HK : Hid (rilB r = (bk && (bc && br))) := by show _ = _; rw [← hbk, ← hbc, ← hbr]; rfl
   have C1 := Lib.hid (fun w => hbk ▸ within_any r.k 255 w)
   have C2 := Lib.hid (fun w => hbc ▸ within_any r.c 255 w)
   have C3 := Lib.hid (fun w => hbr ▸ within_any r.r 255 w)
   clear hbk hbc hbr hg hr hbx hq hbw hlw
   go_wp2_with fail
   refine (C1.out _).mono ?_
   rintro e w4 ⟨rfl, rfl⟩
   cases bk
   case false =>
    have HE := Lib.hid (HNO.out (by rw [HK.out]; rfl))
    go_wp2
    go_ret
    exact ⟨ret_bool (by rw [HE.out]), HBW.out⟩
   go_wp2_with fail
   refine (C2.out _).mono ?_
   rintro e w4 ⟨rfl, rfl⟩
   cases bc
   case false =>
    have HE := Lib.hid (HNO.out (by rw [HK.out]; rfl))
    go_wp2
    go_ret
    exact ⟨ret_bool (by rw [HE.out]), HBW.out⟩
   go_wp2_with fail
   refine (C3.out _).mono ?_
   rintro e w4 ⟨rfl, rfl⟩
   cases br
   case false =>
    have HE := Lib.hid (HNO.out (by rw [HK.out]; rfl))
    go_wp2
    go_ret
    exact ⟨ret_bool (by rw [HE.out]), HBW.out⟩
   have HN2 := Lib.hid (HN.out (by rw [HK.out]; rfl))
   go_wp2
   go_roundw
   case rel => exact ⟨i + 1, by omega, by go_num, HN2, HBW, HLW⟩
   case measure => simp [intOf]; omega
  ·obtain rfl : i = p.rs.length := by omega
   have hq2 := hq.out
   rw [List.take_length] at hq2
   have HRA := Lib.hid hq2
   have c1 := (hlw.out.cell 1).trans (show _ = some (Value.slice B p.ts.length d) from rfl)
   have hlt2 := hlw.out.lt
   clear hq hq2
   go_wp2_with fail
   clear c1 hlt2
   go_loopw [46] (fun u wq => ∃ t : Nat, t ≤ p.ts.length ∧ u = .int .i64 t ∧ Hid (∀ l ∈ p.ts.take t, l.length ≤ 256 ∧ ∀ x ∈ l, rightB x = true) ∧ Hid (Below w.heap.size w wq)) (fun u _ => p.ts.length - (intOf u).toNat)
   case atStart => exact ⟨0, by omega, rfl, (by show ∀ l ∈ p.ts.take 0, _; simp), hbw⟩
   case round =>
    clear hbw hlw
    obtain ⟨t, ht, rfl, hq, hbw⟩ := hrel
    by_cases hlt : t < p.ts.length
    ·have hii : (t : Int) < (p.ts.length : Int) := by omega
     obtain ⟨l, hl⟩ : ∃ l, p.ts[t]? = some l := ⟨_, List.getElem?_eq_getElem hlt⟩
     obtain ⟨b, off, B2, d2, rfl, g0, hil⟩ := (HH.out.2.later hbw.out).at_ hl
     obtain ⟨hc3, hc4⟩ := seq_form hil
     have gl := World.block_lt_of_cell? _ _ g0
     have HIL := Lib.hid hil
     have HN := Lib.hid (fun (h : l.length ≤ 256 ∧ ∀ x ∈ l, rightB x = true) => take_all_next (q := fun l => l.length ≤ 256 ∧ ∀ x ∈ l, rightB x = true) hq.out hl h)
     have HNO := Lib.hid (fun (h : ¬ (l.length ≤ 256 ∧ ∀ x ∈ l, rightB x = true)) => HEN.out (fun hh => h (hh.2.2.2 l (List.mem_of_getElem? hl))))
     clear hq hil hl
     by_cases h256 : 256 < l.length
     ·have HE := Lib.hid (HNO.out (fun h => by have := h.1; omega))
      have e5 : decide ((256 : Int) < (l.length : Int)) = true := decide_eq_true (by omega)
      have e6 : decide (256 < l.length) = true := decide_eq_true h256
      go_wp2
      go_ret
      exact ⟨ret_bool (by rw [HE.out]), hbw.out⟩
     have e5 : decide ((256 : Int) < (l.length : Int)) = false := decide_eq_false (by omega)
     have e6 : decide (256 < l.length) = false := decide_eq_false h256
     go_wp2_with fail
     clear g0 gl
     obtain ⟨wo, rfl⟩ : ∃ wo : World, wo = wr := ⟨_, rfl⟩
     go_loopw [55] (fun u wk => ∃ k : Nat, k ≤ l.length ∧ u = .int .i64 k ∧ Hid (∀ x ∈ l.take k, rightB x = true) ∧ Hid (Below wo.heap.size wo wk)) (fun u _ => l.length - (intOf u).toNat)
     case atStart => exact ⟨0, by omega, rfl, (by show ∀ x ∈ l.take 0, _; simp), Below.refl _ _⟩
     case round =>
      obtain ⟨k, hk, rfl, hqk, hbk⟩ := hrel
      by_cases hkl : k < l.length
      ·have hkk : (k : Int) < (l.length : Int) := by omega
       obtain ⟨x, hx⟩ : ∃ x, l[k]? = some x := ⟨_, List.getElem?_eq_getElem hkl⟩
       obtain ⟨b3, off3, rfl, _, hg⟩ := InsAt.at_ (HIL.out.later hbk.out) hx
       have y0 := hg 0 _ (by decide) rfl
       have y1 := hg 1 _ (by decide) rfl
       have y2 := hg 2 _ (by decide) rfl
       have y3 := hg 3 _ (by decide) rfl
       have y4 := hg 4 _ (by decide) rfl
       have y5 := hg 5 _ (by decide) rfl
       rw [Nat.add_zero] at y0
       have hbx : Below wr.heap.size wr (wr.alloc (.cells (inC x) 28)) := (Below.refl _ _).alloc (Nat.le_refl _) _
       have HBX := Lib.hid (hbk.out.trans (hbx.mono hbk.out.size))
       obtain ⟨rb, hrb⟩ : ∃ q, rightB x = q := ⟨_, rfl⟩
       have HX := Lib.hid hx
       have HRX := Lib.hid hrb
       have HC := Lib.hid (fun w => hrb ▸ right_any x w)
       clear hg hx hbx hbk hrb
       go_wp2_with fail
       refine (HC.out _).mono ?_
       rintro e w4 ⟨rfl, hb4⟩
       have HB4 := Lib.hid (HBX.out.trans (hb4.mono HBX.out.size))
       clear hb4 y0 y1 y2 y3 y4 y5 HBX HC
       cases rb
       case false =>
        have HE := Lib.hid (HNO.out (fun h => by have := h.2 x (List.mem_of_getElem? HX.out); rw [HRX.out] at this; cases this))
        have HB5 := Lib.hid (hbw.out.trans (HB4.out.mono hbw.out.size))
        go_wp2
        go_ret
        exact ⟨ret_bool (by rw [HE.out]), HB5.out⟩
       have HQ := Lib.hid (take_all_next (q := fun x => rightB x = true) hqk.out HX.out HRX.out)
       go_wp2
       go_roundw
       case rel => exact ⟨k + 1, by omega, by go_num, HQ, HB4⟩
       case measure => simp [intOf]; omega
      ·obtain rfl : k = l.length := by omega
       have hqk2 := hqk.out
       rw [List.take_length] at hqk2
       have HN2 := Lib.hid (HN.out ⟨by omega, hqk2⟩)
       have HB5 := Lib.hid (hbw.out.trans (hbk.out.mono hbw.out.size))
       clear hqk hqk2
       go_wp2
       go_roundw
       case rel => exact ⟨t + 1, by omega, by go_num, HN2, HB5⟩
       case measure => simp [intOf]; omega
    ·obtain rfl : t = p.ts.length := by omega
     have hq2 := hq.out
     rw [List.take_length] at hq2
     have HE := Lib.hid (HET.out ⟨by omega, by omega, HRA.out, hq2⟩)
     clear hq hq2
     go_wp2
     go_ret
     exact ⟨ret_bool (by rw [HE.out]), hbw.out⟩
def lnrT (r : Ri) : ByteArray := if rilOk r = true then textB (lnR r) else ⟨#[]⟩
theorem rilOk_eq {r : Ri} (hc : 0 ≤ r.c ∧ r.c ≤ 255) (hr : 0 ≤ r.r ∧ r.r ≤ 255) : rilOk r = ((r.k == 1 && r.r == 1) || r.k == 2) := by
 unfold rilOk
 rw [decide_eq_true hc.1, decide_eq_true hc.2, decide_eq_true hr.1, decide_eq_true hr.2]
 rfl
theorem lnrT_q {n : Nat} (h : n ≤ 255) : rilOk ⟨1, (n : Int), 1⟩ = true ∧ lnrT ⟨1, (n : Int), 1⟩ = (⟨#[113, 117, 101, 117, 101, 32]⟩ : ByteArray) ++ textB (decE n) := by
 have h1 : rilOk ⟨1, (n : Int), 1⟩ = true := by rw [rilOk_eq (by simp; omega) (by simp)]; rfl
 refine ⟨h1, ?_⟩
 unfold lnrT
 rw [if_pos h1]
 unfold lnR
 rw [if_pos rfl, show (⟨#[113, 117, 101, 117, 101, 32]⟩ : ByteArray) = textB [113, 117, 101, 117, 101, 32] from rfl, text_append]
 show textB (_ ++ decE (n : Int).toNat) = _
 rw [Int.toNat_natCast]
theorem lnrT_c {n m : Nat} (h : n ≤ 255) (h2 : m ≤ 255) : rilOk ⟨2, (n : Int), (m : Int)⟩ = true ∧ lnrT ⟨2, (n : Int), (m : Int)⟩ = (⟨#[99, 97, 115, 116, 32]⟩ : ByteArray) ++ textB (decE n) ++ ⟨#[32]⟩ ++ textB (decE m) := by
 have h1 : rilOk ⟨2, (n : Int), (m : Int)⟩ = true := by rw [rilOk_eq (by simp; omega) (by simp; omega)]; simp
 refine ⟨h1, ?_⟩
 unfold lnrT
 rw [if_pos h1]
 unfold lnR
 rw [if_neg (show ¬ (2 : Int) = 1 by decide), show (⟨#[99, 97, 115, 116, 32]⟩ : ByteArray) = textB [99, 97, 115, 116, 32] from rfl, show (⟨#[32]⟩ : ByteArray) = textB [32] from rfl, text_append, text_append, text_append]
 show textB (_ ++ (decE (n : Int).toNat ++ 32 :: decE (m : Int).toNat)) = _
 rw [Int.toNat_natCast, Int.toNat_natCast]
 simp
theorem lnrT_n {r : Ri} (hc : 0 ≤ r.c ∧ r.c ≤ 255) (hr : 0 ≤ r.r ∧ r.r ≤ 255) (h1 : ¬ (r.k = 1 ∧ r.r = 1)) (h2 : r.k ≠ 2) : rilOk r = false ∧ lnrT r = ⟨#[]⟩ := by
 have h : rilOk r = false := by
  rw [rilOk_eq hc hr]
  simp only [Bool.or_eq_false_iff, Bool.and_eq_false_iff, beq_eq_false_iff_ne, ne_eq]
  refine ⟨?_, h2⟩
  by_cases h3 : r.k = 1
  ·exact .inr fun h4 => h1 ⟨h3, h4⟩
  ·exact .inl h3
 refine ⟨h, ?_⟩
 unfold lnrT
 rw [h, if_neg (by decide)]
set_option maxHeartbeats 8000000 in
set_option maxRecDepth 100000 in
theorem ringLine_any (r : Ri) (w : World) (hc : 0 ≤ r.c ∧ r.c ≤ 255) (hr : 0 ≤ r.r ∧ r.r ≤ 255) (hp : PowAt w) : Calls Tryz.prog 23 #[.agg (riC r)] w fun e w' => e = .returned (.tuple #[.string (lnrT r), .bool (rilOk r)]) ∧ Below w.heap.size w w' := by
 have HB := Lib.hid ((Below.refl w.heap.size w).alloc (Nat.le_refl _) (.cells (riC r) 51))
 have HL := Lib.hid (Lies.made w 51 (riC r))
 have HP := Lib.hid hp
 have HNO := Lib.hid (lnrT_n hc hr)
 obtain ⟨k, c, rd⟩ := r
 simp only at hc hr
 obtain ⟨n, rfl⟩ : ∃ n : Nat, c = (n : Int) := ⟨c.toNat, by omega⟩
 obtain ⟨m, rfl⟩ : ∃ m : Nat, rd = (m : Int) := ⟨rd.toNat, by omega⟩
 clear hp
 by_cases h1 : k = 1 ∧ (m : Int) = 1
 ·obtain ⟨rfl, hm⟩ := h1
  obtain rfl : m = 1 := by omega
  obtain ⟨e1, e2⟩ := lnrT_q (n := n) (by omega)
  have HOK := Lib.hid e1
  have hnl := @decE_len n
  obtain ⟨T, hT⟩ : ∃ T, T = textB (decE n) := ⟨_, rfl⟩
  have HI := Lib.hid (itoaAny n (w.alloc (.cells (riC ⟨1, (n : Int), ((1 : Nat) : Int)⟩) 51)) (by omega) (HP.out.later HB.out))
  have hts : T.size ≤ 20 := by rw [hT, textB_size]; exact hnl
  rw [← hT] at HI e2
  have HE := Lib.hid e2
  clear hT hnl e1 e2 HNO
  have z1 : ¬ 9223372036854775807 < 6 + T.size := by omega
  go_enter Tryz.func23, Tryz.ntmps23
  go_wp2_with fail
  refine HI.out.mono ?_
  rintro e w2 ⟨rfl, hb2⟩
  have HB2 := Lib.hid (HB.out.trans (hb2.mono HB.out.size))
  clear hb2
  go_wp2
  go_ret2
  exact ⟨by rw [show lnrT ⟨1, (n : Int), ((1 : Nat) : Int)⟩ = _ from HE.out, show rilOk ⟨1, (n : Int), ((1 : Nat) : Int)⟩ = true from HOK.out]; rfl, HB2.out⟩
 by_cases h2 : k = 2
 ·subst h2
  obtain ⟨e1, e2⟩ := lnrT_c (n := n) (m := m) (by omega) (by omega)
  have HOK := Lib.hid e1
  have hnl := @decE_len n
  have hml := @decE_len m
  obtain ⟨T, hT⟩ : ∃ T, T = textB (decE n) := ⟨_, rfl⟩
  obtain ⟨U, hU⟩ : ∃ U, U = textB (decE m) := ⟨_, rfl⟩
  have hts : T.size ≤ 20 := by rw [hT, textB_size]; exact hnl
  have hus : U.size ≤ 20 := by rw [hU, textB_size]; exact hml
  have HI := Lib.hid (fun (q : World) (hq : PowAt q) => itoaAny n q (by omega) hq)
  have HJ := Lib.hid (fun (q : World) (hq : PowAt q) => itoaAny m q (by omega) hq)
  rw [← hT] at HI e2
  rw [← hU] at HJ e2
  have HE := Lib.hid e2
  clear hT hnl e1 e2 HNO hU hml h1
  have z1 : ¬ 9223372036854775807 < 5 + T.size := by omega
  have z2 : ¬ 9223372036854775807 < 5 + T.size + 1 := by omega
  have z3 : ¬ 9223372036854775807 < 5 + T.size + 1 + U.size := by omega
  go_enter Tryz.func23, Tryz.ntmps23
  go_wp2_with fail
  generalize w.alloc (.cells _ 51) = w1 at *
  refine wp_region_held_drew (S := fun y => Lies y w.heap.size 51 (riC ⟨2, (n : Int), (m : Int)⟩) ∧ Below w.heap.size w y) (by kernel_rfl) ⟨HL.out.drew, below_drewN HB.out 1⟩ (fun hHeld => ?_)
  clear HL HB
  try simp only [Act.put, List.setIfInBounds_toArray, List.set_cons_zero, List.set_cons_succ]
  refine wpAnyH_take (i := 0) (v := (.pointer (some ⟨w.heap.size, 1, none⟩))) rfl (by kernel_rfl) (by kernel_rfl) (by kernel_rfl) (fun _ _ _ h => h) (Or.inl ⟨by rfl, fun w h => by (simp only [List.getElem_toArray, List.getElem_cons_succ, List.getElem_cons_zero]; clear h; go_simp)⟩) (by assumption) ?_
  simp only [Act.put, List.getElem_toArray, List.getElem_cons_succ, List.getElem_cons_zero, List.setIfInBounds_toArray, List.set_cons_zero, List.set_cons_succ]
  refine wpAnyH_take (i := 1) (v := (.int .i64 (n : Int))) rfl (by kernel_rfl) (by kernel_rfl) (by kernel_rfl) (fun _ _ _ h => h) (Or.inl ⟨by rfl, fun w h => by (simp only [List.getElem_toArray, List.getElem_cons_succ, List.getElem_cons_zero]; have h1 := h.1.cell 1; simp at h1; clear h; go_simp)⟩) (by assumption) ?_
  simp only [Act.put, List.getElem_toArray, List.getElem_cons_succ, List.getElem_cons_zero, List.setIfInBounds_toArray, List.set_cons_zero, List.set_cons_succ]
  refine wpAnyH_take (i := 5) (v := (.pointer (some ⟨w.heap.size, 2, none⟩))) rfl (by kernel_rfl) (by kernel_rfl) (by kernel_rfl) (fun _ _ _ h => h) (Or.inl ⟨by rfl, fun w h => by (simp only [List.getElem_toArray, List.getElem_cons_succ, List.getElem_cons_zero]; clear h; go_simp)⟩) (by assumption) ?_
  simp only [Act.put, List.getElem_toArray, List.getElem_cons_succ, List.getElem_cons_zero, List.setIfInBounds_toArray, List.set_cons_zero, List.set_cons_succ]
  refine wpAnyH_take (i := 6) (v := (.int .i64 (m : Int))) rfl (by kernel_rfl) (by kernel_rfl) (by kernel_rfl) (fun _ _ _ h => h) (Or.inl ⟨by rfl, fun w h => by (simp only [List.getElem_toArray, List.getElem_cons_succ, List.getElem_cons_zero]; have h1 := h.1.cell 2; simp at h1; clear h; go_simp)⟩) (by assumption) ?_
  simp only [Act.put, List.getElem_toArray, List.getElem_cons_succ, List.getElem_cons_zero, List.setIfInBounds_toArray, List.set_cons_zero, List.set_cons_succ]
  refine wpAnyH_ready (rs := [2]) (by kernel_rfl) (by simp) ?_
  refine AllReadyH.cons rfl (fun K hK => ?_) AllReadyH.nil
  rw [if_pos (by rfl)]
  go_wp2_with fail
  refine (HI.out _ (HP.out.later hHeld.2)).mono ?_
  rintro e q ⟨rfl, hb⟩
  dsimp only
  refine hK.out _ _ ⟨hHeld.1.below hb hHeld.1.lt, hHeld.2.trans (hb.mono hHeld.2.size)⟩ (fun hHeld1 => ?_)
  clear hK K hHeld hb
  have hHeld := hHeld1
  clear hHeld1
  try simp only [Act.put, List.setIfInBounds_toArray, List.set_cons_zero, List.set_cons_succ]
  refine wpAnyH_take (i := 3) (v := (.string (⟨#[99, 97, 115, 116, 32]⟩ ++ T))) rfl (by kernel_rfl) (by kernel_rfl) (by kernel_rfl) (fun _ _ _ h => h) (Or.inl ⟨by rfl, fun w h => by (simp only [List.getElem_toArray, List.getElem_cons_succ, List.getElem_cons_zero]; clear h; go_simp)⟩) (by assumption) ?_
  simp only [Act.put, List.getElem_toArray, List.getElem_cons_succ, List.getElem_cons_zero, List.setIfInBounds_toArray, List.set_cons_zero, List.set_cons_succ]
  refine wpAnyH_take (i := 4) (v := (.string (⟨#[99, 97, 115, 116, 32]⟩ ++ T ++ ⟨#[32]⟩))) rfl (by kernel_rfl) (by kernel_rfl) (by kernel_rfl) (fun _ _ _ h => h) (Or.inl ⟨by rfl, fun w h => by (simp only [List.getElem_toArray, List.getElem_cons_succ, List.getElem_cons_zero]; clear h; go_simp)⟩) (by assumption) ?_
  simp only [Act.put, List.getElem_toArray, List.getElem_cons_succ, List.getElem_cons_zero, List.setIfInBounds_toArray, List.set_cons_zero, List.set_cons_succ]
  refine wpAnyH_ready (rs := [7]) (by kernel_rfl) (by simp) ?_
  refine AllReadyH.cons rfl (fun K hK => ?_) AllReadyH.nil
  rw [if_pos (by rfl)]
  go_wp2_with fail
  refine (HJ.out _ (HP.out.later hHeld.2)).mono ?_
  rintro e q ⟨rfl, hb⟩
  dsimp only
  refine hK.out _ _ ⟨hHeld.1.below hb hHeld.1.lt, hHeld.2.trans (hb.mono hHeld.2.size)⟩ (fun hHeld1 => ?_)
  clear hK K hHeld hb
  have hHeld := hHeld1
  clear hHeld1
  try simp only [Act.put, List.setIfInBounds_toArray, List.set_cons_zero, List.set_cons_succ]
  refine wpAnyH_take (i := 8) (v := (.string (⟨#[99, 97, 115, 116, 32]⟩ ++ T ++ ⟨#[32]⟩ ++ U))) rfl (by kernel_rfl) (by kernel_rfl) (by kernel_rfl) (fun _ _ _ h => h) (Or.inl ⟨by rfl, fun w h => by (simp only [List.getElem_toArray, List.getElem_cons_succ, List.getElem_cons_zero]; clear h; go_simp)⟩) (by assumption) ?_
  simp only [Act.put, List.getElem_toArray, List.getElem_cons_succ, List.getElem_cons_zero, List.setIfInBounds_toArray, List.set_cons_zero, List.set_cons_succ]
  refine wpAnyH_take (i := 9) (v := (.string (⟨#[99, 97, 115, 116, 32]⟩ ++ T ++ ⟨#[32]⟩ ++ U))) rfl (by kernel_rfl) (by kernel_rfl) (by kernel_rfl) (fun _ _ _ h => h) (Or.inl ⟨by rfl, fun w h => by (simp only [List.getElem_toArray, List.getElem_cons_succ, List.getElem_cons_zero]; clear h; go_simp)⟩) (by assumption) ?_
  simp only [Act.put, List.getElem_toArray, List.getElem_cons_succ, List.getElem_cons_zero, List.setIfInBounds_toArray, List.set_cons_zero, List.set_cons_succ]
  refine wpAnyH_take (i := 10) (v := (.bool true)) rfl (by kernel_rfl) (by kernel_rfl) (by kernel_rfl) (fun _ _ _ h => h) (Or.inl ⟨by rfl, fun w h => by (simp only [List.getElem_toArray, List.getElem_cons_succ, List.getElem_cons_zero]; clear h; go_simp)⟩) (by assumption) ?_
  simp only [Act.put, List.getElem_toArray, List.getElem_cons_succ, List.getElem_cons_zero, List.setIfInBounds_toArray, List.set_cons_zero, List.set_cons_succ]
  refine wpAnyH_done (by kernel_rfl) ?_ _
  go_wp2
  go_ret2
  exact ⟨by rw [HE.out, HOK.out]; rfl, hHeld.2⟩
 ·have HX := Lib.hid (HNO.out h1 h2)
  clear HNO
  by_cases h3 : k = 1
  ·subst h3
   have g1 : ((m : Int) == 1) = false := by rw [beq_eq_false_iff_ne]; exact fun h => h1 ⟨rfl, h⟩
   go_enter Tryz.func23, Tryz.ntmps23
   go_wp2
   go_ret2
   exact ⟨by rw [HX.out.1, HX.out.2]; rfl, HB.out⟩
  ·have g1 : (k == 1) = false := by rw [beq_eq_false_iff_ne]; exact h3
   have g2 : (k == 2) = false := by rw [beq_eq_false_iff_ne]; exact h2
   go_enter Tryz.func23, Tryz.ntmps23
   go_wp2
   go_ret2
   exact ⟨by rw [HX.out.1, HX.out.2]; rfl, HB.out⟩
def WrAt (w : World) (B g : Nat) (b : ByteArray) : Prop := B ≤ g ∧ ∃ v, Lies w g 76 #[v] ∧ w.ownsRow B 5 1 v b.size (Lib.strCells b)
def wrRows (w : World) (B g : Nat) : Nat → Prop := fun k => B ≤ k ∧ (k = g ∨ ∃ cur, Lies w k 5 cur)
theorem wrRows_of (w : World) {B g : Nat} {v : Value} {n : Nat} {xs : List Value} (hb : B ≤ g) (h : w.ownsRow B 5 1 v n xs) : ∀ k, v.ownBlock = some k → wrRows w B g k := by
 intro k hk
 rcases owns_row h with ⟨rfl, _⟩ | ⟨r, cap, cur, rfl, hr, hl, _⟩
 ·cases hk
 ·obtain rfl : r = k := by simpa [Value.ownBlock] using hk
  exact ⟨hr, .inr ⟨cur, hl⟩⟩
theorem WrAt.kept {S : Nat → Prop} {w w' : World} {B g : Nat} {b : ByteArray} (h : WrAt w B g b) (k : Kept S w w') (h1 : ¬ S g) (h2 : ∀ r cur, Lies w r 5 cur → ¬ S r) : WrAt w' B g b := by
 obtain ⟨hb, v, hl, ho⟩ := h
 exact ⟨hb, v, hl.kept k h1, owns_kept ho k (fun r cur _ hl => h2 r cur hl)⟩
theorem wr_store {w0 w1 : World} {B g : Nat} {v v' : Value} {b b' : ByteArray} (hb : B ≤ g) (hl : Lies w0 g 76 #[v]) (ho : w0.ownsRow B 5 1 v b.size (Lib.strCells b))
  (ho' : w1.ownsRow B 5 1 v' b'.size (Lib.strCells b')) (hg : w0.grownBy w1 v.ownBlock) :
  WrAt (w1.setCell ⟨g, 0, none⟩ v') B g b' ∧ Kept (wrRows w0 B g) w0 (w1.setCell ⟨g, 0, none⟩ v') ∧ Lies w1 g 76 #[v] := by
 have k1 : Kept (fun k => v.ownBlock = some k) w0 w1 := Kept.of_grown hg
 have hne : ¬ (v.ownBlock = some g) := by
  intro hv
  rcases owns_row ho with ⟨rfl, _⟩ | ⟨r, cap, cur, rfl, hr, hl2, _⟩
  ·cases hv
  ·obtain rfl : r = g := by simpa [Value.ownBlock] using hv
   have := (hl2.same hl).1
   simp at this
 have hl1 := hl.kept k1 hne
 refine ⟨⟨hb, v', ?_, owns_put ho' hl1 (by decide) 0 v'⟩, (k1.mono fun k _ hk => wrRows_of w0 hb ho k hk).trans (Kept.put _ g 0 _) (fun i _ (h : i = g) => by subst h; exact ⟨hb, .inl rfl⟩), hl1⟩
 have := hl1.put 0 v'
 simpa using this
theorem octetText (B g : Nat) (b s : ByteArray) (w : World) (h : WrAt w B g b) (hs : b.size + s.size ≤ 140737488355328) : Calls Tryz.prog 42 #[.pointer (some ⟨g, 0, none⟩), .string s] w fun e w' =>
  e = .returned (.tuple #[]) ∧ WrAt w' B g (b ++ s) ∧ Kept (wrRows w B g) w w' := by
 obtain ⟨hb, v, hl, ho⟩ := h
 obtain ⟨i0, hi, hz0, hz1, hz2⟩ := info_parts Tryz.infoU8
 have c0 : w.cell? ⟨g, 0, none⟩ = some v := hl.cell 0
 have hgs := hl.lt
 have HL := Lib.hid hl
 clear hl
 go_enter Tryz.func42, Tryz.ntmps42
 go_wp2_with (first
  | (at_builtin; refine Lib.wpList_append_own_string _ rfl (.tmp 10) (.tmp 11) 74 9 rfl B 5 i0 Tryz.underlying74 Tryz.underlying9 hi hz0 hz1 hz2 v b.size (Lib.strCells b) rfl ho s rfl (by unfold maxLen; omega) hs (by omega) ?_))
 intro v' w1 ho' hgr _
 have ho2 : w1.ownsRow B 5 1 v' (b ++ s).size (Lib.strCells (b ++ s)) := by rw [strCells_append, ByteArray.size_append]; exact ho'
 obtain ⟨r1, r2, r3⟩ := wr_store hb HL.out ho ho2 hgr
 have d0 : w1.cell? ⟨g, 0, none⟩ = some v := r3.cell 0
 have d1 : w1.frozen? ⟨g, 0, none⟩ = false := r3.free 0
 have R1 := Lib.hid r1
 have R2 := Lib.hid r2
 clear r1 r2 r3 c0 hgr ho HL
 rcases owns_row ho' with ⟨rfl, _⟩ | ⟨r, cap, cur, rfl, _⟩
 all_goals
  clear ho' ho2
  go_wp2
  go_end0
  exact ⟨rfl, R1.out, R2.out⟩
theorem octetString (B g : Nat) (b : ByteArray) (w : World) (h : WrAt w B g b) (hs : b.size ≤ maxLen) :
  Calls Tryz.prog 44 #[.pointer (some ⟨g, 0, none⟩)] w fun e w' =>
  e = .returned (.string b) ∧ w = w' := by
 obtain ⟨hb, v, hl, ho⟩ := h
 have c0 : w.cell? ⟨g, 0, none⟩ = some v := hl.cell 0
 clear hl
 rcases owns_row ho with ⟨rfl, h0, _⟩ | ⟨r, cap, cur, rfl, _⟩
 ·have hb0 : b = ByteArray.empty := ByteArray.size_eq_zero_iff.1 h0
  subst hb0
  have hcv := Lib.run_convert_nil_bytes (P := Tryz.prog) w 74 9 5 0 Tryz.underlying74 Tryz.underlying5 Tryz.underlying9
  clear ho h0
  go_enter Tryz.func44, Tryz.ntmps44
  go_wp2
  go_ret
  exact ⟨rfl, rfl⟩
 ·have hcv := Lib.run_convert_whole (P := Tryz.prog) w 74 5 9 Tryz.underlying74 Tryz.underlying5 Tryz.underlying9 r 0 b (fun i hi => by
   rw [Nat.zero_add, ← addr_add]
   exact ho.cells (g := r) rfl i _ (by simp only [Lib.strCells, List.getElem?_map, byte_at b i hi]; rfl)) cap
  clear ho
  go_enter Tryz.func44, Tryz.ntmps44
  go_wp2
  go_ret
  exact ⟨rfl, rfl⟩
theorem WrAt.fresh (w : World) (B : Nat) (hB : B ≤ w.heap.size) : WrAt (w.alloc (.cells #[.slice none 0 0] 76)) B w.heap.size ByteArray.empty :=
 ⟨hB, _, Lies.made _ _ _, World.ownsRow_nil _ _ _ _⟩
theorem octetPutSome (B g : Nat) (b x : ByteArray) (ad : Addr) (m c : Nat) (w : World) (hm : x.size = m) (h : WrAt w B g b) (hx : ∀ j u, (Lib.strCells x)[j]? = some u → w.cell? (ad.add j) = some u) (hs : b.size + x.size ≤ 140737488355328) :
  Calls Tryz.prog 41 #[.pointer (some ⟨g, 0, none⟩), .slice (some ad) m c] w fun e w' =>
  e = .returned (.tuple #[]) ∧ WrAt w' B g (b ++ x) ∧ Kept (wrRows w B g) w w' := by
 subst hm
 obtain ⟨hb, v, hl, ho⟩ := h
 obtain ⟨i0, hi, hz0, hz1, hz2⟩ := info_parts Tryz.infoU8
 have c0 : w.cell? ⟨g, 0, none⟩ = some v := hl.cell 0
 have hgs := hl.lt
 have HL := Lib.hid hl
 have HX := Lib.hid hx
 clear hl hx
 go_enter Tryz.func41, Tryz.ntmps41
 go_wp2_with (first
  | (at_builtin; refine wpList_append_own _ rfl (.tmp 10) (.tmp 11) 74 rfl B 5 i0 (.int .u8 0) 1 1 Tryz.underlying74 hi hz0 hz1 hz2 rfl (by decide) v b.size (Lib.strCells b) rfl ho ad x.size c (Lib.strCells x) rfl (by rw [Lib.strCells_length, Nat.mul_one]) HX.out (Lib.strCells_oneCell x) (by unfold maxLen; omega) (by omega) (by omega) ?_))
 intro v' w1 ho' hgr _
 have ho2 : w1.ownsRow B 5 1 v' (b ++ x).size (Lib.strCells (b ++ x)) := by rw [strCells_append, ByteArray.size_append]; exact ho'
 obtain ⟨r1, r2, r3⟩ := wr_store hb HL.out ho ho2 hgr
 have d0 : w1.cell? ⟨g, 0, none⟩ = some v := r3.cell 0
 have d1 : w1.frozen? ⟨g, 0, none⟩ = false := r3.free 0
 have R1 := Lib.hid r1
 have R2 := Lib.hid r2
 clear r1 r2 r3 c0 hgr ho HL HX
 rcases owns_row ho' with ⟨rfl, _⟩ | ⟨r, cap, cur, rfl, _⟩
 all_goals
  clear ho' ho2
  go_wp2
  go_end0
  exact ⟨rfl, R1.out, R2.out⟩
section
variable {w w' : World} {B B2 g : Nat} {b : ByteArray}
theorem WrAt.later (h : WrAt w B g b) (hb : Below w.heap.size w w') : WrAt w' B g b := h.kept (Kept.of_below hb) (fun hf => hf) (fun _ _ _ hf => hf)
theorem wr_not {t : TypeId} {cs : Array Value} {k : Nat} (hw : WrAt w B g b) (hl : Lies w k t cs) (h1 : t ≠ 76) (h2 : t ≠ 5) : ¬ wrRows w B g k := by
 rintro ⟨_, h⟩
 obtain ⟨_, v, hlg, _⟩ := hw
 rcases h with rfl | ⟨cur, h⟩
 ·exact h1 (hl.same hlg).1
 ·exact h2 (hl.same h).1
theorem lies_wr {t : TypeId} {cs : Array Value} {k : Nat} (hl : Lies w k t cs) (hw : WrAt w B g b) (hk : Kept (wrRows w B g) w w') (h1 : t ≠ 76) (h2 : t ≠ 5) : Lies w' k t cs :=
 hl.kept hk (wr_not hw hl h1 h2)
theorem below_wr {a : World} (h : Below B a w) (hk : Kept (wrRows w B g) w w') (hB : B ≤ w.heap.size) : Below B a w' :=
 h.trans (hk.below hB (fun k hk h => by have := h.1; omega))
end
def leb : Nat → Nat → List UInt8
 | 0, n => [UInt8.ofNat n]
 | f + 1, n => if n < 128 then [UInt8.ofNat n] else UInt8.ofNat (n % 128 + 128) :: leb f (n / 128)
def enc (n : Nat) : List UInt8 := leb 9 n
def M64 : Nat := 18446744073709551616
theorem leb_small (f n : Nat) (h : n < 128) : leb f n = [UInt8.ofNat n] := by cases f <;> simp [leb, h]
theorem leb_big (f n : Nat) (h : ¬ n < 128) : leb (f + 1) n = UInt8.ofNat (n % 128 + 128) :: leb f (n / 128) := by simp [leb, h]
theorem leb_length (f n : Nat) : 1 ≤ (leb f n).length ∧ (leb f n).length ≤ f + 1 := by
 induction f generalizing n with
 | zero => simp [leb]
 | succ f ih =>
  by_cases h : n < 128
  ·rw [leb_small _ _ h]; simp
  ·rw [leb_big _ _ h, List.length_cons]; have := ih (n / 128); omega
theorem enc_length (n : Nat) : 1 ≤ (enc n).length ∧ (enc n).length ≤ 10 := leb_length 9 n
theorem lt_div (f n : Nat) (h : n < 128 ^ (f + 2)) : n / 128 < 128 ^ (f + 1) := by
 rw [Nat.pow_succ] at h
 rw [Nat.div_lt_iff_lt_mul (by decide)]
 exact h
theorem m64_lt : M64 ≤ 128 ^ 10 := by unfold M64; rw [show (128 : Nat) ^ 10 = 1180591620717411303424 by decide +kernel]; omega
theorem or128 : ∀ a : Nat, a < 256 → a ||| 128 = a % 128 + 128 := by decide +kernel
theorem bits_or128 (n : Nat) : bits .or .u8 ((n : Int) % 256) 128 = ((n % 128 + 128 : Nat) : Int) := by
 have h : ((n : Int) % 256) = ((n % 256 : Nat) : Int) := by omega
 have := u8_or_nat (n % 256) 128 (Nat.mod_lt _ (by decide)) (by decide)
 rw [h]
 refine Eq.trans this ?_
 rw [or128 _ (Nat.mod_lt _ (by decide)), show n % 256 % 128 = n % 128 by omega]
theorem more_byte (m : Nat) : bits .or .u8 ((m : Int) % 256) 128 = ((UInt8.ofNat (m % 128 + 128)).toNat : Int) := by
 rw [bits_or128, UInt8.toNat_ofNat']
 omega
theorem last_byte (m : Nat) (h : m < 128) : (m : Int) = ((UInt8.ofNat m).toNat : Int) := by
 rw [UInt8.toNat_ofNat']
 omega
theorem grow_step {f m : Nat} {d l : List UInt8} {n : Nat} (hd : d ++ leb f m = l ++ enc n) (hp : m < 128 ^ (f + 1)) (h : ¬ m < 128) :
  ∃ f', f = f' + 1 ∧ d ++ [UInt8.ofNat (m % 128 + 128)] ++ leb f' (m / 128) = l ++ enc n ∧ m / 128 < 128 ^ (f' + 1) := by
 cases f with
 | zero => simp at hp; omega
 | succ f =>
  refine ⟨f, rfl, ?_, lt_div _ _ hp⟩
  rw [leb_big _ _ h] at hd
  rw [← hd]; simp
theorem grow_done {f m : Nat} {d l : List UInt8} {n : Nat} (hd : d ++ leb f m = l ++ enc n) (h : m < 128) : d ++ [UInt8.ofNat m] = l ++ enc n := by
 rw [leb_small _ _ h] at hd; exact hd
set_option maxHeartbeats 1000000 in
theorem varintGrow (v : Value) (l : List UInt8) (n : Nat) (w : World) (B : Nat) (hB : B ≤ w.heap.size) (ho : w.ownsRow B 5 1 v l.length (cellsB l)) (hl : l.length ≤ 140737488355000) (hn : n < M64) :
  Calls Tryz.prog 67 #[v, .int .u64 n] w fun e w' => ∃ v', e = .returned v' ∧ w'.ownsRow B 5 1 v' (l ++ enc n).length (cellsB (l ++ enc n)) ∧ Below B w w' := by
 have hn2 : n ≤ 18446744073709551615 := by unfold M64 at hn; omega
 go_enter Tryz.func67, Tryz.ntmps67
 go_wp2
 go_loopw [0, 1] (fun t i wr => ∃ (f m : Nat) (d : List UInt8), i = .int .u64 m ∧ m ≤ 18446744073709551615 ∧ f ≤ 9 ∧ Hid (m < 128 ^ (f + 1)) ∧ Hid (d ++ leb f m = l ++ enc n) ∧ d.length + (f + 1) ≤ l.length + 10 ∧ wr.ownsRow B 5 1 t d.length (cellsB d) ∧ Below B w wr)
  (fun _ i _ => (intOf i).toNat)
 case atStart => exact ⟨9, n, l, rfl, hn2, by omega, Nat.lt_of_lt_of_le hn m64_lt, rfl, by omega, ho, Below.refl _ _⟩
 case round =>
  clear ho
  obtain ⟨f, m, d, rfl, hm, hf, hp, hd, hdl, ho, hb⟩ := hrel
  have hBr : B ≤ wr.heap.size := Nat.le_trans hB hb.size
  by_cases h : m < 128
  ·have e0 : decide ((128 : Int) ≤ (m : Int)) = false := by simp; omega
   have hx := last_byte m h
   have hg := Lib.hid (grow_done hd.out h)
   generalize UInt8.ofNat m = b at *
   have HX := Lib.hid hx
   clear hx
   go_wp2_with (at_builtin; rw [HX.out]; refine append_one wr (.int .u8 b.toNat) rfl (.tmp 15) (.tmp 18) 74 rfl B 5 _ _ Tryz.underlying74 Tryz.infoU8 rfl rfl _ _ _ rfl ho rfl (by unfold maxLen; omega) (by omega) hBr ?_; intro v' w1 hown1 hb1 _)
   go_ret
   rw [cellsB_push, hg.out] at hown1
   exact ⟨_, rfl, by rw [← hg.out, List.length_append]; rw [hg.out]; exact hown1, hb.trans hb1⟩
  ·have e0 : decide ((128 : Int) ≤ (m : Int)) = true := by simp; omega
   have hx := more_byte m
   obtain ⟨f', rfl, hd', hp'⟩ := grow_step hd.out hp.out h
   have HD := Lib.hid hd'
   have HP := Lib.hid hp'
   clear hd hp hd' hp'
   generalize UInt8.ofNat (m % 128 + 128) = b at *
   go_wp2_with (at_builtin; refine append_one wr (.int .u8 b.toNat) rfl (.tmp 9) (.tmp 13) 74 rfl B 5 _ _ Tryz.underlying74 Tryz.infoU8 rfl rfl _ _ _ rfl ho rfl (by unfold maxLen; omega) (by omega) hBr ?_; intro v' w1 hown1 hb1 _)
   rw [cellsB_push] at hown1
   go_roundw
   case rel => exact ⟨f', m / 128, d ++ [b], by go_num, by omega, by omega, HP, HD, by rw [List.length_append]; simp; omega, by rw [List.length_append]; exact hown1, hb.trans hb1⟩
   case measure => simp [intOf]; omega
theorem varintPrint (n : Nat) (w : World) (hn : n < M64) : Calls Tryz.prog 43 #[.int .u64 n] w fun e w' => e = .returned (.string (textB (enc n))) ∧ Below w.heap.size w w' := by
 go_enter Tryz.func43, Tryz.ntmps43
 go_wp2_with fail
 refine (varintGrow (.slice none 0 0) [] n w w.heap.size (Nat.le_refl _) (World.ownsRow_nil _ _ _ _) (by simp) hn).mono ?_
 rintro e w1 ⟨v, rfl, ho, hb⟩
 have hcv := convert_owned w1 _ v _ _ rfl ho
 clear ho
 go_wp2
 go_ret
 exact ⟨rfl, hb⟩
end Go.Proofs.YtcpgneimagmknaaGreatDoor
