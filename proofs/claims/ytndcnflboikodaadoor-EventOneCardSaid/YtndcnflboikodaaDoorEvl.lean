/-
  Lines and texts of events (layer 15): event.Line and event.Print.
-/
import Derived.Test.YtndcnflboikodaaDoorEvg
import Derived.Test.YtndcnflboikodaaDoorEvc
namespace Go.Proofs.YtndcnflboikodaaDoor
open Go.RowKit
set_option linter.unusedVariables false
set_option linter.unusedSimpArgs false
def lnS (x : Ev) : ByteArray := if rightE x = true then textB (lineE x) else ⟨#[]⟩
def lnN (x : Ev) : Nat := if rightE x = true then 0 else 3
theorem ret_sn {a b : ByteArray} {m n : Int} {k : IntKind} (h : a = b) (h2 : m = n) : Ending.returned (.tuple #[.string a, .int k m]) = .returned (.tuple #[.string b, .int k n]) := by rw [h, h2]
set_option maxHeartbeats 8000000 in
set_option maxRecDepth 100000 in
theorem line15 (x : Ev) (w : World) (h : EvnAt w) (hok : evOk x) :
    Calls Tryd.prog 10 #[.agg (evC x)] w fun e w' => e = .returned (.tuple #[.string (lnS x), .int .i64 (lnN x : Nat)]) ∧ Below w.heap.size w w' := by
  have hb0 : Below w.heap.size w (w.alloc (.cells (evC x) 24)) := (Below.refl _ _).alloc (Nat.le_refl _) _
  have l0 := Lies.made w 24 (evC x)
  have hEN := h.later hb0 h.lt
  have hgl := h.lt
  have HB := Lib.hid hb0
  have HL := Lib.hid l0
  have HEN := Lib.hid hEN
  have HR := Lib.hid (right15 x)
  have HP := Lib.hid (@right_parts x)
  have HS : Hid (lnS x = if rightE x = true then textB (lineE x) else ⟨#[]⟩) := rfl
  have HM : Hid (lnN x = if rightE x = true then 0 else 3) := rfl
  have HOK := Lib.hid hok
  clear hb0 l0 hEN h hok
  go_enter Tryd.func10, Tryd.ntmps10
  go_wp2_with fail
  generalize w.alloc (.cells (evC x) 24) = w1 at *
  have c0 := (HL.out.cell 0).trans (show _ = some (Value.int .i64 x.th) from rfl)
  have c1 := (HL.out.cell 1).trans (show _ = some (Value.int .i64 x.kd) from rfl)
  have c2 := (HL.out.cell 2).trans (show _ = some (Value.int .i64 x.rg) from rfl)
  have c3 := (HL.out.cell 3).trans (show _ = some (Value.int .u64 (x.tk : Int)) from rfl)
  have c4 := (HL.out.cell 4).trans (show _ = some (Value.int .u64 (x.vl : Int)) from rfl)
  have cl := HL.out.lt
  refine (HR.out _).mono ?_
  rintro e w2 ⟨rfl, hbm⟩
  have HB2 := Lib.hid (HB.out.trans (hbm.mono HB.out.size))
  have HL2 := Lib.hid (HL.out.below hbm HL.out.lt)
  have HEN2 := Lib.hid (HEN.out.later hbm HEN.out.lt)
  have hz2 : w.heap.size ≤ w2.heap.size := HB2.out.size
  clear hbm c0 c1 c2 c3 c4 cl HR HB HL HEN
  generalize hrt : rightE x = r at *
  clear hrt
  cases r with
  | false =>
    go_wp2
    go_ret2
    exact ⟨ret_sn HS.out.symm (by rw [HM.out]; rfl), HB2.out⟩
  | true =>
    have c0 := (HL2.out.cell 0).trans (show _ = some (Value.int .i64 x.th) from rfl)
    have c1 := (HL2.out.cell 1).trans (show _ = some (Value.int .i64 x.kd) from rfl)
    have c2 := (HL2.out.cell 2).trans (show _ = some (Value.int .i64 x.rg) from rfl)
    have c3 := (HL2.out.cell 3).trans (show _ = some (Value.int .u64 (x.tk : Int)) from rfl)
    have c4 := (HL2.out.cell 4).trans (show _ = some (Value.int .u64 (x.vl : Int)) from rfl)
    have cl := HL2.out.lt
    obtain ⟨k1, ⟨r1, r2, r3, r4, r5⟩, q1, q2, q3⟩ := HP.out rfl
    have hv := HOK.out.2.2.2.2
    clear q1 q2 q3
    go_wp2_with fail
    refine (grow15 x w.heap.size [] _ _ HEN2.out hgl r1 (by omega) r3 (by omega) (by omega) hv (by simp) (World.ownsRow_nil _ _ _ _) hz2).mono ?_
    rintro e w3 ⟨v3, rfl, ho, hb, hk⟩
    rw [List.nil_append] at ho
    have hcv := convert_owned w3 _ v3 _ _ rfl ho
    have HB3 := Lib.hid (HB2.out.trans hb)
    obtain ⟨A9, c9, rfl⟩ := own_sliceD ho
    clear c0 c1 c2 c3 c4 cl hb hk ho
    go_wp2
    go_ret2
    exact ⟨ret_sn HS.out.symm (by rw [HM.out]; rfl), HB3.out⟩
/-! ## Print -/
def printE (l : List Ev) : List UInt8 := l.flatMap (fun x => lineE x ++ [10])
theorem printE_push (l : List Ev) (x : Ev) : printE (l ++ [x]) = (printE l ++ lineE x) ++ [10] := by simp [printE]
theorem printE_length : ∀ l : List Ev, (printE l).length ≤ 101 * l.length
  | [] => by simp [printE]
  | x :: l => by
    have h1 := printE_length l
    have h2 := (lineE_length x).2
    unfold printE at h1 ⊢
    rw [List.flatMap_cons, List.length_append, List.length_append]
    simp only [List.length_cons, List.length_nil]
    omega
def prS (l : List Ev) : ByteArray := if (chE l).2 = 0 then textB (printE l) else ⟨#[]⟩
set_option maxHeartbeats 8000000 in
set_option maxRecDepth 100000 in
theorem print15 (l : List Ev) (A : Option Addr) (c : Nat) (w : World) (hN : EvnAt w) (h : EvsAt w A c l) (hok : ∀ x ∈ l, evOk x) :
    Calls Tryd.prog 19 #[.slice A l.length c] w fun e w' => e = .returned (.tuple #[.string (prS l), .int .i64 ((chE l).2 : Nat)]) ∧ Below w.heap.size w w' := by
  obtain ⟨A', c', e', h1, h2, _⟩ := h.form
  simp only [Value.slice.injEq, true_and] at e'
  obtain ⟨rfl, rfl⟩ := e'
  unfold maxLen at h2
  have hgl := hN.lt
  have HH := Lib.hid h
  have HEN := Lib.hid (fun (q : World) (hq : Below w.heap.size w q) => hN.later hq hgl)
  have HOK := Lib.hid hok
  have HC := Lib.hid (check15 l A c w h)
  have HPS : Hid (prS l = if (chE l).2 = 0 then textB (printE l) else ⟨#[]⟩) := rfl
  have HZ := Lib.hid (@chE_zero l)
  clear h hN hok
  go_enter Tryd.func19, Tryd.ntmps19
  go_wp2_with fail
  refine HC.out.mono ?_
  rintro e w1 ⟨rfl, hb1⟩
  have HB1 := Lib.hid hb1
  clear hb1 HC
  obtain ⟨at_, hat⟩ : ∃ a, (chE l).1 = a := ⟨_, rfl⟩
  rw [hat]
  clear hat
  obtain ⟨k, hce⟩ : ∃ k, (chE l).2 = k := ⟨_, rfl⟩
  rw [hce] at HPS HZ ⊢
  have HCE := Lib.hid hce
  clear hce
  by_cases hk : k = 0
  case neg =>
    have e1 : ((k : Int) == 0) = false := by rw [beq_eq_false_iff_ne]; omega
    have e2 : (k == 0) = false := by rw [beq_eq_false_iff_ne]; exact hk
    rw [if_neg hk] at HPS
    clear hk HZ
    go_wp2
    go_ret2
    exact ⟨ret_sn HPS.out.symm (by first | rfl | (rw [HCE.out]; done) | (rw [HCE.out]; rfl)), HB1.out⟩
  subst hk
  rw [if_pos rfl] at HPS
  obtain ⟨hl, hall⟩ := HZ.out rfl
  have HALL := Lib.hid hall
  clear hall HZ
  go_wp2_with fail
  go_loopw [6, 19] (fun v u wr => ∃ k : Nat, k ≤ l.length ∧ u = .int .i64 k ∧ Hid (wr.ownsRow w.heap.size 5 1 v (printE (l.take k)).length (cellsB (printE (l.take k)))) ∧ Hid (Below w.heap.size w wr)) (fun _ u _ => l.length - (intOf u).toNat)
  case atStart => exact ⟨0, by omega, rfl, World.ownsRow_nil _ _ _ _, HB1⟩
  case round =>
    clear HB1
    obtain ⟨k, hk, rfl, HO, HB⟩ := hrel
    by_cases hlt : k < l.length
    · have hki : (k : Int) < (l.length : Int) := by omega
      obtain ⟨x, hx⟩ : ∃ x, l[k]? = some x := ⟨_, List.getElem?_eq_getElem hlt⟩
      obtain ⟨b, off, rfl, hbl, hg⟩ := EvsAt.at_ (HH.out.later HB.out) hx
      have g0 := hg 0 _ (by decide) rfl
      have g1 := hg 1 _ (by decide) rfl
      have g2 := hg 2 _ (by decide) rfl
      have g3 := hg 3 _ (by decide) rfl
      have g4 := hg 4 _ (by decide) rfl
      rw [Nat.add_zero] at g0
      have hxm := List.mem_of_getElem? hx
      obtain ⟨k1, ⟨r1, r2, r3, r4, r5⟩, q1, q2, q3⟩ := right_parts (HALL.out x hxm)
      have hv := (HOK.out x hxm).2.2.2.2
      have hbx : Below wr.heap.size wr (wr.alloc (.cells (evC x) 24)) := (Below.refl _ _).alloc (Nat.le_refl _) _
      have HB2 := Lib.hid (HB.out.trans (hbx.mono HB.out.size))
      have HO2 := Lib.hid (owned_below HO.out hbx)
      have HL2 := Lib.hid (Lies.made wr 24 (evC x))
      have HN : Hid (printE (l.take (k + 1)) = (printE (l.take k) ++ lineE x) ++ [10]) := by
        show _ = _
        rw [List.take_add_one, hx, Option.toList_some, printE_push]
      have hpl : (printE (l.take k)).length ≤ 101 * 65536 := by
        have := printE_length (l.take k)
        rw [List.length_take] at this; omega
      have hxl := (lineE_length x).2
      clear hg hx hbx HB HO q1 q2 q3 hxm
      go_upto_region 8 with (fail)
      clear g0 g1 g2 g3 g4
      generalize wr.alloc (.cells (evC x) 24) = w2 at *
      generalize wr.heap.size = n0 at *
      generalize printE (l.take k) = L at *
      have c0 := (HL2.out.cell 0).trans (show _ = some (Value.int .i64 x.th) from rfl)
      have c1 := (HL2.out.cell 1).trans (show _ = some (Value.int .i64 x.kd) from rfl)
      have c2 := (HL2.out.cell 2).trans (show _ = some (Value.int .i64 x.rg) from rfl)
      have c3 := (HL2.out.cell 3).trans (show _ = some (Value.int .u64 (x.tk : Int)) from rfl)
      have c4 := (HL2.out.cell 4).trans (show _ = some (Value.int .u64 (x.vl : Int)) from rfl)
      have cl := HL2.out.lt
      go_wp2_with fail
      refine (grow15 x w.heap.size L _ _ (HEN.out _ HB2.out) hgl r1 (by omega) r3 (by omega) (by omega) hv (by omega) HO2.out HB2.out.size).mono ?_
      rintro e w3 ⟨v3, rfl, ho, hb, _⟩
      obtain ⟨b3, hb3⟩ : ∃ b3, L ++ lineE x = b3 := ⟨_, rfl⟩
      have hl3 : b3.length ≤ 101 * 65536 + 100 := by rw [← hb3, List.length_append]; omega
      rw [hb3] at ho HN
      have HO3 := Lib.hid ho
      have HB3 := Lib.hid (HB2.out.trans hb)
      have hz3 : w.heap.size ≤ w3.heap.size := HB3.out.size
      obtain ⟨A9, c9, rfl⟩ := own_sliceD ho
      clear ho hb hb3 HO2 HB2 c0 c1 c2 c3 c4 cl HL2
      go_wp2_with (at_builtin; refine append_one _ (.int .u8 10) rfl (.tmp 25) (.tmp 26) 53 rfl w.heap.size 5 _ _ Tryd.underlying53 Tryd.infoU8 rfl rfl _ _ _ rfl HO3.out rfl (by unfold maxLen; omega) (by omega) hz3 ?_)
      intro v4 w4 ho hb hgr
      have ho : w4.ownsRow w.heap.size 5 1 v4 (printE (l.take (k + 1))).length (cellsB (printE (l.take (k + 1)))) := by rw [HN.out, List.length_append, cellsB_append]; exact ho
      have HO4 := Lib.hid ho
      have HB4 := Lib.hid (HB3.out.trans hb)
      obtain ⟨A9, c9, rfl⟩ := own_sliceD ho
      clear ho hb hgr HO3
      go_wp2
      go_roundw
      case rel => exact ⟨k + 1, by omega, by go_num, HO4, HB4⟩
      case measure => simp [intOf]; omega
    · obtain rfl : k = l.length := by omega
      rw [List.take_length] at HO
      have hcv := convert_owned wr _ _ _ _ rfl HO.out
      obtain ⟨A9, c9, rfl⟩ := own_sliceD HO.out
      go_wp2
      go_ret2
      exact ⟨ret_sn HPS.out.symm (by first | rfl | (rw [HCE.out]; done) | (rw [HCE.out]; rfl)), HB.out⟩
end Go.Proofs.YtndcnflboikodaaDoor
