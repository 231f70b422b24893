/-
  As many plain instructions as there are (layer 16): thread.advance, its walk.
-/
import Derived.Test.YtiegmpjoiekekaaThg
namespace Go.Proofs.Ytiegmpjoiekekaa
open Go.RowKit
set_option linter.unusedVariables false
set_option linter.unusedSimpArgs false
set_option maxHeartbeats 8000000 in
set_option maxRecDepth 100000 in
theorem advance16 (l : List In) (A : Option Addr) (c : Nat) (x : Th) (v : Value) (g : Nat) (w0 w : World) (h : InsAt w0 A c l) (hok : ∀ i ∈ l, inOk i) (hcd : codeB l = true) (hb : Below w0.heap.size w0 w) (hg : w0.heap.size ≤ g)
    (hl : Lies w g 27 (thC x v)) (hx : InvT l x) :
    Calls Try.prog 24 #[.slice A l.length c, .pointer (some ⟨g, 0, none⟩)] w (PlPost g (goT l 256 x) v w) := by
  obtain ⟨hc1, hc2⟩ := seq_form h
  obtain ⟨hlen, hall⟩ := codeB_parts hcd
  have HH := Lib.hid h
  have HB0 := Lib.hid hb
  have HWS := Lib.hid hb.size
  have HGG := Lib.hid hg
  have HL := Lib.hid hl
  have HX := Lib.hid hx
  have HALL := Lib.hid hall
  have HOK := Lib.hid hok
  have HBK := Lib.hid (fun (q : World) (hq : Kept (oneRow g) w q) => hb.trans (hq.below hb.size (fun k hk (e : k = g) => by omega)))
  clear h hb hg hl hx hall hok hcd HB0
  go_enter Try.func24, Try.ntmps24
  go_wp2_with fail
  go_loopw [4] (fun u wr => ∃ (k : Nat) (y : Th), k ≤ 256 ∧ u = .int .i64 k ∧ Hid (goT l 256 x = goT l (256 - k) y) ∧ Hid (InvT l y) ∧ Hid (Lies wr g 27 (thC y v)) ∧ Hid (Kept (oneRow g) w wr)) (fun u _ => 256 - (intOf u).toNat)
  case atStart => exact ⟨0, x, by omega, rfl, Lib.hid rfl, HX, HL, Lib.hid (Kept.refl _ _)⟩
  case round =>
    clear HL HX
    obtain ⟨k, y, hk, rfl, HGT, HI, HL, HK⟩ := hrel
    by_cases hlt : k < 256
    · have hki : (k : Int) < 256 := by omega
      have HB := Lib.hid (HBK.out _ HK.out)
      have c0 := (HL.out.cell 0).trans (show _ = some (Value.int .i64 y.at_) from rfl)
      have cl := HL.out.lt
      have hi0 := HI.out.1
      have hi1 := HI.out.2.1
      by_cases hat : y.at_ = (l.length : Int)
      · have e1 : (y.at_ == (l.length : Int)) = true := by rw [beq_iff_eq]; exact hat
        have HPE : Hid (goT l 256 x = y) := HGT.out.trans (goT_stop (by unfold plT; rw [decide_eq_false (by omega)]; rfl) _)
        rw [hat] at c0
        clear hat HGT
        go_wp2
        first | go_end0 | refine bodyPost_ret (results_none rfl _ _ _) rfl ?_
        exact ⟨rfl, by rw [HPE.out]; exact HL.out, HK.out⟩
      have e1 : (y.at_ == (l.length : Int)) = false := by rw [beq_eq_false_iff_ne]; exact hat
      obtain ⟨an, han⟩ : ∃ n : Nat, y.at_ = n := ⟨y.at_.toNat, by omega⟩
      obtain ⟨i, hi⟩ : ∃ i, l[an]? = some i := ⟨_, List.getElem?_eq_getElem (by omega)⟩
      have HAT := Lib.hid (atT_get han hi)
      have HM := Lib.hid (List.mem_of_getElem? hi)
      obtain ⟨b, off, rfl, hbl, hg⟩ := InsAt.at_ HH.out hi
      have HG := Lib.hid (fun (q : World) (hq : Below w0.heap.size w0 q) (j : Nat) (u : Value) (hj : j < 6) (hu : (inF i)[j]? = some u) => cell_later (hg j u hj hu) hq)
      have hal : (an : Int) < (l.length : Int) := by omega
      rw [han] at c0 e1
      have HAN := Lib.hid han
      clear hg hi hat han hi0 hi1
      have g0 := HG.out _ (HB).out 0 _ (by decide) rfl
      have g1 := HG.out _ (HB).out 1 _ (by decide) rfl
      have g2 := HG.out _ (HB).out 2 _ (by decide) rfl
      have g3 := HG.out _ (HB).out 3 _ (by decide) rfl
      have g4 := HG.out _ (HB).out 4 _ (by decide) rfl
      have g5 := HG.out _ (HB).out 5 _ (by decide) rfl
      rw [Nat.add_zero] at g0
      have HPL := Lib.hid (fun w => plain_any i.op w)
      obtain ⟨pb, hpb⟩ : ∃ b, (decide (1 ≤ i.op) && decide (i.op ≤ 17)) = b := ⟨_, rfl⟩
      have hpt : plT l y = pb := by unfold plT; rw [HAT.out, hpb, HAN.out, decide_eq_true hal]; rfl
      rw [hpb] at HPL
      have HPT := Lib.hid hpt
      have HPB := Lib.hid hpb
      clear hpb hpt
      go_wp2_with fail
      refine (HPL.out _).mono ?_
      rintro e w3 ⟨rfl, rfl⟩
      cases pb with
      | false =>
        have HPE : Hid (goT l 256 x = y) := HGT.out.trans (goT_stop HPT.out _)
        clear HGT
        go_wp2
        first | go_end0 | refine bodyPost_ret (results_none rfl _ _ _) rfl ?_
        exact ⟨rfl, by rw [HPE.out]; exact HL.out, HK.out⟩
      | true =>
        have hop := HPB.out
        rw [Bool.and_eq_true, decide_eq_true_eq, decide_eq_true_eq] at hop
        have HST := Lib.hid (fun q hq => plain_any16 i y v g q hq (HALL.out i HM.out).1 hop.1 hop.2 HI.out.1 (by have := HI.out.2.1; omega) HI.out.2.2 (HOK.out i HM.out).2.2.2.2.2)
        have HI2 := Lib.hid (step_inv (i := i) HI.out (by rw [HAN.out]; exact hal) (HOK.out i HM.out).2.2.2.2.2 (HALL.out i HM.out).2)
        have HGT2 : Hid (goT l 256 x = goT l (256 - (k + 1)) (stepT i y)) := by
          have := goT_step HPT.out (256 - (k + 1))
          rw [show 256 - (k + 1) + 1 = 256 - k by omega, HAT.out] at this
          exact HGT.out.trans this
        clear hop HGT HI
        go_wp2_with fail
        refine (HST.out _ HL.out).mono ?_
        rintro e w4 ⟨rfl, hl4, hk4⟩
        have HL4 := Lib.hid hl4
        have HK4 := Lib.hid (HK.out.trans hk4 (fun _ _ e => e))
        clear hl4 hk4 HST g0 g1 g2 g3 g4 g5 c0
        go_wp2
        go_roundw
        case rel => exact ⟨k + 1, stepT i y, by omega, by go_num, HGT2, HI2, HL4, HK4⟩
        case measure => simp [intOf]; omega
    · obtain rfl : k = 256 := by omega
      have HPE : Hid (goT l 256 x = y) := HGT.out
      clear HGT
      go_wp2
      first | go_end0 | refine bodyPost_ret (results_none rfl _ _ _) rfl ?_
      exact ⟨rfl, by rw [HPE.out]; exact HL.out, HK.out⟩
end Go.Proofs.Ytiegmpjoiekekaa
