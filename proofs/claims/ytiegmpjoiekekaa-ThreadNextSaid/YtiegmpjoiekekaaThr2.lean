/-
  Which states a thread may stand in (layer 16): thread.Right; the document's Code and Right.
-/
import Derived.Test.YtiegmpjoiekekaaThr
import Derived.Test.YtiegmpjoiekekaaRfn2
namespace Go.Proofs.Ytiegmpjoiekekaa
open Go.RowKit
set_option linter.unusedVariables false
set_option linter.unusedSimpArgs false
def inTh (l : List In) (x : Th) : Bool := decide (0 ≤ x.at_ ∧ x.at_ ≤ (l.length : Int) ∧ 0 ≤ x.st ∧ x.st ≤ 2)
def phB (l : List In) (x : Th) : Bool := if x.ph = 0 then (x.rg == 0) && (x.tk == 0) else if x.ph = 1 then hdB l x 18 else if x.ph = 2 then hdB l x 19 else false
def thB (l : List In) (x : Th) : Bool := codeB l && (inTh l x && phB l x)
set_option maxHeartbeats 8000000 in
set_option maxRecDepth 100000 in
theorem thRight (l : List In) (A : Option Addr) (c : Nat) (x : Th) (v : Value) (w : World) (h : InsAt w A c l) :
    Calls Try.prog 13 #[.slice A l.length c, .agg (thC x v)] w fun e w' => e = .returned (.bool (thB l x)) ∧ Below w.heap.size w w' := by
  obtain ⟨hc1, hc2⟩ := seq_form h
  have hb0 : Below w.heap.size w (w.alloc (.cells (thC x v) 27)) := (Below.refl _ _).alloc (Nat.le_refl _) _
  have l0 := Lies.made w 27 (thC x v)
  have HH := Lib.hid (fun (q : World) (hq : Below w.heap.size w q) => h.later hq)
  have HB := Lib.hid hb0
  have HL := Lib.hid l0
  have HT : Hid (thB l x = (codeB l && (inTh l x && phB l x))) := rfl
  have HI : Hid (inTh l x = decide (0 ≤ x.at_ ∧ x.at_ ≤ (l.length : Int) ∧ 0 ≤ x.st ∧ x.st ≤ 2)) := rfl
  have HP : Hid (phB l x = if x.ph = 0 then (x.rg == 0) && (x.tk == 0) else if x.ph = 1 then hdB l x 18 else if x.ph = 2 then hdB l x 19 else false) := rfl
  have HC := Lib.hid (fun w h => code16 l A c w h)
  have HD := Lib.hid (fun op w h h0 => holds16 l A c x v op w h h0)
  clear h hb0 l0
  go_enter Try.func13, Try.ntmps13
  go_wp2_with fail
  generalize w.alloc (.cells (thC x v) 27) = w1 at *
  refine (HC.out _ (HH.out _ HB.out)).mono ?_
  rintro e w2 ⟨rfl, hbm⟩
  replace HB := Lib.hid (HB.out.trans (hbm.mono HB.out.size))
  replace HL := Lib.hid (HL.out.below hbm HL.out.lt)
  clear hbm HC
  have c0 := (HL.out.cell 0).trans (show _ = some (Value.int .i64 x.at_) from rfl)
  have c1 := (HL.out.cell 1).trans (show _ = some (Value.int .i64 x.ph) from rfl)
  have c2 := (HL.out.cell 2).trans (show _ = some (Value.int .i64 x.rg) from rfl)
  have c3 := (HL.out.cell 3).trans (show _ = some (Value.int .i64 x.st) from rfl)
  have c4 := (HL.out.cell 4).trans (show _ = some (Value.int .u64 (x.tk : Int)) from rfl)
  have c5 := (HL.out.cell 5).trans (show _ = some (Value.int .u64 (x.r 0 : Int)) from rfl)
  have c6 := (HL.out.cell 6).trans (show _ = some (Value.int .u64 (x.r 1 : Int)) from rfl)
  have c7 := (HL.out.cell 7).trans (show _ = some (Value.int .u64 (x.r 2 : Int)) from rfl)
  have c8 := (HL.out.cell 8).trans (show _ = some (Value.int .u64 (x.r 3 : Int)) from rfl)
  have c9 := (HL.out.cell 9).trans (show _ = some (Value.int .u64 (x.r 4 : Int)) from rfl)
  have c10 := (HL.out.cell 10).trans (show _ = some (Value.int .u64 (x.r 5 : Int)) from rfl)
  have c11 := (HL.out.cell 11).trans (show _ = some (Value.int .u64 (x.r 6 : Int)) from rfl)
  have c12 := (HL.out.cell 12).trans (show _ = some (Value.int .u64 (x.r 7 : Int)) from rfl)
  have c13 := (HL.out.cell 13).trans (show _ = some v from rfl)
  have cl := HL.out.lt
  generalize codeB l = cb at *
  cases cb with
  | false =>
    have HE : Hid (thB l x = false) := HT.out
    clear HT HI HP
    go_wp2
    go_ret
    exact ⟨ret_bool HE.out.symm, HB.out⟩
  | true =>
  rw [Bool.true_and] at HT
  by_cases hin : 0 ≤ x.at_ ∧ x.at_ ≤ (l.length : Int) ∧ 0 ≤ x.st ∧ x.st ≤ 2
  case neg =>
    have HE : Hid (thB l x = false) := by show _ = _; rw [HT.out, HI.out, decide_eq_false hin]; rfl
    have hcs : (x.at_ < 0) ∨ (¬ x.at_ < 0 ∧ (l.length : Int) < x.at_) ∨ (¬ x.at_ < 0 ∧ ¬ (l.length : Int) < x.at_ ∧ x.st < 0) ∨ (¬ x.at_ < 0 ∧ ¬ (l.length : Int) < x.at_ ∧ ¬ x.st < 0 ∧ 2 < x.st) := by omega
    clear HT HI HP hin
    rcases hcs with q1 | ⟨q1, q2⟩ | ⟨q1, q2, q3⟩ | ⟨q1, q2, q3, q4⟩
    · have g1 : decide (x.at_ < 0) = true := decide_eq_true q1
      go_wp2
      go_ret
      exact ⟨ret_bool HE.out.symm, HB.out⟩
    · have g1 : decide (x.at_ < 0) = false := decide_eq_false q1
      have g2 : decide ((l.length : Int) < x.at_) = true := decide_eq_true q2
      go_wp2
      go_ret
      exact ⟨ret_bool HE.out.symm, HB.out⟩
    · have g1 : decide (x.at_ < 0) = false := decide_eq_false q1
      have g2 : decide ((l.length : Int) < x.at_) = false := decide_eq_false q2
      have g3 : decide (x.st < 0) = true := decide_eq_true q3
      go_wp2
      go_ret
      exact ⟨ret_bool HE.out.symm, HB.out⟩
    · have g1 : decide (x.at_ < 0) = false := decide_eq_false q1
      have g2 : decide ((l.length : Int) < x.at_) = false := decide_eq_false q2
      have g3 : decide (x.st < 0) = false := decide_eq_false q3
      have g4 : decide (2 < x.st) = true := decide_eq_true q4
      go_wp2
      go_ret
      exact ⟨ret_bool HE.out.symm, HB.out⟩
  have g1 : decide (x.at_ < 0) = false := decide_eq_false (by omega)
  have g2 : decide ((l.length : Int) < x.at_) = false := decide_eq_false (by omega)
  have g3 : decide (x.st < 0) = false := decide_eq_false (by omega)
  have g4 : decide (2 < x.st) = false := decide_eq_false (by omega)
  have h0 := hin.1
  rw [decide_eq_true hin] at HI
  rw [HI.out, Bool.true_and] at HT
  clear hin HI
  by_cases p0 : x.ph = 0
  · rw [if_pos p0] at HP
    have e0 : (x.ph == 0) = true := by rw [beq_iff_eq]; exact p0
    obtain ⟨b1, hb1⟩ : ∃ b, (x.rg == 0) = b := ⟨_, rfl⟩
    obtain ⟨b2, hb2⟩ : ∃ b, (x.tk == 0) = b := ⟨_, rfl⟩
    have hb3 : ((x.tk : Int) == 0) = b2 := by rw [← hb2, Bool.eq_iff_iff, beq_iff_eq, beq_iff_eq]; omega
    rw [hb1, hb2] at HP
    clear p0 hb2
    cases b1 <;> cases b2
    all_goals
      have HE := Lib.hid (HT.out.trans HP.out)
      clear HT HP
      go_wp2
      go_ret
      exact ⟨ret_bool HE.out.symm, HB.out⟩
  rw [if_neg p0] at HP
  have e0 : (x.ph == 0) = false := by rw [beq_eq_false_iff_ne]; exact p0
  by_cases p1 : x.ph = 1
  · rw [if_pos p1] at HP
    have e1 : (x.ph == 1) = true := by rw [beq_iff_eq]; exact p1
    have HE := Lib.hid (HT.out.trans HP.out)
    clear HT HP p0 p1
    go_wp2_with fail
    refine (HD.out 18 _ (HH.out _ HB.out) h0).mono ?_
    rintro e w3 ⟨rfl, hbm⟩
    replace HB := Lib.hid (HB.out.trans (hbm.mono HB.out.size))
    clear hbm HD
    go_wp2
    go_ret
    exact ⟨ret_bool HE.out.symm, HB.out⟩
  rw [if_neg p1] at HP
  have e1 : (x.ph == 1) = false := by rw [beq_eq_false_iff_ne]; exact p1
  by_cases p2 : x.ph = 2
  · rw [if_pos p2] at HP
    have e2 : (x.ph == 2) = true := by rw [beq_iff_eq]; exact p2
    have HE := Lib.hid (HT.out.trans HP.out)
    clear HT HP p0 p1 p2
    go_wp2_with fail
    refine (HD.out 19 _ (HH.out _ HB.out) h0).mono ?_
    rintro e w3 ⟨rfl, hbm⟩
    replace HB := Lib.hid (HB.out.trans (hbm.mono HB.out.size))
    clear hbm HD
    go_wp2
    go_ret
    exact ⟨ret_bool HE.out.symm, HB.out⟩
  rw [if_neg p2] at HP
  have e2 : (x.ph == 2) = false := by rw [beq_eq_false_iff_ne]; exact p2
  have HE := Lib.hid (HT.out.trans HP.out)
  clear HT HP p0 p1 p2
  go_wp2
  go_ret
  exact ⟨ret_bool HE.out.symm, HB.out⟩
set_option maxHeartbeats 8000000 in
set_option maxRecDepth 100000 in
theorem rfCode16 (l : List In) (A : Option Addr) (c : Nat) (w : World) (h : InsAt w A c l) (hok : ∀ x ∈ l, inOk x) :
    Calls Try.prog 12 #[.slice A l.length c] w fun e w' => e = .returned (.bool (codeB l)) ∧ Below w.heap.size w w' := by
  obtain ⟨hc1, hc2⟩ := seq_form h
  have HH := Lib.hid h
  have HB := Lib.hid (Below.refl w.heap.size w)
  have HLO := Lib.hid (@codeB_long l)
  have HBAD := Lib.hid (fun i x => @codeB_bad l i x)
  have HOK := Lib.hid (@codeB_ok l)
  have HIN := Lib.hid hok
  clear h hok
  by_cases hl : 256 < l.length
  · have e1 : decide ((256 : Int) < (l.length : Int)) = true := decide_eq_true (by omega)
    have e2 : decide (256 < l.length) = true := decide_eq_true hl
    have HE := Lib.hid (HLO.out hl)
    clear HLO HBAD HOK
    go_enter Try.func12, Try.ntmps12
    go_wp2
    go_ret
    exact ⟨ret_bool HE.out.symm, HB.out⟩
  have e1 : decide ((256 : Int) < (l.length : Int)) = false := decide_eq_false (by omega)
  have e2 : decide (256 < l.length) = false := decide_eq_false hl
  have HOK2 := Lib.hid (HOK.out hl)
  clear HLO HOK
  go_enter Try.func12, Try.ntmps12
  go_wp2_with fail
  go_loopw [3] (fun u wr => ∃ k : Nat, k ≤ l.length ∧ u = .int .i64 k ∧ Hid (∀ y ∈ l.take k, cdX l.length y = true) ∧ Hid (Below w.heap.size w wr)) (fun u _ => l.length - (intOf u).toNat)
  case atStart => exact ⟨0, by omega, rfl, (by show ∀ y ∈ l.take 0, _; simp), HB⟩
  case round =>
    clear HB
    obtain ⟨k, hk, rfl, HA, HB⟩ := hrel
    by_cases hlt : k < l.length
    · have hki : (k : Int) < (l.length : Int) := by omega
      obtain ⟨x, hx⟩ : ∃ x, l[k]? = some x := ⟨_, List.getElem?_eq_getElem hlt⟩
      obtain ⟨b, off, rfl, hbl, hg⟩ := InsAt.at_ HH.out hx
      have HG := Lib.hid (fun (q : World) (hq : Below w.heap.size w q) (j : Nat) (u : Value) (hj : j < 6) (hu : (inF x)[j]? = some u) => cell_later (hg j u hj hu) hq)
      have HBD := Lib.hid (HBAD.out k x hx)
      have HNX := Lib.hid (fun h => take_all (n := l.length) HA.out hx h)
      have hix := HIN.out x (List.mem_of_getElem? hx)
      have HR := Lib.hid (fun w => rfRight x w hix)
      have HCX : Hid (cdX l.length x = (rightB x && !(jumpsB x.op && decide (l.length < x.k)))) := rfl
      have HJB : Hid (jumpsB x.op = (decide (15 ≤ x.op) && decide (x.op ≤ 17))) := rfl
      clear hg hx HA hix
      have g0 := HG.out _ (HB).out 0 _ (by decide) rfl
      have g1 := HG.out _ (HB).out 1 _ (by decide) rfl
      have g2 := HG.out _ (HB).out 2 _ (by decide) rfl
      have g3 := HG.out _ (HB).out 3 _ (by decide) rfl
      have g4 := HG.out _ (HB).out 4 _ (by decide) rfl
      have g5 := HG.out _ (HB).out 5 _ (by decide) rfl
      rw [Nat.add_zero] at g0
      go_wp2_with fail
      refine (HR.out _).mono ?_
      rintro e w3 ⟨rfl, hbm⟩
      replace HB := Lib.hid (HB.out.trans (hbm.mono HB.out.size))
      clear hbm g0 g1 g2 g3 g4 g5 HR
      have g0 := HG.out _ (HB).out 0 _ (by decide) rfl
      have g1 := HG.out _ (HB).out 1 _ (by decide) rfl
      have g2 := HG.out _ (HB).out 2 _ (by decide) rfl
      have g3 := HG.out _ (HB).out 3 _ (by decide) rfl
      have g4 := HG.out _ (HB).out 4 _ (by decide) rfl
      have g5 := HG.out _ (HB).out 5 _ (by decide) rfl
      rw [Nat.add_zero] at g0
      generalize rightB x = rb at *
      cases rb with
      | false =>
        have HE := Lib.hid (HBD.out (by rw [HCX.out]; rfl))
        clear HBD HNX HCX HJB
        go_wp2
        go_ret
        exact ⟨ret_bool HE.out.symm, HB.out⟩
      | true =>
        have hwl : IntKind.u64.wrap (l.length : Int) = (l.length : Int) := by rw [IntKind.wrap_u64]; omega
        obtain ⟨kb, hkb⟩ : ∃ b, decide (l.length < x.k) = b := ⟨_, rfl⟩
        have hkb2 : decide ((l.length : Int) < (x.k : Int)) = kb := by rw [← hkb]; congr 1; apply propext; omega
        obtain ⟨j1, hj1⟩ : ∃ b, decide (15 ≤ x.op) = b := ⟨_, rfl⟩
        obtain ⟨j2, hj2⟩ : ∃ b, decide (x.op ≤ 17) = b := ⟨_, rfl⟩
        rw [hj1, hj2] at HJB
        rw [hkb, HJB.out] at HCX
        clear HJB
        cases j1 <;> cases j2 <;> cases kb
        all_goals first
          | (have HN2 := Lib.hid (HNX.out (by rw [HCX.out]; rfl))
             clear HBD HNX HCX
             go_wp2
             go_roundw
             case rel => exact ⟨k + 1, by omega, by go_num, HN2, HB⟩
             case measure => simp [intOf]; omega)
          | (have HE := Lib.hid (HBD.out (by rw [HCX.out]; rfl))
             clear HBD HNX HCX
             go_wp2
             go_ret
             exact ⟨ret_bool HE.out.symm, HB.out⟩)
    · obtain rfl : k = l.length := by omega
      have HA2 := HA.out
      rw [List.take_length] at HA2
      have HE := Lib.hid (HOK2.out HA2)
      clear HA2 HA HOK2 HBAD
      go_wp2
      go_ret
      exact ⟨ret_bool HE.out.symm, HB.out⟩
end Go.Proofs.Ytiegmpjoiekekaa
