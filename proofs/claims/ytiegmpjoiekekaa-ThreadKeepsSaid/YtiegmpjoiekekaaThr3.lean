/-
  Which states a thread may stand in (layer 16): the document's Right.
-/
import Derived.Test.YtiegmpjoiekekaaThr2
namespace Go.Proofs.Ytiegmpjoiekekaa
open Go.RowKit
set_option linter.unusedVariables false
set_option linter.unusedSimpArgs false
set_option maxHeartbeats 16000000 in
set_option maxRecDepth 100000 in
theorem rfThRight (l : List In) (A : Option Addr) (c : Nat) (x : Th) (v : Value) (w : World) (h : InsAt w A c l) (hok : ∀ x ∈ l, inOk x) :
    Calls Try.prog 9 #[.slice A l.length c, .agg (thC x v)] w fun e w' => e = .returned (.bool (thB l x)) ∧ Below w.heap.size w w' := by
  obtain ⟨hc1, hc2⟩ := seq_form h
  have hb0 : Below w.heap.size w (w.alloc (.cells (thC x v) 27)) := (Below.refl _ _).alloc (Nat.le_refl _) _
  have l0 := Lies.made w 27 (thC x v)
  have HH := Lib.hid (fun (q : World) (hq : Below w.heap.size w q) => h.later hq)
  have HB := Lib.hid hb0
  have HL := Lib.hid l0
  have HT : Hid (thB l x = (codeB l && (inTh l x && phB l x))) := rfl
  have HI : Hid (inTh l x = decide (0 ≤ x.at_ ∧ x.at_ ≤ (l.length : Int) ∧ 0 ≤ x.st ∧ x.st ≤ 2)) := rfl
  have HP : Hid (phB l x = if x.ph = 0 then (x.rg == 0) && (x.tk == 0) else if x.ph = 1 then hdB l x 18 else if x.ph = 2 then hdB l x 19 else false) := rfl
  have HC := Lib.hid (fun w h => rfCode16 l A c w h hok)
  have HDF : ∀ op, hdB l x op = ((x.st == 0) && (decide (x.at_ < (l.length : Int)) && (((l.getD x.at_.toNat default).op == op) && (((l.getD x.at_.toNat default).c == x.rg) && decide (x.tk < 4611686018427387904))))) := fun _ => rfl
  have HD := Lib.hid HDF
  clear h hb0 l0 hok HDF
  go_enter Try.func9, Try.ntmps9
  go_wp2_with fail
  generalize w.alloc (.cells (thC x v) 27) = w1 at *
  refine (HC.out _ (HH.out _ HB.out)).mono ?_
  rintro e w2 ⟨rfl, hbm⟩
  replace HB := Lib.hid (HB.out.trans (hbm.mono HB.out.size))
  replace HL := Lib.hid (HL.out.below hbm HL.out.lt)
  clear hbm HC
  have c0 := (HL.out.cell 0).trans (show _ = some (Value.int .i64 x.at_) from rfl)
  have c1 := (HL.out.cell 1).trans (show _ = some (Value.int .i64 x.ph) from rfl)
  have c2 := (HL.out.cell 2).trans (show _ = some (Value.int .i64 x.rg) from rfl)
  have c3 := (HL.out.cell 3).trans (show _ = some (Value.int .i64 x.st) from rfl)
  have c4 := (HL.out.cell 4).trans (show _ = some (Value.int .u64 (x.tk : Int)) from rfl)
  have c5 := (HL.out.cell 5).trans (show _ = some (Value.int .u64 (x.r 0 : Int)) from rfl)
  have c6 := (HL.out.cell 6).trans (show _ = some (Value.int .u64 (x.r 1 : Int)) from rfl)
  have c7 := (HL.out.cell 7).trans (show _ = some (Value.int .u64 (x.r 2 : Int)) from rfl)
  have c8 := (HL.out.cell 8).trans (show _ = some (Value.int .u64 (x.r 3 : Int)) from rfl)
  have c9 := (HL.out.cell 9).trans (show _ = some (Value.int .u64 (x.r 4 : Int)) from rfl)
  have c10 := (HL.out.cell 10).trans (show _ = some (Value.int .u64 (x.r 5 : Int)) from rfl)
  have c11 := (HL.out.cell 11).trans (show _ = some (Value.int .u64 (x.r 6 : Int)) from rfl)
  have c12 := (HL.out.cell 12).trans (show _ = some (Value.int .u64 (x.r 7 : Int)) from rfl)
  have c13 := (HL.out.cell 13).trans (show _ = some v from rfl)
  have cl := HL.out.lt
  generalize codeB l = cb at *
  cases cb with
  | false =>
    have HE : Hid (thB l x = false) := HT.out
    clear HT HI HP HD
    go_wp2
    go_ret
    exact ⟨ret_bool HE.out.symm, HB.out⟩
  | true =>
  rw [Bool.true_and] at HT
  by_cases hin : 0 ≤ x.at_ ∧ x.at_ ≤ (l.length : Int) ∧ 0 ≤ x.st ∧ x.st ≤ 2
  case neg =>
    have HE : Hid (thB l x = false) := by show _ = _; rw [HT.out, HI.out, decide_eq_false hin]; rfl
    have hcs : (x.at_ < 0) ∨ (¬ x.at_ < 0 ∧ (l.length : Int) < x.at_) ∨ (¬ x.at_ < 0 ∧ ¬ (l.length : Int) < x.at_ ∧ x.st < 0) ∨ (¬ x.at_ < 0 ∧ ¬ (l.length : Int) < x.at_ ∧ ¬ x.st < 0 ∧ 2 < x.st) := by omega
    clear HT HI HP hin HD
    rcases hcs with q1 | ⟨q1, q2⟩ | ⟨q1, q2, q3⟩ | ⟨q1, q2, q3, q4⟩
    · have g1 : decide (x.at_ < 0) = true := decide_eq_true q1
      go_wp2
      go_ret
      exact ⟨ret_bool HE.out.symm, HB.out⟩
    · have g1 : decide (x.at_ < 0) = false := decide_eq_false q1
      have g2 : decide ((l.length : Int) < x.at_) = true := decide_eq_true q2
      go_wp2
      go_ret
      exact ⟨ret_bool HE.out.symm, HB.out⟩
    · have g1 : decide (x.at_ < 0) = false := decide_eq_false q1
      have g2 : decide ((l.length : Int) < x.at_) = false := decide_eq_false q2
      have g3 : decide (x.st < 0) = true := decide_eq_true q3
      go_wp2
      go_ret
      exact ⟨ret_bool HE.out.symm, HB.out⟩
    · have g1 : decide (x.at_ < 0) = false := decide_eq_false q1
      have g2 : decide ((l.length : Int) < x.at_) = false := decide_eq_false q2
      have g3 : decide (x.st < 0) = false := decide_eq_false q3
      have g4 : decide (2 < x.st) = true := decide_eq_true q4
      go_wp2
      go_ret
      exact ⟨ret_bool HE.out.symm, HB.out⟩
  have g1 : decide (x.at_ < 0) = false := decide_eq_false (by omega)
  have g2 : decide ((l.length : Int) < x.at_) = false := decide_eq_false (by omega)
  have g3 : decide (x.st < 0) = false := decide_eq_false (by omega)
  have g4 : decide (2 < x.st) = false := decide_eq_false (by omega)
  have h0 := hin.1
  rw [decide_eq_true hin] at HI
  rw [HI.out, Bool.true_and] at HT
  clear hin HI
  by_cases p0 : x.ph = 0
  · rw [if_pos p0] at HP
    rw [p0] at c1
    obtain ⟨b1, hb1⟩ : ∃ b, (x.rg == 0) = b := ⟨_, rfl⟩
    obtain ⟨b2, hb2⟩ : ∃ b, (x.tk == 0) = b := ⟨_, rfl⟩
    have hb3 : ((x.tk : Int) == 0) = b2 := by rw [← hb2, Bool.eq_iff_iff, beq_iff_eq, beq_iff_eq]; omega
    rw [hb1, hb2] at HP
    clear p0 hb2 HD
    cases b1 <;> cases b2
    all_goals
      have HE := Lib.hid (HT.out.trans HP.out)
      clear HT HP
      go_wp2
      go_ret
      exact ⟨ret_bool HE.out.symm, HB.out⟩
  rw [if_neg p0] at HP
  by_cases hph : x.ph = 1 ∨ x.ph = 2
  case neg =>
    have HE : Hid (thB l x = false) := by
      show _ = _
      rw [HT.out, HP.out, if_neg (fun h => hph (.inl h)), if_neg (fun h => hph (.inr h))]
    have hcs : (x.ph < 0) ∨ (¬ x.ph < 0 ∧ 2 < x.ph) := by omega
    clear HT HP hph p0 HD
    rcases hcs with q1 | ⟨q1, q2⟩
    · have g5 : decide (x.ph < 0) = true := decide_eq_true q1
      go_wp2
      go_ret
      exact ⟨ret_bool HE.out.symm, HB.out⟩
    · have g5 : decide (x.ph < 0) = false := decide_eq_false q1
      have g6 : decide (2 < x.ph) = true := decide_eq_true q2
      go_wp2
      go_ret
      exact ⟨ret_bool HE.out.symm, HB.out⟩
  obtain ⟨op, hop, HP2⟩ : ∃ op : Int, (17 + x.ph = op) ∧ Hid (phB l x = hdB l x op) := by
    rcases hph with h | h
    · exact ⟨18, by omega, by show _ = _; rw [HP.out, if_pos h]⟩
    · exact ⟨19, by omega, by show _ = _; rw [HP.out, if_neg (by omega), if_pos h]⟩
  have HE0 := Lib.hid (HT.out.trans (HP2.out.trans (HD.out op)))
  have e0 : (x.ph == 0) = false := by rw [beq_eq_false_iff_ne]; exact p0
  have g5 : decide (x.ph < 0) = false := decide_eq_false (by omega)
  have g6 : decide (2 < x.ph) = false := decide_eq_false (by omega)
  have hpi : -9223372036854775808 ≤ x.ph ∧ x.ph ≤ 9223372036854775790 := by omega
  obtain ⟨hp1, hp2⟩ := hpi
  have hwo : IntKind.i64.wrap (17 + x.ph) = op := by rw [hop]; exact IntWalk.i64_in _ (by omega)
  obtain ⟨P, hP⟩ : ∃ P, x.ph = P := ⟨_, rfl⟩
  rw [hP] at c1 e0 g5 g6 hwo
  clear HT HP HP2 HD p0 hph hop hp1 hp2 hP
  obtain ⟨sb, hsb⟩ : ∃ b, (x.st == 0) = b := ⟨_, rfl⟩
  rw [hsb] at HE0
  cases sb with
  | false =>
    have HE : Hid (thB l x = false) := HE0.out
    clear HE0
    go_wp2
    go_quiet (fail)
    go_wp2
    go_ret
    exact ⟨ret_bool HE.out.symm, below_drewN HB.out _⟩
  | true =>
    by_cases hlt : x.at_ < (l.length : Int)
    case neg =>
      have e1 : decide (x.at_ < (l.length : Int)) = false := decide_eq_false hlt
      have HE : Hid (thB l x = false) := by show _ = _; rw [HE0.out, e1]; rfl
      clear HE0 hlt
      go_wp2
      go_quiet (fail)
      go_wp2
      go_ret
      exact ⟨ret_bool HE.out.symm, below_drewN HB.out _⟩
    have e1 : decide (x.at_ < (l.length : Int)) = true := decide_eq_true hlt
    obtain ⟨an, han⟩ : ∃ n : Nat, x.at_ = n := ⟨x.at_.toNat, by omega⟩
    obtain ⟨y, hy⟩ : ∃ y, l[an]? = some y := ⟨_, List.getElem?_eq_getElem (by omega)⟩
    have hgd : l.getD x.at_.toNat default = y := by rw [han, Int.toNat_natCast, List.getD_eq_getElem?_getD, hy]; rfl
    rw [hgd, e1] at HE0
    obtain ⟨b, off, rfl, hbl, hg⟩ := InsAt.at_ (HH.out _ HB.out) hy
    have q0 := hg 0 _ (by decide) rfl
    have q3 := hg 3 _ (by decide) rfl
    rw [Nat.add_zero] at q0
    obtain ⟨ob, hob⟩ : ∃ b, (y.op == op) = b := ⟨_, rfl⟩
    obtain ⟨cb, hcb⟩ : ∃ b, (y.c == x.rg) = b := ⟨_, rfl⟩
    obtain ⟨tb, htb⟩ : ∃ b, decide (x.tk < 4611686018427387904) = b := ⟨_, rfl⟩
    have htb2 : decide ((x.tk : Int) < 4611686018427387904) = tb := by rw [← htb]; congr 1; apply propext; omega
    rw [hob, hcb, htb] at HE0
    have hlt2 : (an : Int) < (l.length : Int) := by omega
    rw [han] at e1 c0 g1 g2
    obtain ⟨TK, hTK⟩ : ∃ T : Int, (x.tk : Int) = T := ⟨_, rfl⟩
    rw [hTK] at c4 htb2
    clear hgd hg hy hlt han htb h0 hTK
    cases ob <;> cases cb <;> cases tb
    all_goals
      have HE := HE0.out
      simp only [Bool.true_and, Bool.false_and, Bool.and_false, Bool.and_true] at HE
      have HE2 := Lib.hid HE
      clear HE HE0
      go_wp2
      go_quiet (fail)
      go_wp2
      go_ret
      exact ⟨ret_bool HE2.out.symm, below_drewN HB.out _⟩
end Go.Proofs.Ytiegmpjoiekekaa
