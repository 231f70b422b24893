/-
  Which states a thread may stand in (layer 16): thread.holds, thread.Right.
-/
import Derived.Test.YtiegmpjoiekekaaTh
namespace Go.Proofs.Ytiegmpjoiekekaa
open Go.RowKit
set_option linter.unusedVariables false
set_option linter.unusedSimpArgs false
def hdB (l : List In) (x : Th) (op : Int) : Bool := (x.st == 0) && (decide (x.at_ < (l.length : Int)) && (((l.getD x.at_.toNat default).op == op) && (((l.getD x.at_.toNat default).c == x.rg) && decide (x.tk < 4611686018427387904))))
set_option maxHeartbeats 8000000 in
set_option maxRecDepth 100000 in
theorem holds16 (l : List In) (A : Option Addr) (c : Nat) (x : Th) (v : Value) (op : Int) (w : World) (h : InsAt w A c l) (h0 : 0 ≤ x.at_) :
    Calls Try.prog 29 #[.slice A l.length c, .agg (thC x v), .int .i64 op] w fun e w' => e = .returned (.bool (hdB l x op)) ∧ Below w.heap.size w w' := by
  obtain ⟨hc1, hc2⟩ := seq_form h
  have hb0 : Below w.heap.size w (w.alloc (.cells (thC x v) 27)) := (Below.refl _ _).alloc (Nat.le_refl _) _
  have l0 := Lies.made w 27 (thC x v)
  have h1 := h.later hb0
  have HH := Lib.hid h1
  have HB := Lib.hid hb0
  have HL := Lib.hid l0
  have HD : Hid (hdB l x op = ((x.st == 0) && (decide (x.at_ < (l.length : Int)) && (((l.getD x.at_.toNat default).op == op) && (((l.getD x.at_.toNat default).c == x.rg) && decide (x.tk < 4611686018427387904)))))) := rfl
  clear h h1 hb0 l0
  obtain ⟨sb, hsb⟩ : ∃ b, (x.st == 0) = b := ⟨_, rfl⟩
  rw [hsb] at HD
  cases sb with
  | false =>
    have HE : Hid (hdB l x op = false) := HD.out
    clear HD
    go_enter Try.func29, Try.ntmps29
    go_upto_region 1 with (fail)
    generalize w.alloc (.cells (thC x v) 27) = w1 at *
    have c0 := (HL.out.cell 0).trans (show _ = some (Value.int .i64 x.at_) from rfl)
    have c1 := (HL.out.cell 1).trans (show _ = some (Value.int .i64 x.ph) from rfl)
    have c2 := (HL.out.cell 2).trans (show _ = some (Value.int .i64 x.rg) from rfl)
    have c3 := (HL.out.cell 3).trans (show _ = some (Value.int .i64 x.st) from rfl)
    have c4 := (HL.out.cell 4).trans (show _ = some (Value.int .u64 (x.tk : Int)) from rfl)
    have c5 := (HL.out.cell 5).trans (show _ = some (Value.int .u64 (x.r 0 : Int)) from rfl)
    have c6 := (HL.out.cell 6).trans (show _ = some (Value.int .u64 (x.r 1 : Int)) from rfl)
    have c7 := (HL.out.cell 7).trans (show _ = some (Value.int .u64 (x.r 2 : Int)) from rfl)
    have c8 := (HL.out.cell 8).trans (show _ = some (Value.int .u64 (x.r 3 : Int)) from rfl)
    have c9 := (HL.out.cell 9).trans (show _ = some (Value.int .u64 (x.r 4 : Int)) from rfl)
    have c10 := (HL.out.cell 10).trans (show _ = some (Value.int .u64 (x.r 5 : Int)) from rfl)
    have c11 := (HL.out.cell 11).trans (show _ = some (Value.int .u64 (x.r 6 : Int)) from rfl)
    have c12 := (HL.out.cell 12).trans (show _ = some (Value.int .u64 (x.r 7 : Int)) from rfl)
    have c13 := (HL.out.cell 13).trans (show _ = some v from rfl)
    have cl := HL.out.lt
    go_wp2
    go_quiet (fail)
    go_wp2
    go_ret
    exact ⟨ret_bool HE.out.symm, below_drewN HB.out _⟩
  | true =>
    by_cases hlt : x.at_ < (l.length : Int)
    case neg =>
      have e1 : decide (x.at_ < (l.length : Int)) = false := decide_eq_false hlt
      have HE : Hid (hdB l x op = false) := by show _ = _; rw [HD.out, e1]; rfl
      clear HD hlt
      go_enter Try.func29, Try.ntmps29
      go_upto_region 1 with (fail)
      generalize w.alloc (.cells (thC x v) 27) = w1 at *
      have c0 := (HL.out.cell 0).trans (show _ = some (Value.int .i64 x.at_) from rfl)
      have c1 := (HL.out.cell 1).trans (show _ = some (Value.int .i64 x.ph) from rfl)
      have c2 := (HL.out.cell 2).trans (show _ = some (Value.int .i64 x.rg) from rfl)
      have c3 := (HL.out.cell 3).trans (show _ = some (Value.int .i64 x.st) from rfl)
      have c4 := (HL.out.cell 4).trans (show _ = some (Value.int .u64 (x.tk : Int)) from rfl)
      have c5 := (HL.out.cell 5).trans (show _ = some (Value.int .u64 (x.r 0 : Int)) from rfl)
      have c6 := (HL.out.cell 6).trans (show _ = some (Value.int .u64 (x.r 1 : Int)) from rfl)
      have c7 := (HL.out.cell 7).trans (show _ = some (Value.int .u64 (x.r 2 : Int)) from rfl)
      have c8 := (HL.out.cell 8).trans (show _ = some (Value.int .u64 (x.r 3 : Int)) from rfl)
      have c9 := (HL.out.cell 9).trans (show _ = some (Value.int .u64 (x.r 4 : Int)) from rfl)
      have c10 := (HL.out.cell 10).trans (show _ = some (Value.int .u64 (x.r 5 : Int)) from rfl)
      have c11 := (HL.out.cell 11).trans (show _ = some (Value.int .u64 (x.r 6 : Int)) from rfl)
      have c12 := (HL.out.cell 12).trans (show _ = some (Value.int .u64 (x.r 7 : Int)) from rfl)
      have c13 := (HL.out.cell 13).trans (show _ = some v from rfl)
      have cl := HL.out.lt
      go_wp2
      go_quiet (fail)
      go_wp2
      go_ret
      exact ⟨ret_bool HE.out.symm, below_drewN HB.out _⟩
    have e1 : decide (x.at_ < (l.length : Int)) = true := decide_eq_true hlt
    obtain ⟨an, han⟩ : ∃ n : Nat, x.at_ = n := ⟨x.at_.toNat, by omega⟩
    obtain ⟨y, hy⟩ : ∃ y, l[an]? = some y := ⟨_, List.getElem?_eq_getElem (by omega)⟩
    have hgd : l.getD x.at_.toNat default = y := by rw [han, Int.toNat_natCast, List.getD_eq_getElem?_getD, hy]; rfl
    rw [hgd, e1] at HD
    obtain ⟨b, off, rfl, hbl, hg⟩ := InsAt.at_ HH.out hy
    have g0 := hg 0 _ (by decide) rfl
    have g3 := hg 3 _ (by decide) rfl
    rw [Nat.add_zero] at g0
    obtain ⟨ob, hob⟩ : ∃ b, (y.op == op) = b := ⟨_, rfl⟩
    obtain ⟨cb, hcb⟩ : ∃ b, (y.c == x.rg) = b := ⟨_, rfl⟩
    obtain ⟨tb, htb⟩ : ∃ b, decide (x.tk < 4611686018427387904) = b := ⟨_, rfl⟩
    have htb2 : decide ((x.tk : Int) < 4611686018427387904) = tb := by rw [← htb]; congr 1; apply propext; omega
    rw [hob, hcb, htb] at HD
    have hlt2 : (an : Int) < (l.length : Int) := by omega
    rw [han] at e1
    have HAN := Lib.hid han
    clear hgd hg hy hlt han htb
    cases ob <;> cases cb <;> cases tb
    all_goals
      have HE := HD.out
      simp only [Bool.true_and, Bool.false_and, Bool.and_false, Bool.and_true] at HE
      have HE2 := Lib.hid HE
      clear HE HD
      go_enter Try.func29, Try.ntmps29
      go_upto_region 1 with (fail)
      generalize w.alloc (.cells (thC x v) 27) = w1 at *
      have c0 := (HL.out.cell 0).trans (show _ = some (Value.int .i64 x.at_) from rfl)
      have c1 := (HL.out.cell 1).trans (show _ = some (Value.int .i64 x.ph) from rfl)
      have c2 := (HL.out.cell 2).trans (show _ = some (Value.int .i64 x.rg) from rfl)
      have c3 := (HL.out.cell 3).trans (show _ = some (Value.int .i64 x.st) from rfl)
      have c4 := (HL.out.cell 4).trans (show _ = some (Value.int .u64 (x.tk : Int)) from rfl)
      have c5 := (HL.out.cell 5).trans (show _ = some (Value.int .u64 (x.r 0 : Int)) from rfl)
      have c6 := (HL.out.cell 6).trans (show _ = some (Value.int .u64 (x.r 1 : Int)) from rfl)
      have c7 := (HL.out.cell 7).trans (show _ = some (Value.int .u64 (x.r 2 : Int)) from rfl)
      have c8 := (HL.out.cell 8).trans (show _ = some (Value.int .u64 (x.r 3 : Int)) from rfl)
      have c9 := (HL.out.cell 9).trans (show _ = some (Value.int .u64 (x.r 4 : Int)) from rfl)
      have c10 := (HL.out.cell 10).trans (show _ = some (Value.int .u64 (x.r 5 : Int)) from rfl)
      have c11 := (HL.out.cell 11).trans (show _ = some (Value.int .u64 (x.r 6 : Int)) from rfl)
      have c12 := (HL.out.cell 12).trans (show _ = some (Value.int .u64 (x.r 7 : Int)) from rfl)
      have c13 := (HL.out.cell 13).trans (show _ = some v from rfl)
      have cl := HL.out.lt
      rw [HAN.out] at c0
      go_wp2
      go_quiet (fail)
      go_wp2
      go_ret
      exact ⟨ret_bool HE2.out.symm, below_drewN HB.out _⟩
end Go.Proofs.Ytiegmpjoiekekaa
