/-
  Threads' states as data (layer 16), and which lists of instructions a thread may have.
-/
import Derived.Test.YtiegmpjoiekekaaCode2
import Derived.Test.YtiegmpjoiekekaaOwn
namespace Go.Proofs.Ytiegmpjoiekekaa
open Go.RowKit
set_option linter.unusedVariables false
set_option linter.unusedSimpArgs false
structure Th where
  at_ : Int
  ph : Int
  rg : Int
  st : Int
  tk : Nat
  r : Nat → Nat
  sn : List Nat
/-- A state's cells; v: where what it saw lies. -/
abbrev thC (x : Th) (v : Value) : Array Value := #[.int .i64 x.at_, .int .i64 x.ph, .int .i64 x.rg, .int .i64 x.st, .int .u64 (x.tk : Int), .int .u64 (x.r 0 : Int), .int .u64 (x.r 1 : Int), .int .u64 (x.r 2 : Int), .int .u64 (x.r 3 : Int), .int .u64 (x.r 4 : Int), .int .u64 (x.r 5 : Int), .int .u64 (x.r 6 : Int), .int .u64 (x.r 7 : Int), v]
def cells64 (l : List Nat) : List Value := l.map fun (n : Nat) => Value.int .u64 (n : Int)
def thOk (x : Th) : Prop := i64 x.at_ ∧ i64 x.ph ∧ i64 x.rg ∧ i64 x.st ∧ x.tk ≤ 18446744073709551615 ∧ (∀ i, x.r i ≤ 18446744073709551615) ∧ ∀ n ∈ x.sn, n ≤ 18446744073709551615
theorem thC_reg (x : Th) (v : Value) {i : Nat} (h : i < 8) : (thC x v)[5 + i]? = some (.int .u64 (x.r i : Int)) := by
  have : i = 0 ∨ i = 1 ∨ i = 2 ∨ i = 3 ∨ i = 4 ∨ i = 5 ∨ i = 6 ∨ i = 7 := by omega
  rcases this with rfl | rfl | rfl | rfl | rfl | rfl | rfl | rfl <;> rfl
def setR (x : Th) (i u : Nat) : Th := { x with r := fun j => if j = i then u else x.r j }
theorem thC_set (x : Th) (v : Value) {i u : Nat} (h : i < 8) : (thC x v).setIfInBounds (5 + i) (.int .u64 (u : Int)) = thC (setR x i u) v := by
  have : i = 0 ∨ i = 1 ∨ i = 2 ∨ i = 3 ∨ i = 4 ∨ i = 5 ∨ i = 6 ∨ i = 7 := by omega
  rcases this with rfl | rfl | rfl | rfl | rfl | rfl | rfl | rfl <;> rfl
/-! ## Lists of instructions -/
def cdX (n : Nat) (x : In) : Bool := rightB x && !(jumpsB x.op && decide (n < x.k))
def codeB (l : List In) : Bool := decide (l.length ≤ 256) && l.all (cdX l.length)
theorem codeB_long {l : List In} (h : 256 < l.length) : codeB l = false := by unfold codeB; rw [decide_eq_false (by omega)]; rfl
theorem codeB_bad {l : List In} {i : Nat} {x : In} (hx : l[i]? = some x) (hb : cdX l.length x = false) : codeB l = false := by
  unfold codeB
  rw [Bool.and_eq_false_iff]
  refine .inr ?_
  rw [List.all_eq_false]
  exact ⟨x, List.mem_of_getElem? hx, by rw [hb]; decide⟩
theorem codeB_ok {l : List In} (hl : ¬ 256 < l.length) (h : ∀ y ∈ l, cdX l.length y = true) : codeB l = true := by
  unfold codeB
  rw [decide_eq_true (by omega), List.all_eq_true.2 h]; rfl
theorem take_all {l : List In} {k n : Nat} {x : In} (ha : ∀ y ∈ l.take k, cdX n y = true) (hx : l[k]? = some x) (hr : cdX n x = true) : ∀ y ∈ l.take (k + 1), cdX n y = true := by
  intro y hy
  rw [List.take_add_one, hx, Option.toList_some, List.mem_append] at hy
  rcases hy with hy | hy
  · exact ha y hy
  · rw [List.mem_singleton] at hy; subst hy; exact hr
set_option maxHeartbeats 8000000 in
set_option maxRecDepth 100000 in
theorem code16 (l : List In) (A : Option Addr) (c : Nat) (w : World) (h : InsAt w A c l) :
    Calls Try.prog 11 #[.slice A l.length c] w fun e w' => e = .returned (.bool (codeB l)) ∧ Below w.heap.size w w' := by
  obtain ⟨hc1, hc2⟩ := seq_form h
  have HH := Lib.hid h
  have HB := Lib.hid (Below.refl w.heap.size w)
  have HLO := Lib.hid (@codeB_long l)
  have HBAD := Lib.hid (fun i x => @codeB_bad l i x)
  have HOK := Lib.hid (@codeB_ok l)
  clear h
  by_cases hl : 256 < l.length
  · have e1 : decide ((256 : Int) < (l.length : Int)) = true := decide_eq_true (by omega)
    have e2 : decide (256 < l.length) = true := decide_eq_true hl
    have HE := Lib.hid (HLO.out hl)
    clear HLO HBAD HOK
    go_enter Try.func11, Try.ntmps11
    go_wp2
    go_ret
    exact ⟨ret_bool HE.out.symm, HB.out⟩
  have e1 : decide ((256 : Int) < (l.length : Int)) = false := decide_eq_false (by omega)
  have e2 : decide (256 < l.length) = false := decide_eq_false hl
  have HOK2 := Lib.hid (HOK.out hl)
  clear HLO HOK
  go_enter Try.func11, Try.ntmps11
  go_wp2_with fail
  go_loopw [10] (fun u wr => ∃ k : Nat, k ≤ l.length ∧ u = .int .i64 k ∧ Hid (∀ y ∈ l.take k, cdX l.length y = true) ∧ Hid (Below w.heap.size w wr)) (fun u _ => l.length - (intOf u).toNat)
  case atStart => exact ⟨0, by omega, rfl, (by show ∀ y ∈ l.take 0, _; simp), HB⟩
  case round =>
    clear HB
    obtain ⟨k, hk, rfl, HA, HB⟩ := hrel
    by_cases hlt : k < l.length
    · have hki : (k : Int) < (l.length : Int) := by omega
      obtain ⟨x, hx⟩ : ∃ x, l[k]? = some x := ⟨_, List.getElem?_eq_getElem hlt⟩
      obtain ⟨b, off, rfl, hbl, hg⟩ := InsAt.at_ (HH.out.later HB.out) hx
      have g0 := hg 0 _ (by decide) rfl
      have g1 := hg 1 _ (by decide) rfl
      have g2 := hg 2 _ (by decide) rfl
      have g3 := hg 3 _ (by decide) rfl
      have g4 := hg 4 _ (by decide) rfl
      have g5 := hg 5 _ (by decide) rfl
      rw [Nat.add_zero] at g0
      have HBD := Lib.hid (HBAD.out k x hx)
      have HNX := Lib.hid (fun h => take_all (n := l.length) HA.out hx h)
      have hbx : Below wr.heap.size wr (wr.alloc (.cells (inC x) 50)) := (Below.refl _ _).alloc (Nat.le_refl _) _
      have HB2 := Lib.hid (HB.out.trans (hbx.mono HB.out.size))
      have HL2 := Lib.hid (Lies.made wr 50 (inC x))
      have HR := Lib.hid (fun w => right_any x w)
      have HJ := Lib.hid (fun w => jumps_any x w)
      have HCX : Hid (cdX l.length x = (rightB x && !(jumpsB x.op && decide (l.length < x.k)))) := rfl
      clear hg hx hbx HB HA
      go_upto_region 6 with (fail)
      clear g0 g1 g2 g3 g4 g5
      generalize wr.alloc (.cells (inC x) 50) = w2 at *
      generalize wr.heap.size = n2 at *
      have c0 := (HL2.out.cell 0).trans (show _ = some (Value.int .i64 x.op) from rfl)
      have c1 := (HL2.out.cell 1).trans (show _ = some (Value.int .i64 x.a) from rfl)
      have c2 := (HL2.out.cell 2).trans (show _ = some (Value.int .i64 x.b) from rfl)
      have c3 := (HL2.out.cell 3).trans (show _ = some (Value.int .i64 x.c) from rfl)
      have c4 := (HL2.out.cell 4).trans (show _ = some (Value.int .i64 x.d) from rfl)
      have c5 := (HL2.out.cell 5).trans (show _ = some (Value.int .u64 (x.k : Int)) from rfl)
      have cl := HL2.out.lt
      go_wp2_with fail
      refine (HR.out _).mono ?_
      rintro e w3 ⟨rfl, hbm⟩
      replace HB2 := Lib.hid (HB2.out.trans (hbm.mono HB2.out.size))
      replace HL2 := Lib.hid (HL2.out.below hbm HL2.out.lt)
      clear hbm c0 c1 c2 c3 c4 c5 cl HR
      generalize rightB x = rb at *
      cases rb with
      | false =>
        have HE := Lib.hid (HBD.out (by rw [HCX.out]; rfl))
        clear HBD HNX HCX HJ
        go_wp2
        go_ret
        exact ⟨ret_bool HE.out.symm, HB2.out⟩
      | true =>
        have c0 := (HL2.out.cell 0).trans (show _ = some (Value.int .i64 x.op) from rfl)
        have c1 := (HL2.out.cell 1).trans (show _ = some (Value.int .i64 x.a) from rfl)
        have c2 := (HL2.out.cell 2).trans (show _ = some (Value.int .i64 x.b) from rfl)
        have c3 := (HL2.out.cell 3).trans (show _ = some (Value.int .i64 x.c) from rfl)
        have c4 := (HL2.out.cell 4).trans (show _ = some (Value.int .i64 x.d) from rfl)
        have c5 := (HL2.out.cell 5).trans (show _ = some (Value.int .u64 (x.k : Int)) from rfl)
        have cl := HL2.out.lt
        go_wp2_with fail
        refine (HJ.out _).mono ?_
        rintro e w4 ⟨rfl, hbm⟩
        replace HB2 := Lib.hid (HB2.out.trans (hbm.mono HB2.out.size))
        replace HL2 := Lib.hid (HL2.out.below hbm HL2.out.lt)
        clear hbm c0 c1 c2 c3 c4 c5 cl HJ
        have c0 := (HL2.out.cell 0).trans (show _ = some (Value.int .i64 x.op) from rfl)
        have c1 := (HL2.out.cell 1).trans (show _ = some (Value.int .i64 x.a) from rfl)
        have c2 := (HL2.out.cell 2).trans (show _ = some (Value.int .i64 x.b) from rfl)
        have c3 := (HL2.out.cell 3).trans (show _ = some (Value.int .i64 x.c) from rfl)
        have c4 := (HL2.out.cell 4).trans (show _ = some (Value.int .i64 x.d) from rfl)
        have c5 := (HL2.out.cell 5).trans (show _ = some (Value.int .u64 (x.k : Int)) from rfl)
        have cl := HL2.out.lt
        have hwl : IntKind.u64.wrap (l.length : Int) = (l.length : Int) := by rw [IntKind.wrap_u64]; omega
        generalize jumpsB x.op = jb at *
        obtain ⟨kb, hkb⟩ : ∃ b, decide (l.length < x.k) = b := ⟨_, rfl⟩
        have hkb2 : decide ((l.length : Int) < (x.k : Int)) = kb := by rw [← hkb]; congr 1; apply propext; omega
        rw [hkb] at HCX
        cases jb with
        | false =>
          have HN2 := Lib.hid (HNX.out (by rw [HCX.out]; rfl))
          clear HBD HNX HCX
          go_wp2
          go_roundw
          case rel => exact ⟨k + 1, by omega, by go_num, HN2, HB2⟩
          case measure => simp [intOf]; omega
        | true =>
          cases kb with
          | false =>
            have HN2 := Lib.hid (HNX.out (by rw [HCX.out]; rfl))
            clear HBD HNX HCX
            go_wp2
            go_roundw
            case rel => exact ⟨k + 1, by omega, by go_num, HN2, HB2⟩
            case measure => simp [intOf]; omega
          | true =>
            have HE := Lib.hid (HBD.out (by rw [HCX.out]; rfl))
            clear HBD HNX HCX
            go_wp2
            go_ret
            exact ⟨ret_bool HE.out.symm, HB2.out⟩
    · obtain rfl : k = l.length := by omega
      have HA2 := HA.out
      rw [List.take_length] at HA2
      have HE := Lib.hid (HOK2.out HA2)
      clear HA2 HA HOK2 HBAD
      go_wp2
      go_ret
      exact ⟨ret_bool HE.out.symm, HB.out⟩
end Go.Proofs.Ytiegmpjoiekekaa
