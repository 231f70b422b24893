import Derived.Test.YteecfffgigaomaaLaw3
namespace Go.Proofs.Yteecfffgigaomaa
open Go.RowKit
set_option linter.unusedVariables false
set_option linter.unusedSimpArgs false
theorem opened44 {W : World} {H : Type} {enc : TypeId × Value → H} {base : Nat} {a : Option Addr} {len cap : Nat} {d : DataW H} {p : List MemPlace}
    (hok : Value.okWide Try.prog W .any base 44 (.slice a len cap)) (h : DataW.Trod enc Try.prog W 0 (fun _ => true) true 44 (.slice a len cap) d p) :
    ∃ l : List In, l.length = len ∧ InsAt W a cap l ∧ ∀ x ∈ l, inOk x := ins_open h
/-- Without jumps and ends each place is reached. -/
theorem straight_rch {l : List In} (h : ∀ x ∈ l, ¬ (15 ≤ x.op ∧ x.op ≤ 17) ∧ x.op ≠ 25) : ∀ a, a ≤ l.length → Rch l a := by
  intro a
  induction a with
  | zero => exact fun _ => .zero
  | succ a ih =>
    intro ha
    obtain ⟨x, hx⟩ : ∃ x, l[a]? = some x := ⟨_, List.getElem?_eq_getElem (by omega)⟩
    obtain ⟨h1, h2⟩ := h x (List.mem_of_getElem? hx)
    refine (ih (by omega)).next ?_
    rw [nextL_some hx]
    unfold nextX
    rw [if_neg (by omega), if_neg (by omega), if_neg h2]; simp
set_option maxHeartbeats 16000000 in
set_option maxRecDepth 100000 in
theorem straight_walk (A : Option Addr) (n c : Nat) (l : List In) (W : World) (h : l.length = n ∧ InsAt W A c l ∧ ∀ x ∈ l, inOk x) :
    Calls Try.prog 8 #[.slice A n c] W fun e w' => e = .returned (.bool true) ∧ Below W.heap.size W w' := by
  obtain ⟨rfl, hil, hio⟩ := h
  obtain ⟨hc1, hc2⟩ := seq_form hil
  have hb1 := ((Below.refl W.heap.size W).alloc (Nat.le_refl _) (.cells #[.slice A l.length c] 44))
  have l1 := Lies.made W 44 #[.slice A l.length c]
  have hb2 := hb1.alloc hb1.size (.cells #[.slice none 0 0, .slice (some ⟨W.heap.size, 0, none⟩) 1 1] 25)
  have l1b := l1.alloc (.cells #[.slice none 0 0, .slice (some ⟨W.heap.size, 0, none⟩) 1 1] 25)
  have l2 := Lies.made2_ W (.cells #[.slice A l.length c] 44) 25 #[.slice none 0 0, .slice (some ⟨W.heap.size, 0, none⟩) 1 1]
  have hpg : PgAt ((W.alloc (.cells #[.slice A l.length c] 44)).alloc (.cells #[.slice none 0 0, .slice (some ⟨W.heap.size, 0, none⟩) 1 1] 25)) none 0 (some ⟨W.heap.size, 0, none⟩) 1 ⟨[], [l]⟩ := by
    refine ⟨SeqS.nil _ _, [.slice A l.length c], seq_lit l1b rfl (show 1 ≤ 1000000 by omega), fun i q hq => ?_⟩
    cases i with
    | zero => simp at hq; subst hq; exact ⟨A, c, rfl, hil.later hb2⟩
    | succ i => simp at hq
  have hok : pgOk ⟨[], [l]⟩ := ⟨fun x hx => (by simp at hx), fun q hq x hx => by simp at hq; subst hq; exact hio x hx⟩
  have HP := Lib.hid hpg
  have HOK := Lib.hid hok
  have HB := Lib.hid hb2
  have HL := Lib.hid l2
  have HIL := Lib.hid hil
  clear hpg hok hb2 l2 l1b l1 hb1 hil hio
  go_enter Try.func8, Try.ntmps8
  go_wp2_with fail
  generalize (W.alloc (.cells #[.slice A l.length c] 44)).alloc (.cells #[.slice none 0 0, .slice (some ⟨W.heap.size, 0, none⟩) 1 1] 25) = w2 at *
  have HX := Lib.hid (Below.refl w2.heap.size w2)
  have c0 := (HL.out.cell 0).trans (show _ = some (Value.slice none 0 0) from rfl)
  have c1 := (HL.out.cell 1).trans (show _ = some (Value.slice (some ⟨W.heap.size, 0, none⟩) 1 1) from rfl)
  have cl := HL.out.lt
  refine (awake_any _).mono ?_
  rintro e w3 ⟨rfl, hbm⟩
  replace HB := Lib.hid (HB.out.trans (hbm.mono HB.out.size))
  replace HX := Lib.hid (HX.out.trans (hbm.mono HX.out.size))
  replace HL := Lib.hid (HL.out.below hbm HL.out.lt)
  clear c0 c1 cl hbm
  have c0 := (HL.out.cell 0).trans (show _ = some (Value.slice none 0 0) from rfl)
  have c1 := (HL.out.cell 1).trans (show _ = some (Value.slice (some ⟨W.heap.size, 0, none⟩) 1 1) from rfl)
  have cl := HL.out.lt
  by_cases h100 : 100 < l.length
  · have e1 : decide ((100 : Int) < (l.length : Int)) = true := decide_eq_true (by omega)
    have e2 : decide (100 < l.length) = true := decide_eq_true h100
    clear h100
    go_wp2_with fail
    refine (awake_any _).mono ?_
    rintro e wz ⟨rfl, hbz⟩
    have hbz := HB.out.trans (hbz.mono HB.out.size)
    go_wp2
    go_ret
    exact ⟨rfl, hbz⟩
  have e1 : decide ((100 : Int) < (l.length : Int)) = false := decide_eq_false (by omega)
  have e2 : decide (100 < l.length) = false := decide_eq_false h100
  have HC := Lib.hid (fun w (hw : Below w2.heap.size w2 w) => r11Right ⟨[], [l]⟩ none 0 (some ⟨W.heap.size, 0, none⟩) 1 w (HP.out.later hw) HOK.out)
  go_wp2_with fail
  refine (HC.out _ HX.out).mono ?_
  rintro e w4 ⟨rfl, hbm⟩
  clear HC
  replace HB := Lib.hid (HB.out.trans (hbm.mono HB.out.size))
  replace HX := Lib.hid (HX.out.trans (hbm.mono HX.out.size))
  replace HL := Lib.hid (HL.out.below hbm HL.out.lt)
  clear c0 c1 cl hbm
  have c0 := (HL.out.cell 0).trans (show _ = some (Value.slice none 0 0) from rfl)
  have c1 := (HL.out.cell 1).trans (show _ = some (Value.slice (some ⟨W.heap.size, 0, none⟩) 1 1) from rfl)
  have cl := HL.out.lt
  obtain ⟨rb, hrb⟩ : ∃ rb, rightP ⟨[], [l]⟩ = rb := ⟨_, rfl⟩
  have HRB := Lib.hid hrb
  rw [hrb]
  clear hrb
  cases rb
  case false =>
    clear HRB
    go_wp2_with fail
    refine (awake_any _).mono ?_
    rintro e wz ⟨rfl, hbz⟩
    have hbz := HB.out.trans (hbz.mono HB.out.size)
    go_wp2
    go_ret
    exact ⟨rfl, hbz⟩
  have HNE : Hid (namesE ⟨[], [l]⟩ 0 = 0) := by
    show _ = _
    unfold namesE
    rw [HRB.out, if_neg (by decide), if_neg (by simp)]
  go_wp2_with fail
  clear c0 c1 cl
  go_loopw [30] (fun u wr => ∃ i : Nat, i ≤ l.length ∧ u = .int .i64 i ∧ Hid (∀ x ∈ l.take i, ¬ (15 ≤ x.op ∧ x.op ≤ 17) ∧ x.op ≠ 25) ∧ Hid (Below W.heap.size W wr) ∧ Hid (Below w2.heap.size w2 wr) ∧ Hid (Lies wr (W.heap.size + 1) 25 #[.slice none 0 0, .slice (some ⟨W.heap.size, 0, none⟩) 1 1])) (fun u _ => l.length - (intOf u).toNat)
  case atStart => exact ⟨0, by omega, rfl, (by show ∀ x ∈ l.take 0, _; simp), HB, HX, HL⟩
  case round =>
    clear HB HX HL
    obtain ⟨i, hi, rfl, hq, HB, HX, HL⟩ := hrel
    by_cases hlt : i < l.length
    · have hii : (i : Int) < (l.length : Int) := by omega
      obtain ⟨x, hx⟩ : ∃ x, l[i]? = some x := ⟨_, List.getElem?_eq_getElem hlt⟩
      obtain ⟨b3, off3, hBe, _, hg⟩ := InsAt.at_ (HIL.out.later HB.out) hx
      subst hBe
      have y0 := hg 0 _ (by decide) rfl
      have y1 := hg 1 _ (by decide) rfl
      have y2 := hg 2 _ (by decide) rfl
      have y3 := hg 3 _ (by decide) rfl
      have y4 := hg 4 _ (by decide) rfl
      have y5 := hg 5 _ (by decide) rfl
      rw [Nat.add_zero] at y0
      have hbx : Below wr.heap.size wr (wr.alloc (.cells (inC x) 48)) := (Below.refl _ _).alloc (Nat.le_refl _) _
      have HB2 := Lib.hid (HB.out.trans (hbx.mono HB.out.size))
      have HX2 := Lib.hid (HX.out.trans (hbx.mono HX.out.size))
      have HL2 := Lib.hid (HL.out.below hbx HL.out.lt)
      have HTK : Hid (¬ (15 ≤ x.op ∧ x.op ≤ 17) → x.op ≠ 25 → ∀ y ∈ l.take (i + 1), ¬ (15 ≤ y.op ∧ y.op ≤ 17) ∧ y.op ≠ 25) := by
        intro a1 a2 y hy
        rw [List.take_add_one, hx, Option.toList_some, List.mem_append] at hy
        rcases hy with hy | hy
        · exact hq.out y hy
        · simp at hy; subst hy; exact ⟨a1, a2⟩
      clear hg hx hbx hq HB HX HL
      by_cases h15 : 15 ≤ x.op
      · have e15 : decide ((15 : Int) ≤ x.op) = true := decide_eq_true h15
        by_cases h17 : x.op ≤ 17
        · have e17 : decide (x.op ≤ 17) = true := decide_eq_true h17
          clear HTK
          go_wp2
          go_ret
          exact ⟨rfl, HB2.out⟩
        have e17 : decide (x.op ≤ 17) = false := decide_eq_false h17
        by_cases h25 : x.op = 25
        · have e25 : (x.op == 25) = true := by simpa using h25
          clear HTK h25
          go_wp2
          go_ret
          exact ⟨rfl, HB2.out⟩
        have e25 : (x.op == 25) = false := by simpa using h25
        have HT := Lib.hid (HTK.out (by omega) h25)
        clear HTK h15 h17 h25
        go_wp2
        go_roundw
        case rel => exact ⟨i + 1, by omega, by go_num, HT, HB2, HX2, HL2⟩
        case measure => simp [intOf]; omega
      have e15 : decide ((15 : Int) ≤ x.op) = false := decide_eq_false h15
      have h25 : x.op ≠ 25 := by omega
      have e25 : (x.op == 25) = false := by simpa using h25
      have HT := Lib.hid (HTK.out (by omega) h25)
      clear HTK h15 h25
      go_wp2
      go_roundw
      case rel => exact ⟨i + 1, by omega, by go_num, HT, HB2, HX2, HL2⟩
      case measure => simp [intOf]; omega
    · obtain rfl : i = l.length := by omega
      have hst := hq.out
      rw [List.take_length] at hst
      have HR := Lib.hid (straight_rch hst)
      have HEN : Hid (endsB l = true) := by
        show _ = _
        unfold endsB
        rw [rchB_true.2 (HR.out l.length (Nat.le_refl _)), Bool.or_true]
      have c0 := (HL.out.cell 0).trans (show _ = some (Value.slice none 0 0) from rfl)
      have c1 := (HL.out.cell 1).trans (show _ = some (Value.slice (some ⟨W.heap.size, 0, none⟩) 1 1) from rfl)
      have cl := HL.out.lt
      clear hq hst
      have HC := Lib.hid (ckReach ⟨[], [l]⟩ none 0 (some ⟨W.heap.size, 0, none⟩) 1 0 wr (HP.out.later HX.out) HOK.out ⟨by decide, by decide⟩)
      go_wp2_with fail
      refine HC.out.mono ?_
      rintro e w5 ⟨va, rfl, hbm, _, hv2⟩
      have HO := Lib.hid (owns_mono (hv2 HNE.out l rfl) HB.out.size)
      clear HC hv2
      replace HB := Lib.hid (HB.out.trans (hbm.mono HB.out.size))
      replace HX := Lib.hid (HX.out.trans (hbm.mono HX.out.size))
      replace HL := Lib.hid (HL.out.below hbm HL.out.lt)
      clear c0 c1 cl hbm
      have c0 := (HL.out.cell 0).trans (show _ = some (Value.slice none 0 0) from rfl)
      have c1 := (HL.out.cell 1).trans (show _ = some (Value.slice (some ⟨W.heap.size, 0, none⟩) 1 1) from rfl)
      have cl := HL.out.lt
      have HC := Lib.hid (ckEnds ⟨[], [l]⟩ none 0 (some ⟨W.heap.size, 0, none⟩) 1 0 w5 (HP.out.later HX.out) HOK.out ⟨by decide, by decide⟩)
      go_wp2_with fail
      refine HC.out.mono ?_
      rintro e w6 ⟨be, rfl, hbm, _, he2⟩
      have hbe := he2 HNE.out l rfl
      rw [HEN.out] at hbe
      subst hbe
      replace HO := Lib.hid (owned_below HO.out hbm)
      obtain ⟨ga, capa, rfl, _, _, hcapa, hcma, _⟩ := ownsRow_open HO.out (by omega)
      rw [HNE.out]
      clear HC he2
      replace HB := Lib.hid (HB.out.trans (hbm.mono HB.out.size))
      replace HX := Lib.hid (HX.out.trans (hbm.mono HX.out.size))
      replace HL := Lib.hid (HL.out.below hbm HL.out.lt)
      clear c0 c1 cl hbm
      have c0 := (HL.out.cell 0).trans (show _ = some (Value.slice none 0 0) from rfl)
      have c1 := (HL.out.cell 1).trans (show _ = some (Value.slice (some ⟨W.heap.size, 0, none⟩) 1 1) from rfl)
      have cl := HL.out.lt
      clear c0 c1 cl
      rw [show ((0 : Nat) : Int) = 0 from rfl]
      go_wp2_with fail
      go_loopw [60] (fun u wq => ∃ k : Nat, k ≤ l.length + 1 ∧ u = .int .i64 k ∧ wq = w6) (fun u _ => l.length + 1 - (intOf u).toNat)
      case atStart => exact ⟨0, by omega, rfl, rfl⟩
      case round =>
        obtain ⟨k, hk, rfl, rfl⟩ := hrel
        by_cases hkl : k ≤ l.length
        · have hki : (k : Int) < (l.length : Int) + 1 := by omega
          have q7 := owns_cell HO.out (boolC_get (rchL_get (l := l) (a := k) hkl))
          rw [rchB_true.2 (HR.out k hkl)] at q7
          have q7l := World.block_lt_of_cell? _ _ q7
          go_wp2
          go_roundw
          case rel => exact ⟨k + 1, by omega, by go_num, trivial⟩
          case measure => simp [intOf]; omega
        · obtain rfl : k = l.length + 1 := by omega
          have e12 : decide ((l.length : Int) + 1 < (l.length : Int) + 1) = false := by simp
          have e13 : decide (l.length + 1 < l.length + 1) = false := by simp
          go_wp2
          go_ret
          exact ⟨ret_bool (by simp), HB.out⟩
end Go.Proofs.Yteecfffgigaomaa
