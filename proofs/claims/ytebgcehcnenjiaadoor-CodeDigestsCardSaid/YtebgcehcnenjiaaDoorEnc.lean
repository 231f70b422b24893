/-
  Which programs have an encoding (layer 9): code.encodable.
-/
import Derived.Test.YtebgcehcnenjiaaDoorCode2
import Derived.Test.YtebgcehcnenjiaaDoorOwn
namespace Go.Proofs.YtebgcehcnenjiaaDoor
open Go.RowKit
set_option linter.unusedVariables false
set_option linter.unusedSimpArgs false
def rilB (r : Ri) : Bool := wB r.k 255 && (wB r.c 255 && wB r.r 255)
def encB (p : Pg) : Bool := decide (p.rs.length ≤ 8) && (decide (p.ts.length ≤ 8) && (p.rs.all rilB && p.ts.all (fun l => decide (l.length ≤ 256) && l.all rightB)))
theorem enc_parts {p : Pg} : encB p = true ↔ p.rs.length ≤ 8 ∧ p.ts.length ≤ 8 ∧ (∀ r ∈ p.rs, rilB r = true) ∧ ∀ l ∈ p.ts, l.length ≤ 256 ∧ ∀ x ∈ l, rightB x = true := by
  unfold encB
  simp only [Bool.and_eq_true, decide_eq_true_eq, List.all_eq_true]
theorem enc_not {p : Pg} (h : ¬ (p.rs.length ≤ 8 ∧ p.ts.length ≤ 8 ∧ (∀ r ∈ p.rs, rilB r = true) ∧ ∀ l ∈ p.ts, l.length ≤ 256 ∧ ∀ x ∈ l, rightB x = true)) : encB p = false := by
  cases hq : encB p with
  | false => rfl
  | true => exact absurd (enc_parts.1 hq) h
theorem take_all_next {α : Type} {q : α → Prop} {l : List α} {i : Nat} {x : α} (h : ∀ y ∈ l.take i, q y) (hx : l[i]? = some x) (hq : q x) : ∀ y ∈ l.take (i + 1), q y := by
  intro y hy
  rw [List.take_add_one, hx, Option.toList_some, List.mem_append] at hy
  rcases hy with hy | hy
  · exact h y hy
  · simp at hy; subst hy; exact hq
set_option maxHeartbeats 8000000 in
set_option maxRecDepth 100000 in
theorem enc_any (p : Pg) (A : Option Addr) (c : Nat) (B : Option Addr) (d : Nat) (w : World) (h : PgAt w A c B d p) :
    Calls Tryd.prog 33 #[.agg (pgC A c B d p)] w fun e w' => e = .returned (.bool (encB p)) ∧ Below w.heap.size w w' := by
  obtain ⟨hc1, hc2⟩ := seq_form h.1
  obtain ⟨hd1, hd2⟩ := h.2.form
  have hb0 : Below w.heap.size w (w.alloc (.cells (pgC A c B d p) 35)) := (Below.refl _ _).alloc (Nat.le_refl _) _
  have l0 := Lies.made w 35 (pgC A c B d p)
  have HH := Lib.hid h
  have HB0 := Lib.hid hb0
  have HL0 := Lib.hid l0
  have HEN := Lib.hid (@enc_not p)
  have HET := Lib.hid (@enc_parts p).2
  clear h hb0 l0
  by_cases h1 : 8 < p.rs.length
  · have HE := Lib.hid (HEN.out (fun h => by have := h.1; omega))
    have e1 : decide ((8 : Int) < (p.rs.length : Int)) = true := decide_eq_true (by omega)
    have e2 : decide (8 < p.rs.length) = true := decide_eq_true h1
    clear h1 HEN HET
    go_enter Tryd.func33, Tryd.ntmps33
    go_wp2
    go_ret
    exact ⟨ret_bool (by rw [HE.out]), HB0.out⟩
  have e1 : decide ((8 : Int) < (p.rs.length : Int)) = false := decide_eq_false (by omega)
  have e2 : decide (8 < p.rs.length) = false := decide_eq_false h1
  by_cases h2 : 8 < p.ts.length
  · have HE := Lib.hid (HEN.out (fun h => by have := h.2.1; omega))
    have e3 : decide ((8 : Int) < (p.ts.length : Int)) = true := decide_eq_true (by omega)
    have e4 : decide (8 < p.ts.length) = true := decide_eq_true h2
    clear h2 HEN HET
    go_enter Tryd.func33, Tryd.ntmps33
    go_wp2
    go_ret
    exact ⟨ret_bool (by rw [HE.out]), HB0.out⟩
  have e3 : decide ((8 : Int) < (p.ts.length : Int)) = false := decide_eq_false (by omega)
  have e4 : decide (8 < p.ts.length) = false := decide_eq_false h2
  go_enter Tryd.func33, Tryd.ntmps33
  go_wp2_with fail
  generalize w.alloc (.cells (pgC A c B d p) 35) = w1 at *
  go_loopw [22] (fun u wr => ∃ i : Nat, i ≤ p.rs.length ∧ u = .int .i64 i ∧ Hid (∀ r ∈ p.rs.take i, rilB r = true) ∧ Hid (Below w.heap.size w wr) ∧ Hid (Lies wr w.heap.size 35 (pgC A c B d p))) (fun u _ => p.rs.length - (intOf u).toNat)
  case atStart => exact ⟨0, by omega, rfl, (by show ∀ r ∈ p.rs.take 0, _; simp), HB0, HL0⟩
  case round =>
    clear HB0 HL0
    obtain ⟨i, hi, rfl, hq, hbw, hlw⟩ := hrel
    by_cases hlt : i < p.rs.length
    · have hii : (i : Int) < (p.rs.length : Int) := by omega
      obtain ⟨r, hr⟩ : ∃ r, p.rs[i]? = some r := ⟨_, List.getElem?_eq_getElem hlt⟩
      obtain ⟨b, off, rfl, hbl, hg⟩ := RisAt.at_ (HH.out.1.later hbw.out) hr
      have g0 := hg 0 _ (by decide) rfl
      have g1 := hg 1 _ (by decide) rfl
      have g2 := hg 2 _ (by decide) rfl
      rw [Nat.add_zero] at g0
      have hbx : Below wr.heap.size wr (wr.alloc (.cells #[.int .i64 r.k, .int .i64 r.c, .int .i64 r.r] 67)) := (Below.refl _ _).alloc (Nat.le_refl _) _
      have HBW := Lib.hid (hbw.out.trans (hbx.mono hbw.out.size))
      have HLW := Lib.hid (hlw.out.below hbx hlw.out.lt)
      have HN := Lib.hid (fun (h : rilB r = true) => take_all_next (q := fun r => rilB r = true) hq.out hr h)
      have HNO := Lib.hid (fun (h : rilB r = false) => HEN.out (fun hh => by have := hh.2.2.1 r (List.mem_of_getElem? hr); rw [h] at this; cases this))
      have HR : Hid (rilB r = (wB r.k 255 && (wB r.c 255 && wB r.r 255))) := rfl
      obtain ⟨bk, hbk⟩ : ∃ q, wB r.k 255 = q := ⟨_, rfl⟩
      obtain ⟨bc, hbc⟩ : ∃ q, wB r.c 255 = q := ⟨_, rfl⟩
      obtain ⟨br, hbr⟩ : ∃ q, wB r.r 255 = q := ⟨_, rfl⟩
      have HK : Hid (rilB r = (bk && (bc && br))) := by show _ = _; rw [← hbk, ← hbc, ← hbr]; rfl
      have C1 := Lib.hid (fun w => hbk ▸ within_any r.k 255 w)
      have C2 := Lib.hid (fun w => hbc ▸ within_any r.c 255 w)
      have C3 := Lib.hid (fun w => hbr ▸ within_any r.r 255 w)
      clear hbk hbc hbr hg hr hbx hq hbw hlw
      go_wp2_with fail
      refine (C1.out _).mono ?_
      rintro e w4 ⟨rfl, rfl⟩
      cases bk
      case false =>
        have HE := Lib.hid (HNO.out (by rw [HK.out]; rfl))
        go_wp2
        go_ret
        exact ⟨ret_bool (by rw [HE.out]), HBW.out⟩
      go_wp2_with fail
      refine (C2.out _).mono ?_
      rintro e w4 ⟨rfl, rfl⟩
      cases bc
      case false =>
        have HE := Lib.hid (HNO.out (by rw [HK.out]; rfl))
        go_wp2
        go_ret
        exact ⟨ret_bool (by rw [HE.out]), HBW.out⟩
      go_wp2_with fail
      refine (C3.out _).mono ?_
      rintro e w4 ⟨rfl, rfl⟩
      cases br
      case false =>
        have HE := Lib.hid (HNO.out (by rw [HK.out]; rfl))
        go_wp2
        go_ret
        exact ⟨ret_bool (by rw [HE.out]), HBW.out⟩
      have HN2 := Lib.hid (HN.out (by rw [HK.out]; rfl))
      go_wp2
      go_roundw
      case rel => exact ⟨i + 1, by omega, by go_num, HN2, HBW, HLW⟩
      case measure => simp [intOf]; omega
    · obtain rfl : i = p.rs.length := by omega
      have hq2 := hq.out
      rw [List.take_length] at hq2
      have HRA := Lib.hid hq2
      have c1 := (hlw.out.cell 1).trans (show _ = some (Value.slice B p.ts.length d) from rfl)
      have hlt2 := hlw.out.lt
      clear hq hq2
      go_wp2_with fail
      clear c1 hlt2
      go_loopw [46] (fun u wq => ∃ t : Nat, t ≤ p.ts.length ∧ u = .int .i64 t ∧ Hid (∀ l ∈ p.ts.take t, l.length ≤ 256 ∧ ∀ x ∈ l, rightB x = true) ∧ Hid (Below w.heap.size w wq)) (fun u _ => p.ts.length - (intOf u).toNat)
      case atStart => exact ⟨0, by omega, rfl, (by show ∀ l ∈ p.ts.take 0, _; simp), hbw⟩
      case round =>
        clear hbw hlw
        obtain ⟨t, ht, rfl, hq, hbw⟩ := hrel
        by_cases hlt : t < p.ts.length
        · have hii : (t : Int) < (p.ts.length : Int) := by omega
          obtain ⟨l, hl⟩ : ∃ l, p.ts[t]? = some l := ⟨_, List.getElem?_eq_getElem hlt⟩
          obtain ⟨b, off, B2, d2, rfl, g0, hil⟩ := (HH.out.2.later hbw.out).at_ hl
          obtain ⟨hc3, hc4⟩ := seq_form hil
          have gl := World.block_lt_of_cell? _ _ g0
          have HIL := Lib.hid hil
          have HN := Lib.hid (fun (h : l.length ≤ 256 ∧ ∀ x ∈ l, rightB x = true) => take_all_next (q := fun l => l.length ≤ 256 ∧ ∀ x ∈ l, rightB x = true) hq.out hl h)
          have HNO := Lib.hid (fun (h : ¬ (l.length ≤ 256 ∧ ∀ x ∈ l, rightB x = true)) => HEN.out (fun hh => h (hh.2.2.2 l (List.mem_of_getElem? hl))))
          clear hq hil hl
          by_cases h256 : 256 < l.length
          · have HE := Lib.hid (HNO.out (fun h => by have := h.1; omega))
            have e5 : decide ((256 : Int) < (l.length : Int)) = true := decide_eq_true (by omega)
            have e6 : decide (256 < l.length) = true := decide_eq_true h256
            go_wp2
            go_ret
            exact ⟨ret_bool (by rw [HE.out]), hbw.out⟩
          have e5 : decide ((256 : Int) < (l.length : Int)) = false := decide_eq_false (by omega)
          have e6 : decide (256 < l.length) = false := decide_eq_false h256
          go_wp2_with fail
          clear g0 gl
          obtain ⟨wo, rfl⟩ : ∃ wo : World, wo = wr := ⟨_, rfl⟩
          go_loopw [55] (fun u wk => ∃ k : Nat, k ≤ l.length ∧ u = .int .i64 k ∧ Hid (∀ x ∈ l.take k, rightB x = true) ∧ Hid (Below wo.heap.size wo wk)) (fun u _ => l.length - (intOf u).toNat)
          case atStart => exact ⟨0, by omega, rfl, (by show ∀ x ∈ l.take 0, _; simp), Below.refl _ _⟩
          case round =>
            obtain ⟨k, hk, rfl, hqk, hbk⟩ := hrel
            by_cases hkl : k < l.length
            · have hkk : (k : Int) < (l.length : Int) := by omega
              obtain ⟨x, hx⟩ : ∃ x, l[k]? = some x := ⟨_, List.getElem?_eq_getElem hkl⟩
              obtain ⟨b3, off3, rfl, _, hg⟩ := InsAt.at_ (HIL.out.later hbk.out) hx
              have y0 := hg 0 _ (by decide) rfl
              have y1 := hg 1 _ (by decide) rfl
              have y2 := hg 2 _ (by decide) rfl
              have y3 := hg 3 _ (by decide) rfl
              have y4 := hg 4 _ (by decide) rfl
              have y5 := hg 5 _ (by decide) rfl
              rw [Nat.add_zero] at y0
              have hbx : Below wr.heap.size wr (wr.alloc (.cells (inC x) 24)) := (Below.refl _ _).alloc (Nat.le_refl _) _
              have HBX := Lib.hid (hbk.out.trans (hbx.mono hbk.out.size))
              obtain ⟨rb, hrb⟩ : ∃ q, rightB x = q := ⟨_, rfl⟩
              have HX := Lib.hid hx
              have HRX := Lib.hid hrb
              have HC := Lib.hid (fun w => hrb ▸ right_any x w)
              clear hg hx hbx hbk hrb
              go_wp2_with fail
              refine (HC.out _).mono ?_
              rintro e w4 ⟨rfl, hb4⟩
              have HB4 := Lib.hid (HBX.out.trans (hb4.mono HBX.out.size))
              clear hb4 y0 y1 y2 y3 y4 y5 HBX HC
              cases rb
              case false =>
                have HE := Lib.hid (HNO.out (fun h => by have := h.2 x (List.mem_of_getElem? HX.out); rw [HRX.out] at this; cases this))
                have HB5 := Lib.hid (hbw.out.trans (HB4.out.mono hbw.out.size))
                go_wp2
                go_ret
                exact ⟨ret_bool (by rw [HE.out]), HB5.out⟩
              have HQ := Lib.hid (take_all_next (q := fun x => rightB x = true) hqk.out HX.out HRX.out)
              go_wp2
              go_roundw
              case rel => exact ⟨k + 1, by omega, by go_num, HQ, HB4⟩
              case measure => simp [intOf]; omega
            · obtain rfl : k = l.length := by omega
              have hqk2 := hqk.out
              rw [List.take_length] at hqk2
              have HN2 := Lib.hid (HN.out ⟨by omega, hqk2⟩)
              have HB5 := Lib.hid (hbw.out.trans (hbk.out.mono hbw.out.size))
              clear hqk hqk2
              go_wp2
              go_roundw
              case rel => exact ⟨t + 1, by omega, by go_num, HN2, HB5⟩
              case measure => simp [intOf]; omega
        · obtain rfl : t = p.ts.length := by omega
          have hq2 := hq.out
          rw [List.take_length] at hq2
          have HE := Lib.hid (HET.out ⟨by omega, by omega, HRA.out, hq2⟩)
          clear hq hq2
          go_wp2
          go_ret
          exact ⟨ret_bool (by rw [HE.out]), hbw.out⟩
end Go.Proofs.YtebgcehcnenjiaaDoor
