/-
  The document's Written (layer 9).
-/
import Derived.Test.YtebgcehcnenjiaaDoorRfpr
namespace Go.Proofs.YtebgcehcnenjiaaDoor
open Go.RowKit
set_option linter.unusedVariables false
set_option linter.unusedSimpArgs false
theorem ril_iff {r : Ri} : rilB r = true ↔ (0 ≤ r.k ∧ r.k ≤ 255) ∧ (0 ≤ r.c ∧ r.c ≤ 255) ∧ (0 ≤ r.r ∧ r.r ≤ 255) := by
  unfold rilB wB
  simp only [Bool.and_eq_true, decide_eq_true_eq]
theorem ril_not {r : Ri} (h : ¬ ((0 ≤ r.k ∧ r.k ≤ 255) ∧ (0 ≤ r.c ∧ r.c ≤ 255) ∧ (0 ≤ r.r ∧ r.r ≤ 255))) : rilB r = false := by
  cases hq : rilB r with
  | false => rfl
  | true => exact absurd (ril_iff.1 hq) h
set_option maxHeartbeats 16000000 in
set_option maxRecDepth 100000 in
theorem rfWritten (p : Pg) (A : Option Addr) (c : Nat) (B : Option Addr) (d : Nat) (w : World) (h : PgAt w A c B d p) (hok : pgOk p) :
    Calls Tryd.prog 23 #[.agg (pgC A c B d p)] w fun e w' => e = .returned (.bool (encB p)) ∧ Below w.heap.size w w' := by
  obtain ⟨hc1, hc2⟩ := seq_form h.1
  obtain ⟨hd1, hd2⟩ := h.2.form
  have hb0 : Below w.heap.size w (w.alloc (.cells (pgC A c B d p) 35)) := (Below.refl _ _).alloc (Nat.le_refl _) _
  have l0 := Lies.made w 35 (pgC A c B d p)
  have HH := Lib.hid h
  have HOK := Lib.hid hok
  have HB0 := Lib.hid hb0
  have HL0 := Lib.hid l0
  have HEN := Lib.hid (@enc_not p)
  have HET := Lib.hid (@enc_parts p).2
  clear h hb0 l0 hok
  by_cases h1 : 8 < p.rs.length
  · have HE := Lib.hid (HEN.out (fun h => by have := h.1; omega))
    have e1 : decide ((8 : Int) < (p.rs.length : Int)) = true := decide_eq_true (by omega)
    have e2 : decide (8 < p.rs.length) = true := decide_eq_true h1
    clear h1 HEN HET
    go_enter Tryd.func23, Tryd.ntmps23
    go_wp2
    go_ret
    exact ⟨ret_bool (by rw [HE.out]), HB0.out⟩
  have e1 : decide ((8 : Int) < (p.rs.length : Int)) = false := decide_eq_false (by omega)
  have e2 : decide (8 < p.rs.length) = false := decide_eq_false h1
  by_cases h2 : 8 < p.ts.length
  · have HE := Lib.hid (HEN.out (fun h => by have := h.2.1; omega))
    have e3 : decide ((8 : Int) < (p.ts.length : Int)) = true := decide_eq_true (by omega)
    have e4 : decide (8 < p.ts.length) = true := decide_eq_true h2
    clear h2 HEN HET
    go_enter Tryd.func23, Tryd.ntmps23
    go_wp2
    go_ret
    exact ⟨ret_bool (by rw [HE.out]), HB0.out⟩
  have e3 : decide ((8 : Int) < (p.ts.length : Int)) = false := decide_eq_false (by omega)
  have e4 : decide (8 < p.ts.length) = false := decide_eq_false h2
  go_enter Tryd.func23, Tryd.ntmps23
  go_wp2_with fail
  generalize w.alloc (.cells (pgC A c B d p) 35) = w1 at *
  go_loopw [3] (fun u wr => ∃ i : Nat, i ≤ p.rs.length ∧ u = .int .i64 i ∧ Hid (∀ r ∈ p.rs.take i, rilB r = true) ∧ Hid (Below w.heap.size w wr) ∧ Hid (Lies wr w.heap.size 35 (pgC A c B d p))) (fun u _ => p.rs.length - (intOf u).toNat)
  case atStart => exact ⟨0, by omega, rfl, (by show ∀ r ∈ p.rs.take 0, _; simp), HB0, HL0⟩
  case round =>
    clear HB0 HL0
    obtain ⟨i, hi, rfl, hq, hbw, hlw⟩ := hrel
    have c0 := (hlw.out.cell 0).trans (show _ = some (Value.slice A p.rs.length c) from rfl)
    have cl := hlw.out.lt
    by_cases hlt : i < p.rs.length
    · have hii : (i : Int) < (p.rs.length : Int) := by omega
      obtain ⟨r, hr⟩ : ∃ r, p.rs[i]? = some r := ⟨_, List.getElem?_eq_getElem hlt⟩
      obtain ⟨b, off, rfl, hbl, hg⟩ := RisAt.at_ (HH.out.1.later hbw.out) hr
      have g0 := hg 0 _ (by decide) rfl
      have g1 := hg 1 _ (by decide) rfl
      have g2 := hg 2 _ (by decide) rfl
      rw [Nat.add_zero] at g0
      have hbx : Below wr.heap.size wr (wr.alloc (.cells #[.int .i64 r.k, .int .i64 r.c, .int .i64 r.r] 67)) := (Below.refl _ _).alloc (Nat.le_refl _) _
      have HBW := Lib.hid (hbw.out.trans (hbx.mono hbw.out.size))
      have HLW := Lib.hid (hlw.out.below hbx hlw.out.lt)
      have HN := Lib.hid (fun (h : rilB r = true) => take_all_next (q := fun r => rilB r = true) hq.out hr h)
      have HNO := Lib.hid (fun (h : rilB r = false) => HEN.out (fun hh => by have := hh.2.2.1 r (List.mem_of_getElem? hr); rw [h] at this; cases this))
      clear hg hr hbx hq hbw hlw
      by_cases q1 : r.k < 0
      · have ex : decide (r.k < 0) = true := decide_eq_true q1
        have HE := Lib.hid (HNO.out (ril_not (fun h => by omega)))
        clear q1
        go_wp2
        go_ret
        exact ⟨ret_bool (by rw [HE.out]), HBW.out⟩
      have f1 : decide (r.k < 0) = false := decide_eq_false q1
      by_cases q2 : 255 < r.k
      · have ex : decide (255 < r.k) = true := decide_eq_true q2
        have HE := Lib.hid (HNO.out (ril_not (fun h => by omega)))
        clear q2
        go_wp2
        go_ret
        exact ⟨ret_bool (by rw [HE.out]), HBW.out⟩
      have f2 : decide (255 < r.k) = false := decide_eq_false q2
      by_cases q3 : r.c < 0
      · have ex : decide (r.c < 0) = true := decide_eq_true q3
        have HE := Lib.hid (HNO.out (ril_not (fun h => by omega)))
        clear q3
        go_wp2
        go_ret
        exact ⟨ret_bool (by rw [HE.out]), HBW.out⟩
      have f3 : decide (r.c < 0) = false := decide_eq_false q3
      by_cases q4 : 255 < r.c
      · have ex : decide (255 < r.c) = true := decide_eq_true q4
        have HE := Lib.hid (HNO.out (ril_not (fun h => by omega)))
        clear q4
        go_wp2
        go_ret
        exact ⟨ret_bool (by rw [HE.out]), HBW.out⟩
      have f4 : decide (255 < r.c) = false := decide_eq_false q4
      by_cases q5 : r.r < 0
      · have ex : decide (r.r < 0) = true := decide_eq_true q5
        have HE := Lib.hid (HNO.out (ril_not (fun h => by omega)))
        clear q5
        go_wp2
        go_ret
        exact ⟨ret_bool (by rw [HE.out]), HBW.out⟩
      have f5 : decide (r.r < 0) = false := decide_eq_false q5
      by_cases q6 : 255 < r.r
      · have ex : decide (255 < r.r) = true := decide_eq_true q6
        have HE := Lib.hid (HNO.out (ril_not (fun h => by omega)))
        clear q6
        go_wp2
        go_ret
        exact ⟨ret_bool (by rw [HE.out]), HBW.out⟩
      have f6 : decide (255 < r.r) = false := decide_eq_false q6
      have HN2 := Lib.hid (HN.out (ril_iff.2 ⟨⟨by omega, by omega⟩, ⟨by omega, by omega⟩, by omega, by omega⟩))
      clear q1 q2 q3 q4 q5 q6
      go_wp2
      go_roundw
      case rel => exact ⟨i + 1, by omega, by go_num, HN2, HBW, HLW⟩
      case measure => simp [intOf]; omega
    · obtain rfl : i = p.rs.length := by omega
      have hq2 := hq.out
      rw [List.take_length] at hq2
      have HRA := Lib.hid hq2
      clear hq hq2
      go_wp2_with fail
      clear c0 cl
      go_loopw [5] (fun u wq => ∃ t : Nat, t ≤ p.ts.length ∧ u = .int .i64 t ∧ Hid (∀ l ∈ p.ts.take t, l.length ≤ 256 ∧ ∀ x ∈ l, rightB x = true) ∧ Hid (Below w.heap.size w wq) ∧ Hid (Lies wq w.heap.size 35 (pgC A c B d p))) (fun u _ => p.ts.length - (intOf u).toNat)
      case atStart => exact ⟨0, by omega, rfl, (by show ∀ l ∈ p.ts.take 0, _; simp), hbw, hlw⟩
      case round =>
        clear hbw hlw
        obtain ⟨t, ht, rfl, hq, hbw, hlw⟩ := hrel
        have c1 := (hlw.out.cell 1).trans (show _ = some (Value.slice B p.ts.length d) from rfl)
        have cl := hlw.out.lt
        by_cases hlt : t < p.ts.length
        · have hii : (t : Int) < (p.ts.length : Int) := by omega
          obtain ⟨l, hl⟩ : ∃ l, p.ts[t]? = some l := ⟨_, List.getElem?_eq_getElem hlt⟩
          obtain ⟨b, off, B2, d2, rfl, g0w, hil⟩ := HH.out.2.at_ hl
          obtain ⟨hc3, hc4⟩ := seq_form hil
          have HG := Lib.hid (fun wx (hx : Below w.heap.size w wx) => (hx.cell (p := ⟨b, off + t, none⟩) (World.block_lt_of_cell? w _ g0w)).trans g0w)
          have g0 := HG.out _ hbw.out
          have gl := World.block_lt_of_cell? _ _ g0
          have HIL := Lib.hid hil
          have HOL := Lib.hid (HOK.out.2 l (List.mem_of_getElem? hl))
          have HN := Lib.hid (fun (h : l.length ≤ 256 ∧ ∀ x ∈ l, rightB x = true) => take_all_next (q := fun l => l.length ≤ 256 ∧ ∀ x ∈ l, rightB x = true) hq.out hl h)
          have HNO := Lib.hid (fun (h : ¬ (l.length ≤ 256 ∧ ∀ x ∈ l, rightB x = true)) => HEN.out (fun hh => h (hh.2.2.2 l (List.mem_of_getElem? hl))))
          clear hq hil hl g0w
          by_cases h256 : 256 < l.length
          · have HE := Lib.hid (HNO.out (fun h => by have := h.1; omega))
            have e5 : decide ((256 : Int) < (l.length : Int)) = true := decide_eq_true (by omega)
            have e6 : decide (256 < l.length) = true := decide_eq_true h256
            go_wp2
            go_ret
            exact ⟨ret_bool (by rw [HE.out]), hbw.out⟩
          have e5 : decide ((256 : Int) < (l.length : Int)) = false := decide_eq_false (by omega)
          have e6 : decide (256 < l.length) = false := decide_eq_false h256
          go_wp2_with fail
          clear g0 gl c1 cl
          go_loopw [6] (fun u wk => ∃ k : Nat, k ≤ l.length ∧ u = .int .i64 k ∧ Hid (∀ x ∈ l.take k, rightB x = true) ∧ Hid (Below w.heap.size w wk) ∧ Hid (Lies wk w.heap.size 35 (pgC A c (some ⟨b, off, none⟩) d p))) (fun u _ => l.length - (intOf u).toNat)
          case atStart => exact ⟨0, by omega, rfl, (by show ∀ x ∈ l.take 0, _; simp), hbw, hlw⟩
          case round =>
            clear hbw hlw
            obtain ⟨k, hk, rfl, hqk, hbk, hlk⟩ := hrel
            have c1 := (hlk.out.cell 1).trans (show _ = some (Value.slice (some ⟨b, off, none⟩) p.ts.length d) from rfl)
            have cl := hlk.out.lt
            have g0 := HG.out _ hbk.out
            have gl := World.block_lt_of_cell? _ _ g0
            by_cases hkl : k < l.length
            · have hkk : (k : Int) < (l.length : Int) := by omega
              obtain ⟨x, hx⟩ : ∃ x, l[k]? = some x := ⟨_, List.getElem?_eq_getElem hkl⟩
              obtain ⟨b3, off3, rfl, _, hg⟩ := InsAt.at_ (HIL.out.later hbk.out) hx
              have y0 := hg 0 _ (by decide) rfl
              have y1 := hg 1 _ (by decide) rfl
              have y2 := hg 2 _ (by decide) rfl
              have y3 := hg 3 _ (by decide) rfl
              have y4 := hg 4 _ (by decide) rfl
              have y5 := hg 5 _ (by decide) rfl
              rw [Nat.add_zero] at y0
              obtain ⟨rb, hrb⟩ : ∃ q, rightB x = q := ⟨_, rfl⟩
              have HX := Lib.hid hx
              have HRX := Lib.hid hrb
              have HC := Lib.hid (fun w => hrb ▸ rfRight x w (HOL.out x (List.mem_of_getElem? hx)))
              clear hg hx hrb
              go_wp2_with fail
              refine (HC.out _).mono ?_
              rintro e w4 ⟨rfl, hb4⟩
              have HB4 := Lib.hid (hbk.out.trans (hb4.mono hbk.out.size))
              have HL4 := Lib.hid (hlk.out.below hb4 hlk.out.lt)
              clear hb4 y0 y1 y2 y3 y4 y5 HC c1 cl g0 gl
              cases rb
              case false =>
                have HE := Lib.hid (HNO.out (fun h => by have := h.2 x (List.mem_of_getElem? HX.out); rw [HRX.out] at this; cases this))
                go_wp2
                go_ret
                exact ⟨ret_bool (by rw [HE.out]), HB4.out⟩
              have HQ := Lib.hid (take_all_next (q := fun x => rightB x = true) hqk.out HX.out HRX.out)
              go_wp2
              go_roundw
              case rel => exact ⟨k + 1, by omega, by go_num, HQ, HB4, HL4⟩
              case measure => simp [intOf]; omega
            · obtain rfl : k = l.length := by omega
              have hqk2 := hqk.out
              rw [List.take_length] at hqk2
              have HN2 := Lib.hid (HN.out ⟨by omega, hqk2⟩)
              clear hqk hqk2
              go_wp2
              go_roundw
              case rel => exact ⟨t + 1, by omega, by go_num, HN2, hbk, hlk⟩
              case measure => simp [intOf]; omega
        · obtain rfl : t = p.ts.length := by omega
          have hq2 := hq.out
          rw [List.take_length] at hq2
          have HE := Lib.hid (HET.out ⟨by omega, by omega, HRA.out, hq2⟩)
          clear hq hq2
          go_wp2
          go_ret
          exact ⟨ret_bool (by rw [HE.out]), hbw.out⟩
end Go.Proofs.YtebgcehcnenjiaaDoor
