/-
  check.Check, check.Right, check.names: what is wrong first.
-/
import Derived.Test.YteecfffgigaomaaChk
namespace Go.Proofs.Yteecfffgigaomaa
open Go.RowKit
set_option linter.unusedVariables false
set_option linter.unusedSimpArgs false
def riBad : List Ri → Nat → Option Nat
  | [], _ => none
  | r :: rs, i => if ringB r = true then riBad rs (i + 1) else some i
def inBad (rs : List Ri) (n : Nat) : List In → Nat → Option (Nat × Nat)
  | [], _ => none
  | x :: l, k => if instrE rs n x = 0 then inBad rs n l (k + 1) else some (k, instrE rs n x)
def thBad (rs : List Ri) : List (List In) → Nat → Option (Nat × Nat × Nat)
  | [], _ => none
  | l :: ts, t => if 256 < l.length then some (t, 256, 4) else match inBad rs l.length l 0 with | some (k, e) => some (t, k, e) | none => thBad rs ts (t + 1)
/-- A thread, a place, an error. -/
def checkR (p : Pg) : Int × Int × Nat :=
  if p.ts.length = 0 ∨ 8 < p.ts.length ∨ 8 < p.rs.length then (0, 0, 1) else
    match riBad p.rs 0 with
    | some i => (-1, (i : Int), 7)
    | none => match thBad p.rs p.ts 0 with
      | some (t, k, e) => ((t : Int), (k : Int), e)
      | none => (0, 0, 0)
def rightP (p : Pg) : Bool := (checkR p).2.2 == 0
theorem riBad_none : ∀ (rs : List Ri) (i : Nat), riBad rs i = none → ∀ r ∈ rs, ringB r = true
  | [], _, _ => by simp
  | r :: rs, i, h => by
    unfold riBad at h
    by_cases hr : ringB r = true
    · rw [if_pos hr] at h
      intro x hx
      rcases List.mem_cons.1 hx with e | e
      · rw [e]; exact hr
      · exact riBad_none rs _ h x e
    · rw [if_neg hr] at h; cases h
theorem riBad_next {rs : List Ri} {i : Nat} {r : Ri} (h : rs[i]? = some r) : riBad (rs.drop i) i = if ringB r = true then riBad (rs.drop (i + 1)) (i + 1) else some i := by
  obtain ⟨h1, h2⟩ := List.getElem?_eq_some_iff.1 h
  rw [List.drop_eq_getElem_cons h1, h2]; rfl
theorem inBad_next {rs : List Ri} {n : Nat} {l : List In} {k : Nat} {x : In} (h : l[k]? = some x) : inBad rs n (l.drop k) k = if instrE rs n x = 0 then inBad rs n (l.drop (k + 1)) (k + 1) else some (k, instrE rs n x) := by
  obtain ⟨h1, h2⟩ := List.getElem?_eq_some_iff.1 h
  rw [List.drop_eq_getElem_cons h1, h2]; rfl
theorem thBad_next {rs : List Ri} {ts : List (List In)} {t : Nat} {l : List In} (h : ts[t]? = some l) : thBad rs (ts.drop t) t = if 256 < l.length then some (t, 256, 4) else match inBad rs l.length l 0 with | some (k, e) => some (t, k, e) | none => thBad rs (ts.drop (t + 1)) (t + 1) := by
  obtain ⟨h1, h2⟩ := List.getElem?_eq_some_iff.1 h
  rw [List.drop_eq_getElem_cons h1, h2]; rfl
theorem ret_3 {a b : Int} {c a' b' : Int} {c' : Int} (h1 : a = a') (h2 : b = b') (h3 : c = c') : Ending.returned (.tuple #[.int .i64 a, .int .i64 b, .int .i64 c]) = .returned (.tuple #[.int .i64 a', .int .i64 b', .int .i64 c']) := by rw [h1, h2, h3]
set_option maxHeartbeats 8000000 in
set_option maxRecDepth 100000 in
theorem check_any (p : Pg) (A : Option Addr) (c : Nat) (B : Option Addr) (d : Nat) (w : World) (h : PgAt w A c B d p) (hok : pgOk p) :
    Calls Try.prog 11 #[.agg (pgC A c B d p)] w fun e w' => e = .returned (.tuple #[.int .i64 (checkR p).1, .int .i64 (checkR p).2.1, .int .i64 ((checkR p).2.2 : Nat)]) ∧ Below w.heap.size w w' := by
  obtain ⟨hc1, hc2⟩ := seq_form h.1
  obtain ⟨hd1, hd2⟩ := h.2.form
  have hb0 : Below w.heap.size w (w.alloc (.cells (pgC A c B d p) 25)) := (Below.refl _ _).alloc (Nat.le_refl _) _
  have l0 := Lies.made w 25 (pgC A c B d p)
  have HH := Lib.hid h
  have HO := Lib.hid hok
  have HB0 := Lib.hid hb0
  have HL0 := Lib.hid l0
  have HE : Hid (checkR p = _) := show checkR p = _ by unfold checkR; rfl
  clear h hok hb0 l0
  by_cases h0 : p.ts.length = 0 ∨ 8 < p.ts.length ∨ 8 < p.rs.length
  · have HE0 : Hid (checkR p = (0, 0, 1)) := HE.out.trans (if_pos h0)
    clear HE
    obtain ⟨a1, ha1⟩ : ∃ a, ((p.ts.length : Int) == 0) = a := ⟨_, rfl⟩
    obtain ⟨a2, ha2⟩ : ∃ a, decide ((8 : Int) < (p.ts.length : Int)) = a := ⟨_, rfl⟩
    obtain ⟨a3, ha3⟩ : ∃ a, decide ((8 : Int) < (p.rs.length : Int)) = a := ⟨_, rfl⟩
    have hsome : a1 = true ∨ a1 = false ∧ a2 = true ∨ a1 = false ∧ a2 = false ∧ a3 = true := by
      rw [← ha1, ← ha2, ← ha3]
      simp only [beq_iff_eq, beq_eq_false_iff_ne, decide_eq_true_eq, decide_eq_false_iff_not]
      omega
    have HA1 := Lib.hid ha1
    have HA2 := Lib.hid ha2
    have HA3 := Lib.hid ha3
    clear ha1 ha2 ha3 h0
    rcases hsome with rfl | ⟨rfl, rfl⟩ | ⟨rfl, rfl, rfl⟩
    all_goals
      have ha1 := HA1.out
      have ha2 := HA2.out
      have ha3 := HA3.out
      go_enter Try.func11, Try.ntmps11
      go_wp2
      go_ret3
      exact ⟨ret_3 (by rw [HE0.out]) (by rw [HE0.out]) (by rw [HE0.out]; rfl), HB0.out⟩
  have HE1 := Lib.hid (HE.out.trans (if_neg h0))
  have ha1 : ((p.ts.length : Int) == 0) = false := by rw [beq_eq_false_iff_ne]; omega
  have ha2 : decide ((8 : Int) < (p.ts.length : Int)) = false := by simp; omega
  have ha3 : decide ((8 : Int) < (p.rs.length : Int)) = false := by simp; omega
  clear HE
  go_enter Try.func11, Try.ntmps11
  go_wp2_with fail
  generalize w.alloc (.cells (pgC A c B d p) 25) = w1 at *
  go_loopw [31] (fun u wr => ∃ i : Nat, i ≤ p.rs.length ∧ u = .int .i64 i ∧ Hid (riBad p.rs 0 = riBad (p.rs.drop i) i) ∧ Hid (Below w.heap.size w wr) ∧ Hid (Lies wr w.heap.size 25 (pgC A c B d p))) (fun u _ => p.rs.length - (intOf u).toNat)
  case atStart => exact ⟨0, by omega, rfl, rfl, HB0, HL0⟩
  case round =>
    clear HB0 HL0
    obtain ⟨i, hi, rfl, hq, hbw, hlw⟩ := hrel
    by_cases hlt : i < p.rs.length
    · have hii : (i : Int) < (p.rs.length : Int) := by omega
      obtain ⟨r, hr⟩ : ∃ r, p.rs[i]? = some r := ⟨_, List.getElem?_eq_getElem hlt⟩
      obtain ⟨b, off, rfl, hbl, hg⟩ := RisAt.at_ (HH.out.1.later hbw.out) hr
      have g0 := hg 0 _ (by decide) rfl
      have g1 := hg 1 _ (by decide) rfl
      have g2 := hg 2 _ (by decide) rfl
      rw [Nat.add_zero] at g0
      have HN := Lib.hid (hq.out.trans (riBad_next hr))
      have HB1 := Lib.hid (hbw.out.alloc hbw.out.size (.cells (riC r) 55))
      have HL1 := Lib.hid (hlw.out.alloc (.cells (riC r) 55))
      clear hg hq hbw hlw hr
      go_wp2_with fail
      generalize wr.alloc (.cells (riC r) 55) = w3 at *
      refine (rightRing_any r _).mono ?_
      rintro e w4 ⟨rfl, hb4⟩
      have HB4 := Lib.hid (HB1.out.trans (hb4.mono HB1.out.size))
      have HL4 := Lib.hid (HL1.out.below hb4 HL1.out.lt)
      clear HB1 HL1 hb4 g0 g1 g2
      by_cases hrb : ringB r = true
      · have HN2 := Lib.hid (HN.out.trans (if_pos hrb))
        rw [hrb]
        clear HN hrb
        go_wp2_with fail
        go_roundw
        case rel => exact ⟨i + 1, by omega, by go_num, HN2, HB4, HL4⟩
        case measure => simp [intOf]; omega
      · have HN2 := Lib.hid (HN.out.trans (if_neg hrb))
        have HE2 : Hid (checkR p = (-1, (i : Int), 7)) := HE1.out.trans (by rw [HN2.out])
        have hrb : ringB r = false := by simpa using hrb
        rw [hrb]
        clear HN HN2 hrb HE1
        go_wp2
        go_ret3
        exact ⟨ret_3 (by rw [HE2.out]) (by rw [HE2.out]) (by rw [HE2.out]; rfl), HB4.out⟩
    · obtain rfl : i = p.rs.length := by omega
      have hnone : riBad p.rs 0 = none := by rw [hq.out, List.drop_length]; rfl
      have HR := Lib.hid (riBad_none _ _ hnone)
      have HE2 := Lib.hid (HE1.out.trans (by rw [hnone]))
      clear hq hnone HE1
      have c0 := (hlw.out.cell 0).trans (show _ = some (Value.slice A p.rs.length c) from rfl)
      have c1 := (hlw.out.cell 1).trans (show _ = some (Value.slice B p.ts.length d) from rfl)
      have hlw1 := hlw.out.lt
      clear hlt hi
      go_wp2_with fail
      go_loopw [44] (fun u wq => ∃ t : Nat, t ≤ p.ts.length ∧ u = .int .i64 t ∧ Hid (thBad p.rs p.ts 0 = thBad p.rs (p.ts.drop t) t) ∧ Hid (Below w.heap.size w wq) ∧ Hid (Lies wq w.heap.size 25 (pgC A c B d p))) (fun u _ => p.ts.length - (intOf u).toNat)
      case atStart => exact ⟨0, by omega, rfl, rfl, hbw, hlw⟩
      case round =>
        clear hbw hlw c0 c1
        obtain ⟨t, ht, rfl, hq, hbw, hlw⟩ := hrel
        by_cases hlt : t < p.ts.length
        · have hii : (t : Int) < (p.ts.length : Int) := by omega
          obtain ⟨l, hl⟩ : ∃ l, p.ts[t]? = some l := ⟨_, List.getElem?_eq_getElem hlt⟩
          obtain ⟨b, off, B2, d2, rfl, g0, hil⟩ := (HH.out.2.later hbw.out).at_ hl
          obtain ⟨hc3, hc4⟩ := seq_form hil
          have HN := Lib.hid (hq.out.trans (thBad_next hl))
          have HIL := Lib.hid hil
          have HLO := Lib.hid (HO.out.2 l (List.mem_of_getElem? hl))
          clear hq hil hl
          by_cases h256 : 256 < l.length
          · have HN2 := Lib.hid (HN.out.trans (if_pos h256))
            have HE3 : Hid (checkR p = ((t : Int), 256, 4)) := HE2.out.trans (by rw [HN2.out]; rfl)
            have e1 : decide ((256 : Int) < (l.length : Int)) = true := by simp; omega
            clear HN HN2 HE2 h256
            go_wp2
            go_ret3
            exact ⟨ret_3 (by rw [HE3.out]) (by rw [HE3.out]) (by rw [HE3.out]; rfl), hbw.out⟩
          have HN2 := Lib.hid (HN.out.trans (if_neg h256))
          have e1 : decide ((256 : Int) < (l.length : Int)) = false := by simp; omega
          clear HN
          go_wp2_with fail
          obtain ⟨wo, rfl⟩ : ∃ wo : World, wo = wr := ⟨_, rfl⟩
          go_loopw [55] (fun u wk => ∃ k : Nat, k ≤ l.length ∧ u = .int .i64 k ∧ Hid (inBad p.rs l.length l 0 = inBad p.rs l.length (l.drop k) k) ∧ Hid (Below wo.heap.size wo wk)) (fun u _ => l.length - (intOf u).toNat)
          case atStart => exact ⟨0, by omega, rfl, rfl, Below.refl _ _⟩
          case round =>
            obtain ⟨k, hk, rfl, hq, hbk⟩ := hrel
            have hbwk := Lib.hid (hbw.out.trans (hbk.out.mono hbw.out.size))
            have hlwk := Lib.hid (hlw.out.below hbk.out hlw.out.lt)
            by_cases hkl : k < l.length
            · have hkk : (k : Int) < (l.length : Int) := by omega
              obtain ⟨x, hx⟩ : ∃ x, l[k]? = some x := ⟨_, List.getElem?_eq_getElem hkl⟩
              obtain ⟨b3, off3, rfl, _, hg⟩ := InsAt.at_ (HIL.out.later hbk.out) hx
              have y0 := hg 0 _ (by decide) rfl
              have y1 := hg 1 _ (by decide) rfl
              have y2 := hg 2 _ (by decide) rfl
              have y3 := hg 3 _ (by decide) rfl
              have y4 := hg 4 _ (by decide) rfl
              have y5 := hg 5 _ (by decide) rfl
              rw [Nat.add_zero] at y0
              have HNX := Lib.hid (hq.out.trans (inBad_next hx))
              have HXO := Lib.hid (HLO.out x (List.mem_of_getElem? hx))
              have HB3 := Lib.hid (hbk.out.alloc hbk.out.size (.cells (inC x) 48))
              have hlx := Lies.made wr 48 (inC x)
              have hly := hlwk.out.alloc (.cells (inC x) 48)
              have HLX := Lib.hid hlx
              have HLY := Lib.hid hly
              clear hg hq hbk hx hbwk hlwk hlx hly
              go_upto_region 17 with (fail)
              generalize wr.alloc (.cells (inC x) 48) = w3 at *
              generalize wr.heap.size = nk at *
              have z0 := (HLX.out.cell 0).trans (show _ = some (Value.int .i64 x.op) from rfl)
              have z1 := (HLX.out.cell 1).trans (show _ = some (Value.int .i64 x.a) from rfl)
              have z2 := (HLX.out.cell 2).trans (show _ = some (Value.int .i64 x.b) from rfl)
              have z3 := (HLX.out.cell 3).trans (show _ = some (Value.int .i64 x.c) from rfl)
              have z4 := (HLX.out.cell 4).trans (show _ = some (Value.int .i64 x.d) from rfl)
              have z5 := (HLX.out.cell 5).trans (show _ = some (Value.int .u64 (x.k : Int)) from rfl)
              have z6 := HLX.out.lt
              have c0 := (HLY.out.cell 0).trans (show _ = some (Value.slice A p.rs.length c) from rfl)
              have c1 := HLY.out.lt
              have HCALL := Lib.hid (instr_any p.rs A c l.length x w3 (HH.out.1.later (hbw.out.trans (HB3.out.mono hbw.out.size))) HR.out (by omega) HXO.out.2.2.2.2.2)
              clear y0 y1 y2 y3 y4 y5
              go_wp2_with fail
              refine HCALL.out.mono ?_
              rintro e w4 ⟨rfl, hb4⟩
              have HB4 := Lib.hid (HB3.out.trans (hb4.mono HB3.out.size))
              clear HB3 HLX HLY hb4 HCALL z0 z1 z2 z3 z4 z5 z6 c0 c1
              by_cases he : instrE p.rs l.length x = 0
              · have HNY := Lib.hid (HNX.out.trans (if_pos he))
                rw [he]
                clear HNX he
                go_wp2
                go_roundw
                case rel => exact ⟨k + 1, by omega, by go_num, HNY, HB4⟩
                case measure => simp [intOf]; omega
              · have HNY := Lib.hid (HNX.out.trans (if_neg he))
                have HE3 : Hid (checkR p = ((t : Int), (k : Int), instrE p.rs l.length x)) := HE2.out.trans (by rw [HN2.out, HNY.out])
                have hbx := Lib.hid (hbw.out.trans (HB4.out.mono hbw.out.size))
                have e5 : (((instrE p.rs l.length x : Nat) : Int) != 0) = true := by rw [bne_iff_ne]; omega
                clear HNX HNY HN2 HE2 he
                generalize instrE p.rs l.length x = ee at *
                go_wp2
                go_ret3
                exact ⟨ret_3 (by rw [HE3.out]) (by rw [HE3.out]) (by rw [HE3.out]), hbx.out⟩
            · obtain rfl : k = l.length := by omega
              have hnone : inBad p.rs l.length l 0 = none := by rw [hq.out, List.drop_length]; rfl
              have HN3 := Lib.hid (HN2.out.trans (by rw [hnone]))
              clear hq hnone HN2
              go_wp2
              go_roundw
              case rel => exact ⟨t + 1, by omega, by go_num, HN3, hbwk, hlwk⟩
              case measure => simp [intOf]; omega
        · obtain rfl : t = p.ts.length := by omega
          have hnone : thBad p.rs p.ts 0 = none := by rw [hq.out, List.drop_length]; rfl
          have HE3 : Hid (checkR p = (0, 0, 0)) := HE2.out.trans (by rw [hnone])
          clear hq hnone HE2
          go_wp2
          go_ret3
          exact ⟨ret_3 (by rw [HE3.out]) (by rw [HE3.out]) (by rw [HE3.out]; rfl), hbw.out⟩
end Go.Proofs.Yteecfffgigaomaa
