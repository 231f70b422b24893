import Derived.Test.YtakggmfpgopcgaaZz2
namespace Go.Proofs.Ytakggmfpgopcgaa
open Go.RowKit
set_option linter.unusedVariables false
set_option linter.unusedSimpArgs false
def riBad : List Ri → Nat → Option Nat
 | [], _ => none
 | r :: rs, i => if rgSpB r = true then riBad rs (i + 1) else some i
def inBad (rs : List Ri) (n : Nat) : List In → Nat → Option (Nat × Nat)
 | [], _ => none
 | x :: l, k => if instrE rs n x = 0 then inBad rs n l (k + 1) else some (k, instrE rs n x)
def thBad (rs : List Ri) : List (List In) → Nat → Option (Nat × Nat × Nat)
 | [], _ => none
 | l :: ts, t => if 256 < l.length then some (t, 256, 4) else match inBad rs l.length l 0 with | some (k, e) => some (t, k, e) | none => thBad rs ts (t + 1)
def checkR (p : Pg) : Int × Int × Nat :=
 if p.ts.length = 0 ∨ 8 < p.ts.length ∨ 8 < p.rs.length then (0, 0, 1) else
  match riBad p.rs 0 with
  | some i => (-1, (i : Int), 7)
  | none => match thBad p.rs p.ts 0 with
   | some (t, k, e) => ((t : Int), (k : Int), e)
   | none => (0, 0, 0)
def rightP (p : Pg) : Bool := (checkR p).2.2 == 0
theorem riBad_none : ∀ (rs : List Ri) (i : Nat), riBad rs i = none → ∀ r ∈ rs, rgSpB r = true
 | [], _, _ => by simp
 | r :: rs, i, h => by
  unfold riBad at h
  by_cases hr : rgSpB r = true
  ·rw [if_pos hr] at h
   intro x hx
   rcases List.mem_cons.1 hx with e | e
   ·rw [e]; exact hr
   ·exact riBad_none rs _ h x e
  ·rw [if_neg hr] at h; cases h
theorem riBad_next {rs : List Ri} {i : Nat} {r : Ri} (h : rs[i]? = some r) : riBad (rs.drop i) i = if rgSpB r = true then riBad (rs.drop (i + 1)) (i + 1) else some i := by
 obtain ⟨h1, h2⟩ := List.getElem?_eq_some_iff.1 h
 rw [List.drop_eq_getElem_cons h1, h2]; rfl
theorem inBad_next {rs : List Ri} {n : Nat} {l : List In} {k : Nat} {x : In} (h : l[k]? = some x) : inBad rs n (l.drop k) k = if instrE rs n x = 0 then inBad rs n (l.drop (k + 1)) (k + 1) else some (k, instrE rs n x) := by
 obtain ⟨h1, h2⟩ := List.getElem?_eq_some_iff.1 h
 rw [List.drop_eq_getElem_cons h1, h2]; rfl
theorem thBad_next {rs : List Ri} {ts : List (List In)} {t : Nat} {l : List In} (h : ts[t]? = some l) : thBad rs (ts.drop t) t = if 256 < l.length then some (t, 256, 4) else match inBad rs l.length l 0 with | some (k, e) => some (t, k, e) | none => thBad rs (ts.drop (t + 1)) (t + 1) := by
 obtain ⟨h1, h2⟩ := List.getElem?_eq_some_iff.1 h
 rw [List.drop_eq_getElem_cons h1, h2]; rfl
theorem ret_3 {a b : Int} {c a' b' : Int} {c' : Int} (h1 : a = a') (h2 : b = b') (h3 : c = c') : Ending.returned (.tuple #[.int .i64 a, .int .i64 b, .int .i64 c]) = .returned (.tuple #[.int .i64 a', .int .i64 b', .int .i64 c']) := by rw [h1, h2, h3]
set_option maxHeartbeats 8000000 in
set_option maxRecDepth 100000 in
theorem check_any (p : Pg) (A : Option Addr) (c : Nat) (B : Option Addr) (d : Nat) (w : World) (h : PgAt w A c B d p) (hok : pgOk p) :
  Calls Try.prog 59 #[.agg (pgC A c B d p)] w fun e w' => e = .returned (.tuple #[.int .i64 (checkR p).1, .int .i64 (checkR p).2.1, .int .i64 ((checkR p).2.2 : Nat)]) ∧ Below w.heap.size w w' := by
 obtain ⟨hc1, hc2⟩ := seq_form h.1
 obtain ⟨hd1, hd2⟩ := h.2.form
 have hb0 : Below w.heap.size w (w.alloc (.cells (pgC A c B d p) 47)) := (Below.refl _ _).alloc (Nat.le_refl _) _
 have l0 := Lies.made w 47 (pgC A c B d p)
 have HH := Lib.hid h
 have HO := Lib.hid hok
 have HB0 := Lib.hid hb0
 have HL0 := Lib.hid l0
 have HE : Hid (checkR p = _) := show checkR p = _ by unfold checkR; rfl
 clear h hok hb0 l0
 by_cases h0 : p.ts.length = 0 ∨ 8 < p.ts.length ∨ 8 < p.rs.length
 ·have HE0 : Hid (checkR p = (0, 0, 1)) := HE.out.trans (if_pos h0)
  clear HE
  obtain ⟨a1, ha1⟩ : ∃ a, ((p.ts.length : Int) == 0) = a := ⟨_, rfl⟩
  obtain ⟨a2, ha2⟩ : ∃ a, decide ((8 : Int) < (p.ts.length : Int)) = a := ⟨_, rfl⟩
  obtain ⟨a3, ha3⟩ : ∃ a, decide ((8 : Int) < (p.rs.length : Int)) = a := ⟨_, rfl⟩
  have hsome : a1 = true ∨ a1 = false ∧ a2 = true ∨ a1 = false ∧ a2 = false ∧ a3 = true := by
   rw [← ha1, ← ha2, ← ha3]
   simp only [beq_iff_eq, beq_eq_false_iff_ne, decide_eq_true_eq, decide_eq_false_iff_not]
   omega
  have HA1 := Lib.hid ha1
  have HA2 := Lib.hid ha2
  have HA3 := Lib.hid ha3
  clear ha1 ha2 ha3 h0
  rcases hsome with rfl | ⟨rfl, rfl⟩ | ⟨rfl, rfl, rfl⟩
  all_goals
   have ha1 := HA1.out
   have ha2 := HA2.out
   have ha3 := HA3.out
   go_enter Try.func59, Try.ntmps59
   go_wp2
   go_ret3
   exact ⟨ret_3 (by rw [HE0.out]) (by rw [HE0.out]) (by rw [HE0.out]; rfl), HB0.out⟩
 have HE1 := Lib.hid (HE.out.trans (if_neg h0))
 have ha1 : ((p.ts.length : Int) == 0) = false := by rw [beq_eq_false_iff_ne]; omega
 have ha2 : decide ((8 : Int) < (p.ts.length : Int)) = false := by simp; omega
 have ha3 : decide ((8 : Int) < (p.rs.length : Int)) = false := by simp; omega
 clear HE
 go_enter Try.func59, Try.ntmps59
 go_wp2_with fail
 generalize w.alloc (.cells (pgC A c B d p) 47) = w1 at *
 go_loopw [31] (fun u wr => ∃ i : Nat, i ≤ p.rs.length ∧ u = .int .i64 i ∧ Hid (riBad p.rs 0 = riBad (p.rs.drop i) i) ∧ Hid (Below w.heap.size w wr) ∧ Hid (Lies wr w.heap.size 47 (pgC A c B d p))) (fun u _ => p.rs.length - (intOf u).toNat)
 case atStart => exact ⟨0, by omega, rfl, rfl, HB0, HL0⟩
 case round =>
  clear HB0 HL0
  obtain ⟨i, hi, rfl, hq, hbw, hlw⟩ := hrel
  by_cases hlt : i < p.rs.length
  ·have hii : (i : Int) < (p.rs.length : Int) := by omega
   obtain ⟨r, hr⟩ : ∃ r, p.rs[i]? = some r := ⟨_, List.getElem?_eq_getElem hlt⟩
   obtain ⟨b, off, rfl, hbl, hg⟩ := RisAt.at_ (HH.out.1.later hbw.out) hr
   have g0 := hg 0 _ (by decide) rfl
   have g1 := hg 1 _ (by decide) rfl
   have g2 := hg 2 _ (by decide) rfl
   rw [Nat.add_zero] at g0
   have HN := Lib.hid (hq.out.trans (riBad_next hr))
   have HB1 := Lib.hid (hbw.out.alloc hbw.out.size (.cells (riC r) 102))
   have HL1 := Lib.hid (hlw.out.alloc (.cells (riC r) 102))
   clear hg hq hbw hlw hr
   go_wp2_with fail
   generalize wr.alloc (.cells (riC r) 102) = w3 at *
   refine (rightRing_any r _).mono ?_
   rintro e w4 ⟨rfl, hb4⟩
   have HB4 := Lib.hid (HB1.out.trans (hb4.mono HB1.out.size))
   have HL4 := Lib.hid (HL1.out.below hb4 HL1.out.lt)
   clear HB1 HL1 hb4 g0 g1 g2
   by_cases hrb : rgSpB r = true
   ·have HN2 := Lib.hid (HN.out.trans (if_pos hrb))
    rw [hrb]
    clear HN hrb
    go_wp2_with fail
    go_roundw
    case rel => exact ⟨i + 1, by omega, by go_num, HN2, HB4, HL4⟩
    case measure => simp [intOf]; omega
   ·have HN2 := Lib.hid (HN.out.trans (if_neg hrb))
    have HE2 : Hid (checkR p = (-1, (i : Int), 7)) := HE1.out.trans (by rw [HN2.out])
    have hrb : rgSpB r = false := by simpa using hrb
    rw [hrb]
    clear HN HN2 hrb HE1
    go_wp2
    go_ret3
    exact ⟨ret_3 (by rw [HE2.out]) (by rw [HE2.out]) (by rw [HE2.out]; rfl), HB4.out⟩
  ·obtain rfl : i = p.rs.length := by omega
   have hnone : riBad p.rs 0 = none := by rw [hq.out, List.drop_length]; rfl
   have HR := Lib.hid (riBad_none _ _ hnone)
   have HE2 := Lib.hid (HE1.out.trans (by rw [hnone]))
   clear hq hnone HE1
   have c0 := (hlw.out.cell 0).trans (show _ = some (Value.slice A p.rs.length c) from rfl)
   have c1 := (hlw.out.cell 1).trans (show _ = some (Value.slice B p.ts.length d) from rfl)
   have hlw1 := hlw.out.lt
   clear hlt hi
   go_wp2_with fail
   go_loopw [44] (fun u wq => ∃ t : Nat, t ≤ p.ts.length ∧ u = .int .i64 t ∧ Hid (thBad p.rs p.ts 0 = thBad p.rs (p.ts.drop t) t) ∧ Hid (Below w.heap.size w wq) ∧ Hid (Lies wq w.heap.size 47 (pgC A c B d p))) (fun u _ => p.ts.length - (intOf u).toNat)
   case atStart => exact ⟨0, by omega, rfl, rfl, hbw, hlw⟩
   case round =>
    clear hbw hlw c0 c1
    obtain ⟨t, ht, rfl, hq, hbw, hlw⟩ := hrel
    by_cases hlt : t < p.ts.length
    ·have hii : (t : Int) < (p.ts.length : Int) := by omega
     obtain ⟨l, hl⟩ : ∃ l, p.ts[t]? = some l := ⟨_, List.getElem?_eq_getElem hlt⟩
     obtain ⟨b, off, B2, d2, rfl, g0, hil⟩ := (HH.out.2.later hbw.out).at_ hl
     obtain ⟨hc3, hc4⟩ := seq_form hil
     have HN := Lib.hid (hq.out.trans (thBad_next hl))
     have HIL := Lib.hid hil
     have HLO := Lib.hid (HO.out.2 l (List.mem_of_getElem? hl))
     clear hq hil hl
     by_cases h256 : 256 < l.length
     ·have HN2 := Lib.hid (HN.out.trans (if_pos h256))
      have HE3 : Hid (checkR p = ((t : Int), 256, 4)) := HE2.out.trans (by rw [HN2.out]; rfl)
      have e1 : decide ((256 : Int) < (l.length : Int)) = true := by simp; omega
      clear HN HN2 HE2 h256
      go_wp2
      go_ret3
      exact ⟨ret_3 (by rw [HE3.out]) (by rw [HE3.out]) (by rw [HE3.out]; rfl), hbw.out⟩
     have HN2 := Lib.hid (HN.out.trans (if_neg h256))
     have e1 : decide ((256 : Int) < (l.length : Int)) = false := by simp; omega
     clear HN
     go_wp2_with fail
     obtain ⟨wo, rfl⟩ : ∃ wo : World, wo = wr := ⟨_, rfl⟩
     go_loopw [55] (fun u wk => ∃ k : Nat, k ≤ l.length ∧ u = .int .i64 k ∧ Hid (inBad p.rs l.length l 0 = inBad p.rs l.length (l.drop k) k) ∧ Hid (Below wo.heap.size wo wk)) (fun u _ => l.length - (intOf u).toNat)
     case atStart => exact ⟨0, by omega, rfl, rfl, Below.refl _ _⟩
     case round =>
      obtain ⟨k, hk, rfl, hq, hbk⟩ := hrel
      have hbwk := Lib.hid (hbw.out.trans (hbk.out.mono hbw.out.size))
      have hlwk := Lib.hid (hlw.out.below hbk.out hlw.out.lt)
      by_cases hkl : k < l.length
      ·have hkk : (k : Int) < (l.length : Int) := by omega
       obtain ⟨x, hx⟩ : ∃ x, l[k]? = some x := ⟨_, List.getElem?_eq_getElem hkl⟩
       obtain ⟨b3, off3, rfl, _, hg⟩ := InsAt.at_ (HIL.out.later hbk.out) hx
       have y0 := hg 0 _ (by decide) rfl
       have y1 := hg 1 _ (by decide) rfl
       have y2 := hg 2 _ (by decide) rfl
       have y3 := hg 3 _ (by decide) rfl
       have y4 := hg 4 _ (by decide) rfl
       have y5 := hg 5 _ (by decide) rfl
       rw [Nat.add_zero] at y0
       have HNX := Lib.hid (hq.out.trans (inBad_next hx))
       have HXO := Lib.hid (HLO.out x (List.mem_of_getElem? hx))
       have HB3 := Lib.hid (hbk.out.alloc hbk.out.size (.cells (inC x) 42))
       have hlx := Lies.made wr 42 (inC x)
       have hly := hlwk.out.alloc (.cells (inC x) 42)
       have HLX := Lib.hid hlx
       have HLY := Lib.hid hly
       clear hg hq hbk hx hbwk hlwk hlx hly
       go_upto_region 17 with (fail)
       generalize wr.alloc (.cells (inC x) 42) = w3 at *
       generalize wr.heap.size = nk at *
       have z0 := (HLX.out.cell 0).trans (show _ = some (Value.int .i64 x.op) from rfl)
       have z1 := (HLX.out.cell 1).trans (show _ = some (Value.int .i64 x.a) from rfl)
       have z2 := (HLX.out.cell 2).trans (show _ = some (Value.int .i64 x.b) from rfl)
       have z3 := (HLX.out.cell 3).trans (show _ = some (Value.int .i64 x.c) from rfl)
       have z4 := (HLX.out.cell 4).trans (show _ = some (Value.int .i64 x.d) from rfl)
       have z5 := (HLX.out.cell 5).trans (show _ = some (Value.int .u64 (x.k : Int)) from rfl)
       have z6 := HLX.out.lt
       have c0 := (HLY.out.cell 0).trans (show _ = some (Value.slice A p.rs.length c) from rfl)
       have c1 := HLY.out.lt
       have HCALL := Lib.hid (instr_any p.rs A c l.length x w3 (HH.out.1.later (hbw.out.trans (HB3.out.mono hbw.out.size))) HR.out (by omega) HXO.out.2.2.2.2.2)
       clear y0 y1 y2 y3 y4 y5
       go_wp2_with fail
       refine HCALL.out.mono ?_
       rintro e w4 ⟨rfl, hb4⟩
       have HB4 := Lib.hid (HB3.out.trans (hb4.mono HB3.out.size))
       clear HB3 HLX HLY hb4 HCALL z0 z1 z2 z3 z4 z5 z6 c0 c1
       by_cases he : instrE p.rs l.length x = 0
       ·have HNY := Lib.hid (HNX.out.trans (if_pos he))
        rw [he]
        clear HNX he
        go_wp2
        go_roundw
        case rel => exact ⟨k + 1, by omega, by go_num, HNY, HB4⟩
        case measure => simp [intOf]; omega
       ·have HNY := Lib.hid (HNX.out.trans (if_neg he))
        have HE3 : Hid (checkR p = ((t : Int), (k : Int), instrE p.rs l.length x)) := HE2.out.trans (by rw [HN2.out, HNY.out])
        have hbx := Lib.hid (hbw.out.trans (HB4.out.mono hbw.out.size))
        have e5 : (((instrE p.rs l.length x : Nat) : Int) != 0) = true := by rw [bne_iff_ne]; omega
        clear HNX HNY HN2 HE2 he
        generalize instrE p.rs l.length x = ee at *
        go_wp2
        go_ret3
        exact ⟨ret_3 (by rw [HE3.out]) (by rw [HE3.out]) (by rw [HE3.out]), hbx.out⟩
      ·obtain rfl : k = l.length := by omega
       have hnone : inBad p.rs l.length l 0 = none := by rw [hq.out, List.drop_length]; rfl
       have HN3 := Lib.hid (HN2.out.trans (by rw [hnone]))
       clear hq hnone HN2
       go_wp2
       go_roundw
       case rel => exact ⟨t + 1, by omega, by go_num, HN3, hbwk, hlwk⟩
       case measure => simp [intOf]; omega
    ·obtain rfl : t = p.ts.length := by omega
     have hnone : thBad p.rs p.ts 0 = none := by rw [hq.out, List.drop_length]; rfl
     have HE3 : Hid (checkR p = (0, 0, 0)) := HE2.out.trans (by rw [hnone])
     clear hq hnone HE2
     go_wp2
     go_ret3
     exact ⟨ret_3 (by rw [HE3.out]) (by rw [HE3.out]) (by rw [HE3.out]; rfl), hbw.out⟩
section
variable (p : Pg) (A : Option Addr) (c : Nat) (B : Option Addr) (d : Nat) (w : World)
set_option maxHeartbeats 4000000 in
theorem ckRight (h : PgAt w A c B d p) (hok : pgOk p) : Calls Try.prog 47 #[.agg (pgC A c B d p)] w fun e w' => e = .returned (.bool (rightP p)) ∧ Below w.heap.size w w' := by
 have hb0 : Below w.heap.size w (w.alloc (.cells (pgC A c B d p) 47)) := (Below.refl _ _).alloc (Nat.le_refl _) _
 have HC := Lib.hid (check_any p A c B d _ (h.later hb0) hok)
 have HB0 := Lib.hid hb0
 have HE : Hid (rightP p = ((checkR p).2.2 == 0)) := rfl
 clear h hok hb0
 go_enter Try.func47, Try.ntmps47
 go_wp2_with fail
 generalize w.alloc (.cells (pgC A c B d p) 47) = w1 at *
 refine HC.out.mono ?_
 rintro e w2 ⟨rfl, hb2⟩
 have hb2 := HB0.out.trans (hb2.mono HB0.out.size)
 generalize (checkR p).1 = r1 at *
 generalize (checkR p).2.1 = r2 at *
 generalize (checkR p).2.2 = r3 at *
 clear HC
 go_wp2
 go_ret
 exact ⟨ret_bool (by rw [HE.out, Bool.eq_iff_iff, beq_iff_eq, beq_iff_eq]; omega), hb2⟩
end
def hl0 : List In := [⟨25, 0, 0, 0, 0, 0⟩]
def pg0 : Pg := ⟨[], [hl0]⟩
def pgE : Pg := ⟨[], []⟩
theorem pg0_ok : pgOk pg0 := by
 refine ⟨fun r hr => (by cases hr), fun l hl i hi => ?_⟩
 simp only [pg0, List.mem_singleton] at hl; subst hl
 simp only [hl0, List.mem_singleton] at hi; subst hi
 unfold inOk i64; dsimp only; omega
theorem pgE_ok : pgOk pgE := ⟨fun r hr => (by cases hr), fun l hl => (by cases hl)⟩
theorem pg0_right : rightP pg0 = true := by decide +kernel
theorem pgE_right : rightP pgE = false := by decide +kernel
structure F0 where
 A : Option Addr
 c : Nat
 Q : Option Addr
 d : Nat
 T : Nat
 S : Nat
abbrev f0C (z : F0) (now : Nat) : Array Value := #[.slice z.A 0 z.c, .slice z.Q 1 z.d, .slice (some ⟨z.T, 0, none⟩) 1 1, .slice (some ⟨z.S, 0, none⟩) 1 1, .slice none 0 0, .int .u64 (now : Int), .int .u64 0, .bool false]
structure F0At (B F : Nat) (z : F0) (q : World) : Prop where
 box : Lies q F 86 (f0C z 0)
 pg : OwnPg q B z.A z.c z.Q z.d pg0
 th : Lies q z.T 40 thZ2
 sn : Lies q z.S 38 #[.slice none 0 0]
 hF : B ≤ F ∧ B ≤ z.T ∧ B ≤ z.S
theorem F0At.later {B F : Nat} {z : F0} {q q' : World} (h : F0At B F z q) (k : Below q.heap.size q q') : F0At B F z q' := ⟨h.box.below k h.box.lt, h.pg.later k, h.th.below k h.th.lt, h.sn.below k h.sn.lt, h.hF⟩
theorem infoSnT2 : (Try.prog.info? 38).map (fun i => (i.zero, i.size, i.bytes)) = some (some (.slice none 0 0), 1, 24) := by kernel_rfl
theorem made_th1 (q : World) : (Instr.makeSlice 22 (.int .i64 1) (.int .i64 1)).run Try.prog q = .ok (.slice (some ⟨q.heap.size, 0, none⟩) 1 1) (q.alloc (.cells thZ2 40)) :=
 (run_make_rowS (P := Try.prog) _ _ _ _ _ Try.underlying22 infoThT2 .i64 .i64 1 (by omega) (by omega) q).trans (by rw [show madeCells (Value.agg thZ2).cells (1 * 14) = thZ2 by kernel_rfl])
theorem made_sn1 (q : World) : (Instr.makeSlice 83 (.int .i64 1) (.int .i64 1)).run Try.prog q = .ok (.slice (some ⟨q.heap.size, 0, none⟩) 1 1) (q.alloc (.cells #[.slice none 0 0] 38)) :=
 (run_make_rowS (P := Try.prog) _ _ _ _ _ Try.underlying83 infoSnT2 .i64 .i64 1 (by omega) (by omega) q).trans (by rw [show madeCells (Value.slice none 0 0).cells (1 * 1) = #[.slice none 0 0] by kernel_rfl])
theorem fbNewE (A : Option Addr) (c : Nat) (B : Option Addr) (d : Nat) (w : World) (h : PgAt w A c B d pgE) :
  Calls Try.prog 32 #[.agg (pgC A c B d pgE)] w fun e w' => e = .returned (.tuple #[.pointer none, .int .i64 1]) ∧ Below w.heap.size w w' := by
 have hb0 : Below w.heap.size w (w.alloc (.cells (pgC A c B d pgE) 47)) := (Below.refl _ _).alloc (Nat.le_refl _) _
 have HR := Lib.hid (ckRight pgE A c B d _ (h.later hb0) pgE_ok)
 rw [pgE_right] at HR
 have HB0 := Lib.hid hb0
 clear h hb0
 go_enter Try.func32, Try.ntmps32
 go_wp2_with fail
 refine HR.out.mono ?_
 rintro e w1 ⟨rfl, hb1⟩
 have HB1 := Lib.hid (HB0.out.trans (hb1.mono HB0.out.size))
 clear hb1 HR HB0
 go_wp2
 go_ret2
 exact ⟨rfl, HB1.out⟩
set_option maxHeartbeats 8000000 in
set_option maxRecDepth 100000 in
theorem fbNew0 (A : Option Addr) (c : Nat) (B : Option Addr) (d : Nat) (w : World) (h : PgAt w A c B d pg0) :
  Calls Try.prog 32 #[.agg #[.slice A 0 c, .slice B 1 d]] w fun e w' => ∃ F z, e = .returned (.tuple #[.pointer (some ⟨F, 0, none⟩), .int .i64 0]) ∧ F0At w.heap.size F z w' ∧ Below w.heap.size w w' := by
 have hb0 : Below w.heap.size w (w.alloc (.cells #[.slice A 0 c, .slice B 1 d] 47)) := (Below.refl _ _).alloc (Nat.le_refl _) _
 have l0 := Lies.made w 47 #[.slice A 0 c, .slice B 1 d]
 obtain ⟨hc1, hc2⟩ := seq_form h.1
 obtain ⟨hd1, hd2⟩ := h.2.form
 simp only [pg0, List.length_nil, List.length_singleton] at hc1 hd1
 have hR : Calls Try.prog 47 #[.agg #[.slice A 0 c, .slice B 1 d]] (w.alloc (.cells #[.slice A 0 c, .slice B 1 d] 47)) fun e w' => e = .returned (.bool true) ∧ Below (w.alloc (.cells #[.slice A 0 c, .slice B 1 d] 47)).heap.size (w.alloc (.cells #[.slice A 0 c, .slice B 1 d] 47)) w' := by
  have := ckRight pg0 A c B d _ (h.later hb0) pg0_ok
  rw [pg0_right] at this
  exact this
 have HR := Lib.hid hR
 have HB0 := Lib.hid hb0
 have HL0 := Lib.hid l0
 have HH := Lib.hid h
 clear h hb0 l0 hR
 go_enter Try.func32, Try.ntmps32
 go_wp2_with fail
 refine HR.out.mono ?_
 rintro e w1 ⟨rfl, hb1⟩
 have HB1 := Lib.hid (HB0.out.trans (hb1.mono HB0.out.size))
 have HL1 := Lib.hid (HL0.out.below hb1 HL0.out.lt)
 clear hb1 HR HB0 HL0
 go_upto_region 3 with (fail)
 have HCP := Lib.hid (fun (q : World) (hb : Below w1.heap.size w1 q) => (fbCopy pg0 A c B d q (HH.out.later (HB1.out.trans (hb.mono HB1.out.size))) (by decide) (by decide) (fun l hl => by simp only [pg0, List.mem_singleton] at hl; subst hl; decide) : Calls Try.prog 48 #[.agg #[.slice A 0 c, .slice B 1 d]] q (ManyP q pg0)))
 have HC := Lib.hid (fun (q : World) (hb : Below w1.heap.size w1 q) => HL1.out.below hb HL1.out.lt)
 have M1 := fun q => made_th1 q
 have M2 := fun q => made_sn1 q
 refine wp_region_rely (fun q => Below w1.heap.size w1 q) (bfV [.eq (.agg #[.slice A 0 c, .slice B 1 d]), .of (fun u q => ∃ A' c' Q d', u = .agg #[.slice A' 0 c', .slice Q 1 d'] ∧ OwnPg q w.heap.size A' c' Q d' pg0) (fun _ _ _ hb ⟨_, _, _, _, e, h⟩ => ⟨_, _, _, _, e, h.later hb⟩), .eq (.pointer (some ⟨w.heap.size, 1, none⟩)), .eq (.slice B 1 d), .eq (.int .i64 1), .of (fun u q => ∃ T, u = Value.slice (some ⟨T, 0, none⟩) 1 1 ∧ Lies q T 40 thZ2 ∧ w.heap.size ≤ T) (fun _ _ _ hb ⟨T, e, h, h2⟩ => ⟨T, e, h.below hb h.lt, h2⟩), .eq (.pointer (some ⟨w.heap.size, 1, none⟩)), .eq (.slice B 1 d), .eq (.int .i64 1), .of (fun u q => ∃ T, u = Value.slice (some ⟨T, 0, none⟩) 1 1 ∧ Lies q T 38 #[.slice none 0 0] ∧ w.heap.size ≤ T) (fun _ _ _ hb ⟨T, e, h, h2⟩ => ⟨T, e, h.below hb h.lt, h2⟩), .of (fun u q => ∃ z : F0, u = .agg (f0C z 0) ∧ OwnPg q w.heap.size z.A z.c z.Q z.d pg0 ∧ Lies q z.T 40 thZ2 ∧ Lies q z.S 38 #[.slice none 0 0] ∧ w.heap.size ≤ z.T ∧ w.heap.size ≤ z.S) (fun _ _ _ hb ⟨_, e, h, h2, h3, h4⟩ => ⟨_, e, h.later hb, h2.below hb h2.lt, h3.below hb h3.lt, h4⟩), .of (fun u q => ∃ F z, u = .pointer (some ⟨F, 0, none⟩) ∧ F0At w.heap.size F z q) (fun _ _ _ hb ⟨_, _, e, h⟩ => ⟨_, _, e, h.later hb⟩), .of (fun u q => ∃ F z, u = .pointer (some ⟨F, 0, none⟩) ∧ F0At w.heap.size F z q) (fun _ _ _ hb ⟨_, _, e, h⟩ => ⟨_, _, e, h.later hb⟩)]) [some 12, some 13, some 14, some 15, some 16, some 17, some 18, some 19, some 20, some 21, some 22, some 23, some 4] [[], [0], [], [2], [3], [4], [], [6], [7], [8], [1, 5, 9], [10], [11]] [[], [0], [], [2], [2, 3], [3, 4], [], [6], [6, 7], [7, 8], [0, 1, 4, 5, 8, 9], [1, 5, 9, 10], [0, 1, 2, 3, 4, 5, 6, 7, 8, 9, 10]] [[2, 3, 4, 5, 6, 7, 8, 9, 10, 11], [2, 3, 4, 5, 6, 7, 8, 9, 11], [0, 1, 4, 5, 6, 7, 8, 9, 10, 11], [0, 1, 5, 6, 7, 8, 9, 10, 11], [0, 1, 6, 7, 8, 9, 10, 11], [0, 1, 6, 7, 8, 9, 11], [0, 1, 2, 3, 4, 5, 8, 9, 10, 11], [0, 1, 2, 3, 4, 5, 9, 10, 11], [0, 1, 2, 3, 4, 5, 10, 11], [0, 1, 2, 3, 4, 5, 11], [2, 6], [2, 3, 6, 7], [11]] [0, 1, 2, 3, 4, 5, 6, 7, 8, 9, 10, 11, 12] 13 (by kernel_rfl) (by kernel_rfl) (by kernel_rfl) (by kernel_rfl) ?rS (fun j h1 h2 => absurd (Nat.lt_of_lt_of_le h1 (Nat.le_trans (by decide) h2)) (Nat.lt_irrefl _)) ?rT ?rE
 case rS => exact below_drewN (Below.refl _ _) 1
 case rT =>
  refine RelySteps.cons (RelyStep.mk [] [2, 3, 4, 5, 6, 7, 8, 9, 10, 11] rfl rfl rfl (fun xv wS hS hV bq hb K hK => ?_)) ?_
  ·clear hV
   simp only [putsOf, List.foldl_cons, List.foldl_nil, List.getD_cons_zero, List.getD_cons_succ, List.getD_nil, cond_true, cond_false, Act.put, List.setIfInBounds_toArray, List.set_cons_zero, List.set_cons_succ] at hb
   subst hb
   rw [if_pos (by rfl)]
   (have l5 := HC.out _ hS; have c0 := (l5.cell 0).trans (show _ = some (Value.slice A 0 c) from rfl); have c1 := (l5.cell 1).trans (show _ = some (Value.slice B 1 d) from rfl); have c2 := l5.lt)
   go_wp2_with fail
   exact hK.out _ _ ⟨_, rfl, hS, rfl, AllP.same _⟩
  refine RelySteps.cons (RelyStep.mk [0] [2, 3, 4, 5, 6, 7, 8, 9, 11] rfl rfl rfl (fun xv wS hS hV bq hb K hK => ?_)) ?_
  ·obtain ⟨h0, _⟩ := hV
   have h0 : xv 0 = _ := h0
   simp only [putsOf, List.foldl_cons, List.foldl_nil, List.getD_cons_zero, List.getD_cons_succ, List.getD_nil, cond_true, cond_false, Act.put, List.setIfInBounds_toArray, List.set_cons_zero, List.set_cons_succ, h0] at hb
   clear h0
   subst hb
   rw [if_pos (by rfl)]
   have HSS := Lib.hid hS
   clear hS M1 M2
   go_wp2_with fail
   refine (HCP.out wS HSS.out).mono ?_
   rintro q w' ⟨A', c', Q, d', rfl, ho, hb⟩
   have hsz := Nat.le_trans HB1.out.size HSS.out.size
   exact hK.out _ _ ⟨_, rfl, then_ HSS.out hb, ⟨_, _, _, _, rfl, ownPg_mono ho hsz⟩, AllP.of _ (fun j _ _ h => bfV_below hb h)⟩
  refine RelySteps.cons (RelyStep.mk [] [0, 1, 4, 5, 6, 7, 8, 9, 10, 11] rfl rfl rfl (fun xv wS hS hV bq hb K hK => ?_)) ?_
  ·clear hV
   simp only [putsOf, List.foldl_cons, List.foldl_nil, List.getD_cons_zero, List.getD_cons_succ, List.getD_nil, cond_true, cond_false, Act.put, List.setIfInBounds_toArray, List.set_cons_zero, List.set_cons_succ] at hb
   subst hb
   rw [if_pos (by rfl)]
   go_wp2_with fail
   exact hK.out _ _ ⟨_, rfl, hS, rfl, AllP.same _⟩
  refine RelySteps.cons (RelyStep.mk [2] [0, 1, 5, 6, 7, 8, 9, 10, 11] rfl rfl rfl (fun xv wS hS hV bq hb K hK => ?_)) ?_
  ·obtain ⟨h2, _⟩ := hV
   have h2 : xv 2 = _ := h2
   simp only [putsOf, List.foldl_cons, List.foldl_nil, List.getD_cons_zero, List.getD_cons_succ, List.getD_nil, cond_true, cond_false, Act.put, List.setIfInBounds_toArray, List.set_cons_zero, List.set_cons_succ, h2] at hb
   clear h2
   subst hb
   rw [if_pos (by rfl)]
   (have l5 := HC.out _ hS; have c1 := (l5.cell 1).trans (show _ = some (Value.slice B 1 d) from rfl); have c2 := l5.lt)
   go_wp2_with fail
   exact hK.out _ _ ⟨_, rfl, hS, rfl, AllP.same _⟩
  refine RelySteps.cons (RelyStep.mk [3] [0, 1, 6, 7, 8, 9, 10, 11] rfl rfl rfl (fun xv wS hS hV bq hb K hK => ?_)) ?_
  ·obtain ⟨h3, _⟩ := hV
   have h3 : xv 3 = _ := h3
   simp only [putsOf, List.foldl_cons, List.foldl_nil, List.getD_cons_zero, List.getD_cons_succ, List.getD_nil, cond_true, cond_false, Act.put, List.setIfInBounds_toArray, List.set_cons_zero, List.set_cons_succ, h3] at hb
   clear h3
   subst hb
   rw [if_pos (by rfl)]
   go_wp2_with fail
   exact hK.out _ _ ⟨_, rfl, hS, rfl, AllP.same _⟩
  refine RelySteps.cons (RelyStep.mk [4] [0, 1, 6, 7, 8, 9, 11] rfl rfl rfl (fun xv wS hS hV bq hb K hK => ?_)) ?_
  ·obtain ⟨h4, _⟩ := hV
   have h4 : xv 4 = _ := h4
   simp only [putsOf, List.foldl_cons, List.foldl_nil, List.getD_cons_zero, List.getD_cons_succ, List.getD_nil, cond_true, cond_false, Act.put, List.setIfInBounds_toArray, List.set_cons_zero, List.set_cons_succ, h4] at hb
   clear h4
   subst hb
   rw [if_pos (by rfl)]
   have HSS := Lib.hid hS
   clear hS
   go_wp2_with fail
   have hb : Below wS.heap.size wS (wS.alloc (.cells thZ2 40)) := (Below.refl _ _).alloc (Nat.le_refl _) _
   exact hK.out _ _ ⟨_, rfl, then_ HSS.out hb, ⟨_, rfl, Lies.made _ _ _, Nat.le_trans HB1.out.size HSS.out.size⟩, AllP.of _ (fun j _ _ h => bfV_below hb h)⟩
  refine RelySteps.cons (RelyStep.mk [] [0, 1, 2, 3, 4, 5, 8, 9, 10, 11] rfl rfl rfl (fun xv wS hS hV bq hb K hK => ?_)) ?_
  ·clear hV
   simp only [putsOf, List.foldl_cons, List.foldl_nil, List.getD_cons_zero, List.getD_cons_succ, List.getD_nil, cond_true, cond_false, Act.put, List.setIfInBounds_toArray, List.set_cons_zero, List.set_cons_succ] at hb
   subst hb
   rw [if_pos (by rfl)]
   go_wp2_with fail
   exact hK.out _ _ ⟨_, rfl, hS, rfl, AllP.same _⟩
  refine RelySteps.cons (RelyStep.mk [6] [0, 1, 2, 3, 4, 5, 9, 10, 11] rfl rfl rfl (fun xv wS hS hV bq hb K hK => ?_)) ?_
  ·obtain ⟨h6, _⟩ := hV
   have h6 : xv 6 = _ := h6
   simp only [putsOf, List.foldl_cons, List.foldl_nil, List.getD_cons_zero, List.getD_cons_succ, List.getD_nil, cond_true, cond_false, Act.put, List.setIfInBounds_toArray, List.set_cons_zero, List.set_cons_succ, h6] at hb
   clear h6
   subst hb
   rw [if_pos (by rfl)]
   (have l5 := HC.out _ hS; have c1 := (l5.cell 1).trans (show _ = some (Value.slice B 1 d) from rfl); have c2 := l5.lt)
   go_wp2_with fail
   exact hK.out _ _ ⟨_, rfl, hS, rfl, AllP.same _⟩
  refine RelySteps.cons (RelyStep.mk [7] [0, 1, 2, 3, 4, 5, 10, 11] rfl rfl rfl (fun xv wS hS hV bq hb K hK => ?_)) ?_
  ·obtain ⟨h7, _⟩ := hV
   have h7 : xv 7 = _ := h7
   simp only [putsOf, List.foldl_cons, List.foldl_nil, List.getD_cons_zero, List.getD_cons_succ, List.getD_nil, cond_true, cond_false, Act.put, List.setIfInBounds_toArray, List.set_cons_zero, List.set_cons_succ, h7] at hb
   clear h7
   subst hb
   rw [if_pos (by rfl)]
   go_wp2_with fail
   exact hK.out _ _ ⟨_, rfl, hS, rfl, AllP.same _⟩
  refine RelySteps.cons (RelyStep.mk [8] [0, 1, 2, 3, 4, 5, 11] rfl rfl rfl (fun xv wS hS hV bq hb K hK => ?_)) ?_
  ·obtain ⟨h8, _⟩ := hV
   have h8 : xv 8 = _ := h8
   simp only [putsOf, List.foldl_cons, List.foldl_nil, List.getD_cons_zero, List.getD_cons_succ, List.getD_nil, cond_true, cond_false, Act.put, List.setIfInBounds_toArray, List.set_cons_zero, List.set_cons_succ, h8] at hb
   clear h8
   subst hb
   rw [if_pos (by rfl)]
   have HSS := Lib.hid hS
   clear hS
   go_wp2_with fail
   have hb : Below wS.heap.size wS (wS.alloc (.cells #[.slice none 0 0] 38)) := (Below.refl _ _).alloc (Nat.le_refl _) _
   exact hK.out _ _ ⟨_, rfl, then_ HSS.out hb, ⟨_, rfl, Lies.made _ _ _, Nat.le_trans HB1.out.size HSS.out.size⟩, AllP.of _ (fun j _ _ h => bfV_below hb h)⟩
  refine RelySteps.cons (RelyStep.mk [1, 5, 9] [2, 6] rfl rfl rfl (fun xv wS hS hV bq hb K hK => ?_)) ?_
  ·obtain ⟨h1, h5, h9, _⟩ := hV
   simp only [putsOf, List.foldl_cons, List.foldl_nil, List.getD_cons_zero, List.getD_cons_succ, List.getD_nil, cond_true, cond_false, Act.put, List.setIfInBounds_toArray, List.set_cons_zero, List.set_cons_succ] at hb
   generalize xv 1 = y1 at *
   generalize xv 5 = y5 at *
   generalize xv 9 = y9 at *
   subst hb
   rw [if_pos (by rfl)]
   have HSS := Lib.hid hS
   obtain ⟨A', c', Q, d', rfl, ho1⟩ := h1
   obtain ⟨T5, rfl, ho5, n5⟩ := h5
   obtain ⟨T9, rfl, ho9, n9⟩ := h9
   have HO1 := Lib.hid ho1
   have HO5 := Lib.hid ho5
   have HO9 := Lib.hid ho9
   clear hS ho1 ho5 ho9
   go_wp2_with fail
   exact hK.out _ _ ⟨_, rfl, HSS.out, ⟨⟨A', c', Q, d', T5, T9⟩, rfl, HO1.out, HO5.out, HO9.out, n5, n9⟩, AllP.same _⟩
  refine RelySteps.cons (RelyStep.mk [10] [2, 3, 6, 7] rfl rfl rfl (fun xv wS hS hV bq hb K hK => ?_)) ?_
  ·obtain ⟨h10, _⟩ := hV
   simp only [putsOf, List.foldl_cons, List.foldl_nil, List.getD_cons_zero, List.getD_cons_succ, List.getD_nil, cond_true, cond_false, Act.put, List.setIfInBounds_toArray, List.set_cons_zero, List.set_cons_succ] at hb
   generalize xv 10 = y10 at *
   subst hb
   rw [if_pos (by rfl)]
   have HSS := Lib.hid hS
   obtain ⟨z, rfl, ho1, ho5, ho9, n5, n9⟩ := h10
   have HO1 := Lib.hid ho1
   have HO5 := Lib.hid ho5
   have HO9 := Lib.hid ho9
   clear hS ho1 ho5 ho9
   go_wp2_with fail
   have hb : Below wS.heap.size wS (wS.alloc (.cells (f0C z 0) 86)) := (Below.refl _ _).alloc (Nat.le_refl _) _
   exact hK.out _ _ ⟨_, rfl, then_ HSS.out hb, ⟨_, z, rfl, Lies.made _ _ _, HO1.out.later hb, HO5.out.below hb HO5.out.lt, HO9.out.below hb HO9.out.lt, Nat.le_trans HB1.out.size HSS.out.size, n5, n9⟩, AllP.of _ (fun j _ _ h => bfV_below hb h)⟩
  refine RelySteps.cons (RelyStep.mk [11] [11] rfl rfl rfl (fun xv wS hS hV bq hb K hK => ?_)) ?_
  ·obtain ⟨h11, _⟩ := hV
   simp only [putsOf, List.foldl_cons, List.foldl_nil, List.getD_cons_zero, List.getD_cons_succ, List.getD_nil, cond_true, cond_false, Act.put, List.setIfInBounds_toArray, List.set_cons_zero, List.set_cons_succ] at hb
   generalize xv 11 = y11 at *
   subst hb
   rw [if_pos (by rfl)]
   have HSS := Lib.hid hS
   obtain ⟨F, z, rfl, hf⟩ := h11
   have HF := Lib.hid hf
   clear hS hf
   go_wp2_with fail
   exact hK.out _ _ ⟨_, rfl, HSS.out, ⟨_, _, rfl, HF.out⟩, AllP.same _⟩
  exact RelySteps.nil
 case rE =>
  intro xv wE hS hV
  have h11 := hV 11 (by decide) (by decide)
  have h12 := hV 12 (by decide) (by decide)
  clear hV
  simp only [putsOf, List.foldl_cons, List.foldl_nil, List.getD_cons_zero, List.getD_cons_succ, List.getD_nil, cond_true, cond_false, Act.put, List.setIfInBounds_toArray, List.set_cons_zero, List.set_cons_succ]
  generalize xv 0 = y0 at *
  generalize xv 1 = y1 at *
  generalize xv 2 = y2 at *
  generalize xv 3 = y3 at *
  generalize xv 4 = y4 at *
  generalize xv 5 = y5 at *
  generalize xv 6 = y6 at *
  generalize xv 7 = y7 at *
  generalize xv 8 = y8 at *
  generalize xv 9 = y9 at *
  generalize xv 10 = y10 at *
  generalize xv 11 = y11 at *
  generalize xv 12 = y12 at *
  obtain ⟨F, z, rfl, hf⟩ := h12
  have HF := Lib.hid hf
  have HBE := Lib.hid (HB1.out.trans (hS.mono HB1.out.size))
  have HLE := Lib.hid (HC.out _ hS)
  clear hf hS h11 HCP HC HL1 HB1 M1 M2
  generalize wE = w2 at *
  have c0 := (HLE.out.cell 0).trans (show _ = some (Value.slice A 0 c) from rfl)
  have c2 := HLE.out.lt
  go_wp2_with fail
  clear c0 c2
  go_loopw [27] (fun u wr => u = .int .i64 0 ∧ wr = w2) (fun u _ => 0)
  case atStart => exact ⟨rfl, rfl⟩
  case round =>
   obtain ⟨rfl, rfl⟩ := hrel
   go_wp2_with fail
   go_ret2
   exact ⟨F, z, rfl, HF.out, HBE.out⟩
def hdB (l : List In) (x : Th) (op : Int) : Bool := (x.st == 0) && (decide (x.at_ < (l.length : Int)) && (((l.getD x.at_.toNat default).op == op) && (((l.getD x.at_.toNat default).c == x.rg) && decide (x.tk < 4611686018427387904))))
set_option maxHeartbeats 8000000 in
set_option maxRecDepth 100000 in
theorem holds16 (l : List In) (A : Option Addr) (c : Nat) (x : Th) (v : Value) (op : Int) (w : World) (h : InsAt w A c l) (h0 : 0 ≤ x.at_) :
  Calls Try.prog 67 #[.slice A l.length c, .agg (thC x v), .int .i64 op] w fun e w' => e = .returned (.bool (hdB l x op)) ∧ Below w.heap.size w w' := by
 obtain ⟨hc1, hc2⟩ := seq_form h
 have hb0 : Below w.heap.size w (w.alloc (.cells (thC x v) 40)) := (Below.refl _ _).alloc (Nat.le_refl _) _
 have l0 := Lies.made w 40 (thC x v)
 have h1 := h.later hb0
 have HH := Lib.hid h1
 have HB := Lib.hid hb0
 have HL := Lib.hid l0
 have HD : Hid (hdB l x op = ((x.st == 0) && (decide (x.at_ < (l.length : Int)) && (((l.getD x.at_.toNat default).op == op) && (((l.getD x.at_.toNat default).c == x.rg) && decide (x.tk < 4611686018427387904)))))) := rfl
 clear h h1 hb0 l0
 obtain ⟨sb, hsb⟩ : ∃ b, (x.st == 0) = b := ⟨_, rfl⟩
 rw [hsb] at HD
 cases sb with
 | false =>
  have HE : Hid (hdB l x op = false) := HD.out
  clear HD
  go_enter Try.func67, Try.ntmps67
  go_upto_region 1 with (fail)
  generalize w.alloc (.cells (thC x v) 40) = w1 at *
  have c0 := (HL.out.cell 0).trans (show _ = some (Value.int .i64 x.at_) from rfl)
  have c1 := (HL.out.cell 1).trans (show _ = some (Value.int .i64 x.ph) from rfl)
  have c2 := (HL.out.cell 2).trans (show _ = some (Value.int .i64 x.rg) from rfl)
  have c3 := (HL.out.cell 3).trans (show _ = some (Value.int .i64 x.st) from rfl)
  have c4 := (HL.out.cell 4).trans (show _ = some (Value.int .u64 (x.tk : Int)) from rfl)
  have c5 := (HL.out.cell 5).trans (show _ = some (Value.int .u64 (x.r 0 : Int)) from rfl)
  have c6 := (HL.out.cell 6).trans (show _ = some (Value.int .u64 (x.r 1 : Int)) from rfl)
  have c7 := (HL.out.cell 7).trans (show _ = some (Value.int .u64 (x.r 2 : Int)) from rfl)
  have c8 := (HL.out.cell 8).trans (show _ = some (Value.int .u64 (x.r 3 : Int)) from rfl)
  have c9 := (HL.out.cell 9).trans (show _ = some (Value.int .u64 (x.r 4 : Int)) from rfl)
  have c10 := (HL.out.cell 10).trans (show _ = some (Value.int .u64 (x.r 5 : Int)) from rfl)
  have c11 := (HL.out.cell 11).trans (show _ = some (Value.int .u64 (x.r 6 : Int)) from rfl)
  have c12 := (HL.out.cell 12).trans (show _ = some (Value.int .u64 (x.r 7 : Int)) from rfl)
  have c13 := (HL.out.cell 13).trans (show _ = some v from rfl)
  have cl := HL.out.lt
  go_wp2
  go_quiet (fail)
  go_wp2
  go_ret
  exact ⟨ret_bool HE.out.symm, below_drewN HB.out _⟩
 | true =>
  by_cases hlt : x.at_ < (l.length : Int)
  case neg =>
   have e1 : decide (x.at_ < (l.length : Int)) = false := decide_eq_false hlt
   have HE : Hid (hdB l x op = false) := by show _ = _; rw [HD.out, e1]; rfl
   clear HD hlt
   go_enter Try.func67, Try.ntmps67
   go_upto_region 1 with (fail)
   generalize w.alloc (.cells (thC x v) 40) = w1 at *
   have c0 := (HL.out.cell 0).trans (show _ = some (Value.int .i64 x.at_) from rfl)
   have c1 := (HL.out.cell 1).trans (show _ = some (Value.int .i64 x.ph) from rfl)
   have c2 := (HL.out.cell 2).trans (show _ = some (Value.int .i64 x.rg) from rfl)
   have c3 := (HL.out.cell 3).trans (show _ = some (Value.int .i64 x.st) from rfl)
   have c4 := (HL.out.cell 4).trans (show _ = some (Value.int .u64 (x.tk : Int)) from rfl)
   have c5 := (HL.out.cell 5).trans (show _ = some (Value.int .u64 (x.r 0 : Int)) from rfl)
   have c6 := (HL.out.cell 6).trans (show _ = some (Value.int .u64 (x.r 1 : Int)) from rfl)
   have c7 := (HL.out.cell 7).trans (show _ = some (Value.int .u64 (x.r 2 : Int)) from rfl)
   have c8 := (HL.out.cell 8).trans (show _ = some (Value.int .u64 (x.r 3 : Int)) from rfl)
   have c9 := (HL.out.cell 9).trans (show _ = some (Value.int .u64 (x.r 4 : Int)) from rfl)
   have c10 := (HL.out.cell 10).trans (show _ = some (Value.int .u64 (x.r 5 : Int)) from rfl)
   have c11 := (HL.out.cell 11).trans (show _ = some (Value.int .u64 (x.r 6 : Int)) from rfl)
   have c12 := (HL.out.cell 12).trans (show _ = some (Value.int .u64 (x.r 7 : Int)) from rfl)
   have c13 := (HL.out.cell 13).trans (show _ = some v from rfl)
   have cl := HL.out.lt
   go_wp2
   go_quiet (fail)
   go_wp2
   go_ret
   exact ⟨ret_bool HE.out.symm, below_drewN HB.out _⟩
  have e1 : decide (x.at_ < (l.length : Int)) = true := decide_eq_true hlt
  obtain ⟨an, han⟩ : ∃ n : Nat, x.at_ = n := ⟨x.at_.toNat, by omega⟩
  obtain ⟨y, hy⟩ : ∃ y, l[an]? = some y := ⟨_, List.getElem?_eq_getElem (by omega)⟩
  have hgd : l.getD x.at_.toNat default = y := by rw [han, Int.toNat_natCast, List.getD_eq_getElem?_getD, hy]; rfl
  rw [hgd, e1] at HD
  obtain ⟨b, off, rfl, hbl, hg⟩ := InsAt.at_ HH.out hy
  have g0 := hg 0 _ (by decide) rfl
  have g3 := hg 3 _ (by decide) rfl
  rw [Nat.add_zero] at g0
  obtain ⟨ob, hob⟩ : ∃ b, (y.op == op) = b := ⟨_, rfl⟩
  obtain ⟨cb, hcb⟩ : ∃ b, (y.c == x.rg) = b := ⟨_, rfl⟩
  obtain ⟨tb, htb⟩ : ∃ b, decide (x.tk < 4611686018427387904) = b := ⟨_, rfl⟩
  have htb2 : decide ((x.tk : Int) < 4611686018427387904) = tb := by rw [← htb]; congr 1; apply propext; omega
  rw [hob, hcb, htb] at HD
  have hlt2 : (an : Int) < (l.length : Int) := by omega
  rw [han] at e1
  have HAN := Lib.hid han
  clear hgd hg hy hlt han htb
  cases ob <;> cases cb <;> cases tb
  all_goals
   have HE := HD.out
   simp only [Bool.true_and, Bool.false_and, Bool.and_false, Bool.and_true] at HE
   have HE2 := Lib.hid HE
   clear HE HD
   go_enter Try.func67, Try.ntmps67
   go_upto_region 1 with (fail)
   generalize w.alloc (.cells (thC x v) 40) = w1 at *
   have c0 := (HL.out.cell 0).trans (show _ = some (Value.int .i64 x.at_) from rfl)
   have c1 := (HL.out.cell 1).trans (show _ = some (Value.int .i64 x.ph) from rfl)
   have c2 := (HL.out.cell 2).trans (show _ = some (Value.int .i64 x.rg) from rfl)
   have c3 := (HL.out.cell 3).trans (show _ = some (Value.int .i64 x.st) from rfl)
   have c4 := (HL.out.cell 4).trans (show _ = some (Value.int .u64 (x.tk : Int)) from rfl)
   have c5 := (HL.out.cell 5).trans (show _ = some (Value.int .u64 (x.r 0 : Int)) from rfl)
   have c6 := (HL.out.cell 6).trans (show _ = some (Value.int .u64 (x.r 1 : Int)) from rfl)
   have c7 := (HL.out.cell 7).trans (show _ = some (Value.int .u64 (x.r 2 : Int)) from rfl)
   have c8 := (HL.out.cell 8).trans (show _ = some (Value.int .u64 (x.r 3 : Int)) from rfl)
   have c9 := (HL.out.cell 9).trans (show _ = some (Value.int .u64 (x.r 4 : Int)) from rfl)
   have c10 := (HL.out.cell 10).trans (show _ = some (Value.int .u64 (x.r 5 : Int)) from rfl)
   have c11 := (HL.out.cell 11).trans (show _ = some (Value.int .u64 (x.r 6 : Int)) from rfl)
   have c12 := (HL.out.cell 12).trans (show _ = some (Value.int .u64 (x.r 7 : Int)) from rfl)
   have c13 := (HL.out.cell 13).trans (show _ = some v from rfl)
   have cl := HL.out.lt
   rw [HAN.out] at c0
   go_wp2
   go_quiet (fail)
   go_wp2
   go_ret
   exact ⟨ret_bool HE2.out.symm, below_drewN HB.out _⟩
def inTh (l : List In) (x : Th) : Bool := decide (0 ≤ x.at_ ∧ x.at_ ≤ (l.length : Int) ∧ 0 ≤ x.st ∧ x.st ≤ 2)
def phB (l : List In) (x : Th) : Bool := if x.ph = 0 then (x.rg == 0) && (x.tk == 0) else if x.ph = 1 then hdB l x 18 else if x.ph = 2 then hdB l x 19 else false
def thB (l : List In) (x : Th) : Bool := codeB l && (inTh l x && phB l x)
set_option maxHeartbeats 8000000 in
set_option maxRecDepth 100000 in
theorem thRight (l : List In) (A : Option Addr) (c : Nat) (x : Th) (v : Value) (w : World) (h : InsAt w A c l) :
  Calls Try.prog 51 #[.slice A l.length c, .agg (thC x v)] w fun e w' => e = .returned (.bool (thB l x)) ∧ Below w.heap.size w w' := by
 obtain ⟨hc1, hc2⟩ := seq_form h
 have hb0 : Below w.heap.size w (w.alloc (.cells (thC x v) 40)) := (Below.refl _ _).alloc (Nat.le_refl _) _
 have l0 := Lies.made w 40 (thC x v)
 have HH := Lib.hid (fun (q : World) (hq : Below w.heap.size w q) => h.later hq)
 have HB := Lib.hid hb0
 have HL := Lib.hid l0
 have HT : Hid (thB l x = (codeB l && (inTh l x && phB l x))) := rfl
 have HI : Hid (inTh l x = decide (0 ≤ x.at_ ∧ x.at_ ≤ (l.length : Int) ∧ 0 ≤ x.st ∧ x.st ≤ 2)) := rfl
 have HP : Hid (phB l x = if x.ph = 0 then (x.rg == 0) && (x.tk == 0) else if x.ph = 1 then hdB l x 18 else if x.ph = 2 then hdB l x 19 else false) := rfl
 have HC := Lib.hid (fun w h => code16 l A c w h)
 have HD := Lib.hid (fun op w h h0 => holds16 l A c x v op w h h0)
 clear h hb0 l0
 go_enter Try.func51, Try.ntmps51
 go_wp2_with fail
 generalize w.alloc (.cells (thC x v) 40) = w1 at *
 refine (HC.out _ (HH.out _ HB.out)).mono ?_
 rintro e w2 ⟨rfl, hbm⟩
 replace HB := Lib.hid (HB.out.trans (hbm.mono HB.out.size))
 replace HL := Lib.hid (HL.out.below hbm HL.out.lt)
 clear hbm HC
 have c0 := (HL.out.cell 0).trans (show _ = some (Value.int .i64 x.at_) from rfl)
 have c1 := (HL.out.cell 1).trans (show _ = some (Value.int .i64 x.ph) from rfl)
 have c2 := (HL.out.cell 2).trans (show _ = some (Value.int .i64 x.rg) from rfl)
 have c3 := (HL.out.cell 3).trans (show _ = some (Value.int .i64 x.st) from rfl)
 have c4 := (HL.out.cell 4).trans (show _ = some (Value.int .u64 (x.tk : Int)) from rfl)
 have c5 := (HL.out.cell 5).trans (show _ = some (Value.int .u64 (x.r 0 : Int)) from rfl)
 have c6 := (HL.out.cell 6).trans (show _ = some (Value.int .u64 (x.r 1 : Int)) from rfl)
 have c7 := (HL.out.cell 7).trans (show _ = some (Value.int .u64 (x.r 2 : Int)) from rfl)
 have c8 := (HL.out.cell 8).trans (show _ = some (Value.int .u64 (x.r 3 : Int)) from rfl)
 have c9 := (HL.out.cell 9).trans (show _ = some (Value.int .u64 (x.r 4 : Int)) from rfl)
 have c10 := (HL.out.cell 10).trans (show _ = some (Value.int .u64 (x.r 5 : Int)) from rfl)
 have c11 := (HL.out.cell 11).trans (show _ = some (Value.int .u64 (x.r 6 : Int)) from rfl)
 have c12 := (HL.out.cell 12).trans (show _ = some (Value.int .u64 (x.r 7 : Int)) from rfl)
 have c13 := (HL.out.cell 13).trans (show _ = some v from rfl)
 have cl := HL.out.lt
 generalize codeB l = cb at *
 cases cb with
 | false =>
  have HE : Hid (thB l x = false) := HT.out
  clear HT HI HP
  go_wp2
  go_ret
  exact ⟨ret_bool HE.out.symm, HB.out⟩
 | true =>
 rw [Bool.true_and] at HT
 by_cases hin : 0 ≤ x.at_ ∧ x.at_ ≤ (l.length : Int) ∧ 0 ≤ x.st ∧ x.st ≤ 2
 case neg =>
  have HE : Hid (thB l x = false) := by show _ = _; rw [HT.out, HI.out, decide_eq_false hin]; rfl
  have hcs : (x.at_ < 0) ∨ (¬ x.at_ < 0 ∧ (l.length : Int) < x.at_) ∨ (¬ x.at_ < 0 ∧ ¬ (l.length : Int) < x.at_ ∧ x.st < 0) ∨ (¬ x.at_ < 0 ∧ ¬ (l.length : Int) < x.at_ ∧ ¬ x.st < 0 ∧ 2 < x.st) := by omega
  clear HT HI HP hin
  rcases hcs with q1 | ⟨q1, q2⟩ | ⟨q1, q2, q3⟩ | ⟨q1, q2, q3, q4⟩
  ·have g1 : decide (x.at_ < 0) = true := decide_eq_true q1
   go_wp2
   go_ret
   exact ⟨ret_bool HE.out.symm, HB.out⟩
  ·have g1 : decide (x.at_ < 0) = false := decide_eq_false q1
   have g2 : decide ((l.length : Int) < x.at_) = true := decide_eq_true q2
   go_wp2
   go_ret
   exact ⟨ret_bool HE.out.symm, HB.out⟩
  ·have g1 : decide (x.at_ < 0) = false := decide_eq_false q1
   have g2 : decide ((l.length : Int) < x.at_) = false := decide_eq_false q2
   have g3 : decide (x.st < 0) = true := decide_eq_true q3
   go_wp2
   go_ret
   exact ⟨ret_bool HE.out.symm, HB.out⟩
  ·have g1 : decide (x.at_ < 0) = false := decide_eq_false q1
   have g2 : decide ((l.length : Int) < x.at_) = false := decide_eq_false q2
   have g3 : decide (x.st < 0) = false := decide_eq_false q3
   have g4 : decide (2 < x.st) = true := decide_eq_true q4
   go_wp2
   go_ret
   exact ⟨ret_bool HE.out.symm, HB.out⟩
 have g1 : decide (x.at_ < 0) = false := decide_eq_false (by omega)
 have g2 : decide ((l.length : Int) < x.at_) = false := decide_eq_false (by omega)
 have g3 : decide (x.st < 0) = false := decide_eq_false (by omega)
 have g4 : decide (2 < x.st) = false := decide_eq_false (by omega)
 have h0 := hin.1
 rw [decide_eq_true hin] at HI
 rw [HI.out, Bool.true_and] at HT
 clear hin HI
 by_cases p0 : x.ph = 0
 ·rw [if_pos p0] at HP
  have e0 : (x.ph == 0) = true := by rw [beq_iff_eq]; exact p0
  obtain ⟨b1, hb1⟩ : ∃ b, (x.rg == 0) = b := ⟨_, rfl⟩
  obtain ⟨b2, hb2⟩ : ∃ b, (x.tk == 0) = b := ⟨_, rfl⟩
  have hb3 : ((x.tk : Int) == 0) = b2 := by rw [← hb2, Bool.eq_iff_iff, beq_iff_eq, beq_iff_eq]; omega
  rw [hb1, hb2] at HP
  clear p0 hb2
  cases b1 <;> cases b2
  all_goals
   have HE := Lib.hid (HT.out.trans HP.out)
   clear HT HP
   go_wp2
   go_ret
   exact ⟨ret_bool HE.out.symm, HB.out⟩
 rw [if_neg p0] at HP
 have e0 : (x.ph == 0) = false := by rw [beq_eq_false_iff_ne]; exact p0
 by_cases p1 : x.ph = 1
 ·rw [if_pos p1] at HP
  have e1 : (x.ph == 1) = true := by rw [beq_iff_eq]; exact p1
  have HE := Lib.hid (HT.out.trans HP.out)
  clear HT HP p0 p1
  go_wp2_with fail
  refine (HD.out 18 _ (HH.out _ HB.out) h0).mono ?_
  rintro e w3 ⟨rfl, hbm⟩
  replace HB := Lib.hid (HB.out.trans (hbm.mono HB.out.size))
  clear hbm HD
  go_wp2
  go_ret
  exact ⟨ret_bool HE.out.symm, HB.out⟩
 rw [if_neg p1] at HP
 have e1 : (x.ph == 1) = false := by rw [beq_eq_false_iff_ne]; exact p1
 by_cases p2 : x.ph = 2
 ·rw [if_pos p2] at HP
  have e2 : (x.ph == 2) = true := by rw [beq_iff_eq]; exact p2
  have HE := Lib.hid (HT.out.trans HP.out)
  clear HT HP p0 p1 p2
  go_wp2_with fail
  refine (HD.out 19 _ (HH.out _ HB.out) h0).mono ?_
  rintro e w3 ⟨rfl, hbm⟩
  replace HB := Lib.hid (HB.out.trans (hbm.mono HB.out.size))
  clear hbm HD
  go_wp2
  go_ret
  exact ⟨ret_bool HE.out.symm, HB.out⟩
 rw [if_neg p2] at HP
 have e2 : (x.ph == 2) = false := by rw [beq_eq_false_iff_ne]; exact p2
 have HE := Lib.hid (HT.out.trans HP.out)
 clear HT HP p0 p1 p2
 go_wp2
 go_ret
 exact ⟨ret_bool HE.out.symm, HB.out⟩
def twoRows (a b : Nat) : Nat → Prop := fun k => k = a ∨ k = b
def rgV (vs : List (Option Value)) (F : Nat → World → Prop) (j : Nat) (u : Value) (q : World) : Prop := match vs.getD j none with | some v => u = v | none => F j q
theorem rgV_mono {vs : List (Option Value)} {F : Nat → World → Prop} {j : Nat} {u : Value} {q q' : World} (hF : F j q → F j q') (h : rgV vs F j u q) : rgV vs F j u q' := by
 unfold rgV at h ⊢
 cases hv : vs.getD j none with
 | some v => rw [hv] at h; exact h
 | none => rw [hv] at h; exact hF h
def twF (i4 i5 i7 i8 b4 b5 : Nat) (T U : TypeId) (c4 c5 z4 z5 : Array Value) (j : Nat) (q : World) : Prop :=
 if j = i4 then Lies q b4 T c4 else if j = i5 then Lies q b5 U c5 else if j = i7 then Lies q b4 T z4 else if j = i8 then Lies q b5 U z5 else True
theorem twF_kept {i4 i5 i7 i8 b4 b5 : Nat} {T U : TypeId} {c4 c5 z4 z5 : Array Value} {j : Nat} {q q' : World} {S : Nat → Prop} (h4 : ¬ S b4) (h5 : ¬ S b5) (k : Kept S q q') (h : twF i4 i5 i7 i8 b4 b5 T U c4 c5 z4 z5 j q) : twF i4 i5 i7 i8 b4 b5 T U c4 c5 z4 z5 j q' := by
 unfold twF at h ⊢
 split
 ·rename_i e; rw [if_pos e] at h; exact h.kept k h4
 rename_i e1; rw [if_neg e1] at h
 split
 ·rename_i e; rw [if_pos e] at h; exact h.kept k h5
 rename_i e2; rw [if_neg e2] at h
 split
 ·rename_i e; rw [if_pos e] at h; exact h.kept k h4
 rename_i e3; rw [if_neg e3] at h
 split
 ·rename_i e; rw [if_pos e] at h; exact h.kept k h5
 trivial
theorem twF_kept4 {i4 i5 i7 i8 b4 b5 : Nat} {T U : TypeId} {c4 c5 z4 z5 : Array Value} {j : Nat} {q q' : World} {S : Nat → Prop} (hj : (j != i4 && j != i7) = true) (h5 : ¬ S b5) (k : Kept S q q') (h : twF i4 i5 i7 i8 b4 b5 T U c4 c5 z4 z5 j q) : twF i4 i5 i7 i8 b4 b5 T U c4 c5 z4 z5 j q' := by
 rw [Bool.and_eq_true, bne_iff_ne, bne_iff_ne] at hj
 unfold twF at h ⊢
 rw [if_neg hj.1] at h ⊢
 split
 ·rename_i e; rw [if_pos e] at h; exact h.kept k h5
 rename_i e2; rw [if_neg e2, if_neg hj.2] at h
 rw [if_neg hj.2]
 split
 ·rename_i e; rw [if_pos e] at h; exact h.kept k h5
 trivial
theorem twF_kept5 {i4 i5 i7 i8 b4 b5 : Nat} {T U : TypeId} {c4 c5 z4 z5 : Array Value} {j : Nat} {q q' : World} {S : Nat → Prop} (hj : (j != i5 && j != i8) = true) (h4 : ¬ S b4) (k : Kept S q q') (h : twF i4 i5 i7 i8 b4 b5 T U c4 c5 z4 z5 j q) : twF i4 i5 i7 i8 b4 b5 T U c4 c5 z4 z5 j q' := by
 rw [Bool.and_eq_true, bne_iff_ne, bne_iff_ne] at hj
 unfold twF at h ⊢
 split
 ·rename_i e; rw [if_pos e] at h; exact h.kept k h4
 rename_i e1; rw [if_neg e1, if_neg hj.1] at h
 rw [if_neg hj.1]
 split
 ·rename_i e; rw [if_pos e] at h; exact h.kept k h4
 rename_i e2; rw [if_neg e2, if_neg hj.2] at h
 rw [if_neg hj.2]
 trivial
theorem kept_rowS {w : World} {g : Nat} {S : Nat → Prop} (cs : Array Value) (h : S g) : Kept S w (w.setRow g cs) :=
 ⟨rfl, rfl, rfl, by unfold World.setRow; simp, fun k _ hk => setRow_other w g k cs (fun e => hk (e ▸ h))⟩
theorem lies_row {w : World} {g : Nat} {t : TypeId} {old : Array Value} (h : Lies w g t old) (cs : Array Value) : Lies (w.setRow g cs) g t cs := setRow_heap w g old cs t (0, 0) h
section
variable {P : Program} {o : Oper} {a : Act} {w : World} {ops : Array Oper} {rest : List Oper} {Q2 : Exit → Act → World → Prop}
theorem wpList_build1_known (hg : o.guard = none) (ty : TypeId) (x : Operand) (ho : o.op = .build ty #[(0, x)]) (u z : Value) (hx : a.eval x = u) (hl : (Instr.build ty #[(0, u)]).run P w = .ok z w) (hn : wpList P ops Q2 rest (a.put o.dst z) w) : wpList P ops Q2 (o :: rest) a w :=
 wpList_plain hg fun _ hK => wp_build1_known ty x ho u z hx hl (hK _ _ hn)
end
section
variable {P : Program} {F : Func} {a : Array Value} {w : World} {g g2 p p2 q : Nat} {t t2 : TypeId} {u v v2 : Value}
theorem res_cell3 (hF : F.results = #[.cell p t, .cell p2 t2, .tmp q]) (ha : a.getD p undef = .pointer (some ⟨g, 0, none⟩)) (ha2 : a.getD p2 undef = .pointer (some ⟨g2, 0, none⟩)) (hu : a.getD q undef = u) (hl : (loadVar t ⟨g, 0, none⟩).run P w = .ok v w) (hl2 : (loadVar t2 ⟨g2, 0, none⟩).run P w = .ok v2 w) : (results F a).run P w = .ok (.tuple #[v, v2, u]) w := by
 unfold results
 rw [hF]
 simp only [Array.getD_eq_getD_getElem?] at ha ha2 hu
 simp [ha, ha2, hu, asAddr, hl, hl2]
end
def x1 : Th := ⟨1, 0, 0, 0, 0, fun _ => 0, []⟩
abbrev thV (v : Value) : Array Value := #[.int .i64 1, .int .i64 0, .int .i64 0, .int .i64 0, .int .u64 0, .int .u64 0, .int .u64 0, .int .u64 0, .int .u64 0, .int .u64 0, .int .u64 0, .int .u64 0, .int .u64 0, v]
abbrev thO1 : Array Value := thV (.slice none 0 0)
abbrev akZ1 : Array Value := #[.int .i64 0, .int .i64 0, .int .i64 0, .int .i64 0, .int .u64 0, .int .u64 0]
abbrev akK1 : Array Value := #[.int .i64 8, .int .i64 0, .int .i64 0, .int .i64 0, .int .u64 0, .int .u64 0]
theorem infoAk1 : (Try.prog.info? 134).map (·.size) = some 6 := by kernel_rfl
theorem run_build_ak (w : World) : (Instr.build 134 #[(0, .int .i64 8)]).run Try.prog w = .ok (.agg akK1) w := by kernel_rfl
theorem akK1_one : akK1.all (·.oneCell') = true := by
 rw [Array.all_eq_true_iff_forall_mem]
 intro u hu
 simp at hu
 rcases hu with rfl | rfl | rfl <;> rfl
theorem thO1_one : thO1.all (·.oneCell') = true := thC_one2 (x := x1) (v := .slice none 0 0) rfl
theorem th1_B : thB hl0 x1 = true := by decide +kernel
set_option maxRecDepth 100000 in
theorem adv0 (v : Value) (A : Option Addr) (c g : Nat) (w : World) (hc1 : 1 ≤ c) (hc2 : c ≤ 9223372036854775807) (h : Lies w g 40 (thV v)) : Calls Try.prog 83 #[.slice A 1 c, .pointer (some ⟨g, 0, none⟩)] w fun e w' => e = .returned (.tuple #[]) ∧ w = w' := by
 have c0 := (h.cell 0).trans (show _ = some (Value.int .i64 1) from rfl)
 have cl := h.lt
 clear h
 go_enter Try.func83, Try.ntmps83
 go_wp2_with fail
 go_loopw [4] (fun u wr => u = .int .i64 0 ∧ wr = w) (fun u _ => 0)
 case atStart => exact ⟨rfl, rfl⟩
 case round =>
  obtain ⟨rfl, rfl⟩ := hrel
  go_wp2_with fail
  exact bodyPost_ret (v := .tuple #[]) (by simp [results, Try.results83, go_sem]) rfl ⟨rfl, rfl⟩
set_option maxHeartbeats 2000000 in
set_option maxRecDepth 100000 in
theorem req0 (v : Value) (A : Option Addr) (c : Nat) (w : World) (hc1 : 1 ≤ c) (hc2 : c ≤ 9223372036854775807) : Calls Try.prog 84 #[.slice A 1 c, .agg (thV v)] w fun e w' => e = .returned (.agg akK1) ∧ Below w.heap.size w w' := by
 have hb3 : Below w.heap.size w ((w.alloc (.cells (thV v) 40)).alloc (.cells akZ1 134)) := ((Below.refl _ _).alloc (Nat.le_refl _) _).alloc (by simp) _
 have l1 := (Lies.made w 40 (thV v)).alloc (.cells akZ1 134)
 have l2 := Lies.made (w.alloc (.cells (thV v) 40)) 134 akZ1
 rw [World.size_alloc] at l2
 have HB := Lib.hid hb3
 have HL2 := Lib.hid l2
 have c0 := (l1.cell 0).trans (show _ = some (Value.int .i64 1) from rfl)
 have c3 := (l1.cell 3).trans (show _ = some (Value.int .i64 0) from rfl)
 have cl := l1.lt
 clear l1 l2 hb3
 go_enter Try.func84, Try.ntmps84
 go_upto_region 1 with (fail)
 generalize ((w.alloc (.cells (thV v) 40)).alloc (.cells akZ1 134)) = w1 at *
 have k9 := kept_row2 (w := w1) (g := w.heap.size + 1) akK1
 have HZ := Lib.hid (HB.out.trans (k9.below HB.out.size (fun r hr (e : r = w.heap.size + 1) => by omega)))
 have Q4 := Lib.hid (lies_row2 HL2.out akK1)
 clear k9
 go_upto_region 4 with (fail)
 refine wp_region_lit ?_
 refine wpList_build1_known rfl 134 _ rfl (.int .i64 8) (.agg akK1) rfl (run_build_ak _) ?_
 refine wpList_store_row rfl 134 _ _ rfl (w.heap.size + 1) akK1 rfl rfl 134 akZ1 HL2.out infoAk1 rfl akK1_one ?_
 clear c0 c3 cl HL2 HB
 generalize w1.setRow (w.heap.size + 1) akK1 = w2 at *
 have z0 := (Q4.out.cell 0).trans (show _ = some (Value.int .i64 8) from rfl)
 have z1 := (Q4.out.cell 1).trans (show _ = some (Value.int .i64 0) from rfl)
 have z2 := (Q4.out.cell 2).trans (show _ = some (Value.int .i64 0) from rfl)
 have z3 := (Q4.out.cell 3).trans (show _ = some (Value.int .i64 0) from rfl)
 have z4 := (Q4.out.cell 4).trans (show _ = some (Value.int .u64 0) from rfl)
 have z5 := (Q4.out.cell 5).trans (show _ = some (Value.int .u64 0) from rfl)
 go_wp2_with fail
 exact bodyPost_ret (v := .agg akK1) (by simp [results, Try.results84, go_sem, z0, z1, z2, z3, z4, z5]) rfl ⟨rfl, HZ.out⟩
theorem seq1_nil (q : World) : SeqS q 1 (.slice none 0 0) 0 (cells64 []) := SeqS.nil q 1
set_option maxHeartbeats 8000000 in
set_option maxRecDepth 100000 in
theorem next0 (A : Option Addr) (c : Nat) (w : World) (h : InsAt w A c hl0) :
  Calls Try.prog 68 #[.slice A 1 c, .agg thO1] w fun e w' => ∃ v, e = .returned (.tuple #[v, .agg akK1, .int .i64 0]) ∧ (∃ x S d, v = .agg (thC x (.slice S 0 d))) ∧ Below w.heap.size w w' := by
 obtain ⟨hc1, hc2⟩ := seq_form h
 have hc1 : 1 ≤ c := hc1
 have hb3 : Below w.heap.size w (((w.alloc (.cells thO1 40)).alloc (.cells thZ2 40)).alloc (.cells akZ1 134)) := (((Below.refl _ _).alloc (Nat.le_refl _) _).alloc (by simp) _).alloc (by simp; omega) _
 have l1 := ((Lies.made w 40 thO1).alloc (.cells thZ2 40)).alloc (.cells akZ1 134)
 have l2 := (Lies.made (w.alloc (.cells thO1 40)) 40 thZ2).alloc (.cells akZ1 134)
 have l3 := Lies.made ((w.alloc (.cells thO1 40)).alloc (.cells thZ2 40)) 134 akZ1
 rw [show (w.alloc (.cells thO1 40)).heap.size = w.heap.size + 1 by simp] at l2
 rw [show ((w.alloc (.cells thO1 40)).alloc (.cells thZ2 40)).heap.size = w.heap.size + 1 + 1 by simp] at l3
 have HB := Lib.hid hb3
 have HG := Lib.hid l1
 have H4 := Lib.hid l2
 have H5 := Lib.hid l3
 have HH := Lib.hid (fun (q : World) (hq : Below w.heap.size w q) => h.later hq)
 have hRT : ∀ q, InsAt q A c hl0 → Calls Try.prog 51 #[.slice A 1 c, .agg thO1] q fun e w' => e = .returned (.bool true) ∧ Below q.heap.size q w' := fun q hq => by
  have := thRight hl0 A c x1 (.slice none 0 0) q hq
  rw [th1_B] at this
  exact this
 have HRT := Lib.hid hRT
 have HCL := Lib.hid (fun (q : World) => (clone16 [] none 0 q (seq1_nil q) (by decide) : Calls Try.prog 53 #[.slice none 0 0] q fun e w' => ∃ v, e = .returned v ∧ w'.ownsRow q.heap.size 24 1 v 0 (cells64 []) ∧ Below q.heap.size q w'))
 clear hb3 l1 l2 l3 h hRT
 go_enter Try.func68, Try.ntmps68
 go_upto_region 1 with (fail)
 generalize (((w.alloc (.cells thO1 40)).alloc (.cells thZ2 40)).alloc (.cells akZ1 134)) = w1 at *
 have hld : (loadVar 40 ⟨w.heap.size, 0, none⟩).run Try.prog w1 = .ok (.agg thO1) w1 := th_loadL2 (x := x1) (v := .slice none 0 0) HG.out
 refine wp_region_lit ?_
 go_wp2_with (first | refine wpList_load_known rfl _ _ rfl w.heap.size 0 rfl _ hld ?_)
 refine (HRT.out _ (HH.out _ HB.out)).mono ?_
 rintro e w2 ⟨rfl, hbm⟩
 replace HG := Lib.hid (HG.out.below hbm HG.out.lt)
 replace H4 := Lib.hid (H4.out.below hbm H4.out.lt)
 replace H5 := Lib.hid (H5.out.below hbm H5.out.lt)
 replace HB := Lib.hid (HB.out.trans (hbm.mono HB.out.size))
 clear hbm HRT hld
 have c13 := (HG.out.cell 13).trans (show _ = some (.slice none 0 0) from rfl)
 have cl := HG.out.lt
 go_wp2_with fail
 refine (HCL.out _).mono ?_
 rintro e w3 ⟨v, rfl, ho, hbm⟩
 obtain ⟨A', c', rfl, _⟩ := own_form2 ho
 replace HG := Lib.hid (HG.out.below hbm HG.out.lt)
 replace H4 := Lib.hid (H4.out.below hbm H4.out.lt)
 replace H5 := Lib.hid (H5.out.below hbm H5.out.lt)
 replace HB := Lib.hid (HB.out.trans (hbm.mono HB.out.size))
 clear hbm ho c13 cl HCL
 have c13 := (HG.out.cell 13).trans (show _ = some (.slice none 0 0) from rfl)
 have cl := HG.out.lt
 have cf := HG.out.free 13
 go_upto_region 4 with (fail)
 replace H4 := Lib.hid (H4.out.far (p := ⟨w.heap.size, 13, none⟩) (show w.heap.size + 1 ≠ w.heap.size by omega) (.slice A' 0 c'))
 replace H5 := Lib.hid (H5.out.far (p := ⟨w.heap.size, 13, none⟩) (show w.heap.size + 1 + 1 ≠ w.heap.size by omega) (.slice A' 0 c'))
 replace HB := Lib.hid (HB.out.setCell (p := ⟨w.heap.size, 13, none⟩) (Nat.le_refl _) (.slice A' 0 c'))
 have HG3 := Lib.hid (show Lies (w3.setCell ⟨w.heap.size, 13, none⟩ (.slice A' 0 c')) w.heap.size 40 (thV (.slice A' 0 c')) from HG.out.put 13 (.slice A' 0 c'))
 clear HG c13 cl cf
 generalize w3.setCell ⟨w.heap.size, 13, none⟩ (.slice A' 0 c') = w4 at *
 have c1 := (HG3.out.cell 1).trans (show _ = some (.int .i64 0) from rfl)
 have c3 := (HG3.out.cell 3).trans (show _ = some (.int .i64 0) from rfl)
 have cl := HG3.out.lt
 go_wp2_with fail
 refine (adv0 _ A c w.heap.size w4 hc1 hc2 HG3.out).mono ?_
 rintro e w9 ⟨rfl, rfl⟩
 clear c1 c3 cl
 go_wp2_with fail
 have HSN := Lib.hid (fun (q : World) (hq : Kept (twoRows (w.heap.size + 1) (w.heap.size + 1 + 1)) w4 q) => HG3.out.kept hq (fun (e : w.heap.size = _ ∨ w.heap.size = _) => by omega))
 have HBL := Lib.hid (fun (q : World) (hq : Kept (twoRows (w.heap.size + 1) (w.heap.size + 1 + 1)) w4 q) => HB.out.trans (hq.below HB.out.size (fun k hk (e : k = _ ∨ k = _) => by omega)))
 refine wp_region_rely (fun q => Kept (twoRows (w.heap.size + 1) (w.heap.size + 1 + 1)) w4 q) (rgV [some (.agg (thV (.slice A' 0 c'))), some (.slice A 1 c), some (.agg (thV (.slice A' 0 c'))), some (.agg akK1), none, none, some (.int .i64 0), none, none] (twF 4 5 7 8 (w.heap.size + 1) (w.heap.size + 1 + 1) 40 134 (thV (.slice A' 0 c')) akK1 thZ2 akZ1)) [some 27, some 28, some 29, some 30, none, none, some 6] [[], [], [], [1, 2], [0, 7], [3, 8], []] [[], [], [], [1, 2], [0, 1, 2, 7], [0, 1, 2, 3, 7, 8], [0, 1, 2, 3, 7, 8]] [[1, 2, 3, 7, 8], [0, 2, 4, 7, 8], [0, 1, 4, 7, 8], [0, 7, 8], [3, 8], [4], [4, 5]] [0, 1, 2, 3, 4, 5, 6] 9 (by kernel_rfl) (by kernel_rfl) (by kernel_rfl) (by kernel_rfl) ?rS ?rI ?rT ?rE
 case rS => exact Kept.drew _ _
 case rI =>
  intro j h1 h2
  have h1 : j < 9 := h1
  have h2 : 7 ≤ j := h2
  have hj : j = 7 ∨ j = 8 := by omega
  rcases hj with rfl | rfl
  ·exact H4.out.drewN 1
  ·exact H5.out.drewN 1
 case rT =>
  refine RelySteps.cons (RelyStep.mk [] [1, 2, 3, 7, 8] rfl rfl rfl (fun xv wS hS hV bq hb K hK => ?_)) ?_
  ·clear hV
   simp only [putsOf, List.foldl_cons, List.foldl_nil, List.getD_cons_zero, List.getD_cons_succ, List.getD_nil, cond_true, cond_false, Act.put, List.setIfInBounds_toArray, List.set_cons_zero, List.set_cons_succ] at hb
   subst hb
   rw [if_pos (by rfl)]
   have hl5 : (loadVar 40 ⟨w.heap.size, 0, none⟩).run Try.prog wS = .ok (.agg (thV (.slice A' 0 c'))) wS := th_loadL2 (x := x1) (v := .slice A' 0 c') (HSN.out _ hS)
   refine wp_load_known _ _ rfl w.heap.size 0 rfl _ hl5 ?_
   exact hK.out _ _ ⟨_, rfl, hS, rfl, AllP.same _⟩
  refine RelySteps.cons (RelyStep.mk [] [0, 2, 4, 7, 8] rfl rfl rfl (fun xv wS hS hV bq hb K hK => ?_)) ?_
  ·clear hV
   simp only [putsOf, List.foldl_cons, List.foldl_nil, List.getD_cons_zero, List.getD_cons_succ, List.getD_nil, cond_true, cond_false, Act.put, List.setIfInBounds_toArray, List.set_cons_zero, List.set_cons_succ] at hb
   subst hb
   rw [if_pos (by rfl)]
   go_wp2_with fail
   exact hK.out _ _ ⟨_, rfl, hS, rfl, AllP.same _⟩
  refine RelySteps.cons (RelyStep.mk [] [0, 1, 4, 7, 8] rfl rfl rfl (fun xv wS hS hV bq hb K hK => ?_)) ?_
  ·clear hV
   simp only [putsOf, List.foldl_cons, List.foldl_nil, List.getD_cons_zero, List.getD_cons_succ, List.getD_nil, cond_true, cond_false, Act.put, List.setIfInBounds_toArray, List.set_cons_zero, List.set_cons_succ] at hb
   subst hb
   rw [if_pos (by rfl)]
   have hl5 : (loadVar 40 ⟨w.heap.size, 0, none⟩).run Try.prog wS = .ok (.agg (thV (.slice A' 0 c'))) wS := th_loadL2 (x := x1) (v := .slice A' 0 c') (HSN.out _ hS)
   refine wp_load_known _ _ rfl w.heap.size 0 rfl _ hl5 ?_
   exact hK.out _ _ ⟨_, rfl, hS, rfl, AllP.same _⟩
  refine RelySteps.cons (RelyStep.mk [1, 2] [0, 7, 8] rfl rfl rfl (fun xv wS hS hV bq hb K hK => ?_)) ?_
  ·obtain ⟨h1, h2, _⟩ := hV
   have h1 : xv 1 = _ := h1
   have h2 : xv 2 = _ := h2
   simp only [putsOf, List.foldl_cons, List.foldl_nil, List.getD_cons_zero, List.getD_cons_succ, List.getD_nil, cond_true, cond_false, Act.put, List.setIfInBounds_toArray, List.set_cons_zero, List.set_cons_succ, h1, h2] at hb
   clear h1
   clear h2
   subst hb
   rw [if_pos (by rfl)]
   have HSS := Lib.hid hS
   clear hS
   go_wp2_with fail
   refine (req0 _ A c wS hc1 hc2).mono ?_
   rintro e w' ⟨rfl, hbm⟩
   have hk9 := Kept.of_below hbm
   exact hK.out _ _ ⟨_, rfl, HSS.out.trans (hk9.mono (T := twoRows (w.heap.size + 1) (w.heap.size + 1 + 1)) (fun _ _ e => e.elim)) (fun _ _ e => e), rfl, AllP.of _ (fun j hj u h => rgV_mono (twF_kept (fun e => e) (fun e => e) hk9) h)⟩
  refine RelySteps.cons (RelyStep.mk [0, 7] [3, 8] rfl rfl rfl (fun xv wS hS hV bq hb K hK => ?_)) ?_
  ·obtain ⟨h0, h7, _⟩ := hV
   have h0 : xv 0 = _ := h0
   simp only [putsOf, List.foldl_cons, List.foldl_nil, List.getD_cons_zero, List.getD_cons_succ, List.getD_nil, cond_true, cond_false, Act.put, List.setIfInBounds_toArray, List.set_cons_zero, List.set_cons_succ, h0] at hb
   clear h0
   generalize xv 7 = y7 at *
   subst hb
   rw [if_pos (by rfl)]
   have q7 : Lies wS (w.heap.size + 1) 40 thZ2 := h7
   have hk9 := kept_row2 (w := wS) (g := w.heap.size + 1) (thV (.slice A' 0 c'))
   refine wp_store_row _ _ _ rfl (w.heap.size + 1) (thV (.slice A' 0 c')) rfl rfl 40 thZ2 q7 infoTh2 rfl (thC_one2 (x := x1) (v := .slice A' 0 c') rfl) ?_
   exact hK.out _ _ ⟨undef, rfl, hS.trans (hk9.mono (T := twoRows (w.heap.size + 1) (w.heap.size + 1 + 1)) (fun _ _ e => .inl e)) (fun _ _ e => e), lies_row q7 _, AllP.of _ (fun j hj u h => rgV_mono (twF_kept4 (all_in (fun j => j != 4 && j != 7) rfl hj) (fun (e : w.heap.size + 1 + 1 = w.heap.size + 1) => by omega) hk9) h)⟩
  refine RelySteps.cons (RelyStep.mk [3, 8] [4] rfl rfl rfl (fun xv wS hS hV bq hb K hK => ?_)) ?_
  ·obtain ⟨h3, h8, _⟩ := hV
   have h3 : xv 3 = _ := h3
   simp only [putsOf, List.foldl_cons, List.foldl_nil, List.getD_cons_zero, List.getD_cons_succ, List.getD_nil, cond_true, cond_false, Act.put, List.setIfInBounds_toArray, List.set_cons_zero, List.set_cons_succ, h3] at hb
   clear h3
   generalize xv 8 = y8 at *
   subst hb
   rw [if_pos (by rfl)]
   have q8 : Lies wS (w.heap.size + 1 + 1) 134 akZ1 := h8
   have hk9 := kept_row2 (w := wS) (g := w.heap.size + 1 + 1) akK1
   refine wp_store_row _ _ _ rfl (w.heap.size + 1 + 1) akK1 rfl rfl 134 akZ1 q8 infoAk1 rfl akK1_one ?_
   exact hK.out _ _ ⟨undef, rfl, hS.trans (hk9.mono (T := twoRows (w.heap.size + 1) (w.heap.size + 1 + 1)) (fun _ _ e => .inr e)) (fun _ _ e => e), lies_row q8 _, AllP.of _ (fun j hj u h => rgV_mono (twF_kept5 (all_in (fun j => j != 5 && j != 8) rfl hj) (fun (e : w.heap.size + 1 = w.heap.size + 1 + 1) => by omega) hk9) h)⟩
  refine RelySteps.cons (RelyStep.mk [] [4, 5] rfl rfl rfl (fun xv wS hS hV bq hb K hK => ?_)) ?_
  ·clear hV
   simp only [putsOf, List.foldl_cons, List.foldl_nil, List.getD_cons_zero, List.getD_cons_succ, List.getD_nil, cond_true, cond_false, Act.put, List.setIfInBounds_toArray, List.set_cons_zero, List.set_cons_succ] at hb
   subst hb
   rw [if_pos (by rfl)]
   go_wp2_with fail
   exact hK.out _ _ ⟨_, rfl, hS, rfl, AllP.same _⟩
  exact RelySteps.nil
 case rE =>
  intro xv wE hS hV
  have h4 := hV 4 (by decide) (by decide)
  have h5 := hV 5 (by decide) (by decide)
  have h6 := hV 6 (by decide) (by decide)
  clear hV
  simp only [putsOf, List.foldl_cons, List.foldl_nil, List.getD_cons_zero, List.getD_cons_succ, List.getD_nil, cond_true, cond_false, Act.put, List.setIfInBounds_toArray, List.set_cons_zero, List.set_cons_succ]
  have h6 : xv 6 = _ := h6
  rw [h6]; clear h6
  generalize xv 0 = y0 at *
  generalize xv 1 = y1 at *
  generalize xv 2 = y2 at *
  generalize xv 3 = y3 at *
  generalize xv 4 = y4 at *
  generalize xv 5 = y5 at *
  have Q4 : Hid (Lies wE (w.heap.size + 1) 40 (thC x1 (.slice A' 0 c'))) := h4
  have Q5 : Hid (Lies wE (w.heap.size + 1 + 1) 134 akK1) := h5
  have HBZ := Lib.hid (HBL.out _ hS)
  clear hS h4 h5 HSN HBL H4 H5 HG3 HB
  have hl4 := th_loadL2 Q4.out
  have hl5 : (loadVar 134 ⟨w.heap.size + 1 + 1, 0, none⟩).run Try.prog wE = .ok (.agg akK1) wE := by
   refine run_loadVar_mid wE (w.heap.size + 1 + 1) 0 _ akK1.toList _ (fun j u hu => ?_) (show Try.prog.underlying 134 = some (.struct (Try.prog.fieldsOf 134)) by kernel_rfl) rfl infoAk1
   rw [Nat.zero_add, Q5.out.cell, ← hu, Array.getElem?_toList]
  go_wp2_with fail
  exact bodyPost_ret (res_cell3 rfl rfl rfl rfl hl4 hl5) rfl ⟨_, rfl, ⟨x1, A', c', rfl⟩, HBZ.out⟩
def BkS (T : TypeId) (i k m : Nat) (z0 : Array Value) (N : Nat) (x : Nat → Value) (L : Nat → Bool) (q : World) : Prop :=
 (L k = true → L i = true ∧ L m = true) ∧ (L i = true → ∃ g a, x i = .pointer (some ⟨g, 0, none⟩) ∧ N ≤ g ∧ Lies q g T a ∧ (L k = false → a = z0) ∧ (L k = true → x m = .agg a))
section
variable {T : TypeId} {i k m : Nat} {z0 : Array Value} {N : Nat} {x : Nat → Value} {L : Nat → Bool} {q q' : World}
theorem updL_ne {j a : Nat} (h : j ≠ a) : updL L a j = L j := by
 unfold updL
 rw [show (j == a) = false by rw [beq_eq_false_iff_ne]; exact h, Bool.false_or]
theorem updX_ne {j a : Nat} {v : Value} (h : j ≠ a) : updX x a v j = x j := by unfold updX; rw [if_neg h]
theorem updL_at {a : Nat} : updL L a a = true := by simp [updL]
theorem updX_at {a : Nat} {v : Value} : updX x a v a = v := by simp [updX]
theorem bk_none : BkS T i k m z0 N x (fun _ => false) q := ⟨(fun h => by cases h), fun h => by cases h⟩
theorem bk_kept {S : Nat → Prop} (h : BkS T i k m z0 N x L q) (hk : Kept S q q') (hS : ∀ g a, Lies q g T a → ¬ S g) : BkS T i k m z0 N x L q' := by
 refine ⟨h.1, fun hi => ?_⟩
 obtain ⟨g, a, h1, h2, h3, h4, h5⟩ := h.2 hi
 exact ⟨g, a, h1, h2, h3.kept hk (hS g a h3), h4, h5⟩
theorem bk_below (h : BkS T i k m z0 N x L q) (hb : Below q.heap.size q q') : BkS T i k m z0 N x L q' := bk_kept h (Kept.of_below hb) (fun _ _ _ e => e)
theorem bk_pure {j : Nat} {v : Value} (h : BkS T i k m z0 N x L q) (hj : (j != i && j != k) = true) (hL : L j = false) : BkS T i k m z0 N (updX x j v) (updL L j) q := by
 rw [Bool.and_eq_true, bne_iff_ne, bne_iff_ne] at hj
 unfold BkS
 rw [updL_ne (Ne.symm hj.1), updL_ne (Ne.symm hj.2), updX_ne (Ne.symm hj.1)]
 by_cases hm : m = j
 ·subst hm
  refine ⟨fun hk => ⟨(h.1 hk).1, updL_at⟩, fun hi => ?_⟩
  obtain ⟨g, a, h1, h2, h3, h4, h5⟩ := h.2 hi
  exact ⟨g, a, h1, h2, h3, h4, fun hk => by have := (h.1 hk).2; rw [hL] at this; cases this⟩
 ·rw [updL_ne hm, updX_ne hm]
  exact h
theorem bk_made (h : BkS T i k m z0 N x L q) (hL : L i = false) (hki : k ≠ i) (hmi : m ≠ i) (hN : N ≤ q.heap.size) : BkS T i k m z0 N (updX x i (.pointer (some ⟨q.heap.size, 0, none⟩))) (updL L i) (q.alloc (.cells z0 T)) := by
 unfold BkS
 rw [updL_at, updX_at, updL_ne hki, updL_ne hmi, updX_ne hmi]
 have hk : L k = false := by
  cases hk : L k with
  | false => rfl
  | true => have := (h.1 hk).1; rw [hL] at this; cases this
 rw [hk]
 exact ⟨(fun h => by cases h), fun _ => ⟨_, z0, rfl, hN, Lies.made _ _ _, fun _ => rfl, fun h => by cases h⟩⟩
theorem bk_open (h : BkS T i k m z0 N x L q) (hi : L i = true) (hk : L k = false) : ∃ g, x i = .pointer (some ⟨g, 0, none⟩) ∧ N ≤ g ∧ Lies q g T z0 := by
 obtain ⟨g, a, h1, h2, h3, h4, _⟩ := h.2 hi
 obtain rfl := h4 hk
 exact ⟨g, h1, h2, h3⟩
theorem bk_store {v : Value} {g : Nat} {a : Array Value} (hi : L i = true) (hm : L m = true) (hki : k ≠ i) (hmk : k ≠ m) (h1 : x i = .pointer (some ⟨g, 0, none⟩)) (h2 : N ≤ g) (h3 : Lies q g T z0) (hv : x m = .agg a) : BkS T i k m z0 N (updX x k v) (updL L k) (q.setRow g a) := by
 unfold BkS
 rw [updL_at, updL_ne (Ne.symm hki), updX_ne (Ne.symm hki), updL_ne (Ne.symm hmk), updX_ne (Ne.symm hmk)]
 exact ⟨fun _ => ⟨hi, hm⟩, fun _ => ⟨g, a, h1, h2, lies_row h3 a, (fun h => by cases h), fun _ => hv⟩⟩
theorem bk_done (h : BkS T i k m z0 N x L q) (hi : L i = true) (hk : L k = true) : ∃ g a, x i = .pointer (some ⟨g, 0, none⟩) ∧ N ≤ g ∧ Lies q g T a ∧ x m = .agg a := by
 obtain ⟨g, a, h1, h2, h3, _, h5⟩ := h.2 hi
 exact ⟨g, a, h1, h2, h3, h5 hk⟩
end
def lwS (w9 : World) (T U : TypeId) (i k m : Nat) (z : Array Value) (i2 k2 m2 : Nat) (z2 : Array Value) (x : Nat → Value) (L : Nat → Bool) (q : World) : Prop :=
 Below w9.heap.size w9 q ∧ BkS T i k m z w9.heap.size x L q ∧ BkS U i2 k2 m2 z2 w9.heap.size x L q
section
variable {w9 : World} {T U : TypeId} {i k m : Nat} {z : Array Value} {i2 k2 m2 : Nat} {z2 : Array Value} {x : Nat → Value} {L : Nat → Bool} {q q' : World} {j : Nat} {v : Value}
theorem lw_start : lwS w9 T U i k m z i2 k2 m2 z2 x (fun _ => false) (w9.drewN 1) := ⟨below_drewN (Below.refl _ _) 1, bk_none, bk_none⟩
theorem lw_pure (hj : (j != i && j != k && (j != i2 && j != k2)) = true) (h : lwS w9 T U i k m z i2 k2 m2 z2 x L q) (hL : L j = false := by assumption) : lwS w9 T U i k m z i2 k2 m2 z2 (updX x j v) (updL L j) q := by
 rw [Bool.and_eq_true] at hj
 exact ⟨h.1, bk_pure h.2.1 hj.1 hL, bk_pure h.2.2 hj.2 hL⟩
theorem lw_below (hj : (j != i && j != k && (j != i2 && j != k2)) = true) (h : lwS w9 T U i k m z i2 k2 m2 z2 x L q) (hb : Below q.heap.size q q') (hL : L j = false := by assumption) : lwS w9 T U i k m z i2 k2 m2 z2 (updX x j v) (updL L j) q' :=
 lw_pure hj ⟨h.1.trans (hb.mono h.1.size), bk_below h.2.1 hb, bk_below h.2.2 hb⟩ hL
theorem lw_made1 (hd : (k != i && m != i && (i != i2 && i != k2)) = true) (h : lwS w9 T U i k m z i2 k2 m2 z2 x L q) (hL : L i = false := by assumption) : lwS w9 T U i k m z i2 k2 m2 z2 (updX x i (.pointer (some ⟨q.heap.size, 0, none⟩))) (updL L i) (q.alloc (.cells z T)) := by
 simp only [Bool.and_eq_true, bne_iff_ne] at hd
 have hb : Below q.heap.size q (q.alloc (.cells z T)) := (Below.refl _ _).alloc (Nat.le_refl _) _
 exact ⟨h.1.trans (hb.mono h.1.size), bk_made h.2.1 hL hd.1.1 hd.1.2 h.1.size, bk_pure (bk_below h.2.2 hb) (by simp only [Bool.and_eq_true, bne_iff_ne]; exact hd.2) hL⟩
theorem lw_made2 (hd : (k2 != i2 && m2 != i2 && (i2 != i && i2 != k)) = true) (h : lwS w9 T U i k m z i2 k2 m2 z2 x L q) (hL : L i2 = false := by assumption) : lwS w9 T U i k m z i2 k2 m2 z2 (updX x i2 (.pointer (some ⟨q.heap.size, 0, none⟩))) (updL L i2) (q.alloc (.cells z2 U)) := by
 simp only [Bool.and_eq_true, bne_iff_ne] at hd
 have hb : Below q.heap.size q (q.alloc (.cells z2 U)) := (Below.refl _ _).alloc (Nat.le_refl _) _
 exact ⟨h.1.trans (hb.mono h.1.size), bk_pure (bk_below h.2.1 hb) (by simp only [Bool.and_eq_true, bne_iff_ne]; exact hd.2) hL, bk_made h.2.2 hL hd.1.1 hd.1.2 h.1.size⟩
theorem lw_store1 {g : Nat} {a : Array Value} (hd : (k != i && k != m && (k != i2 && k != k2)) = true) (h : lwS w9 T U i k m z i2 k2 m2 z2 x L q) (hi : L i = true) (hm : L m = true) (h1 : x i = .pointer (some ⟨g, 0, none⟩)) (h2 : w9.heap.size ≤ g) (h3 : Lies q g T z) (hv : x m = .agg a) (hTU : U ≠ T) (hL : L k = false := by assumption) : lwS w9 T U i k m z i2 k2 m2 z2 (updX x k v) (updL L k) (q.setRow g a) := by
 simp only [Bool.and_eq_true, bne_iff_ne] at hd
 have hk := kept_rowS (w := q) (g := g) (S := fun i => i = g) a rfl
 exact ⟨h.1.trans (hk.below h.1.size (fun i hi (e : i = g) => by omega)), bk_store hi hm hd.1.1 hd.1.2 h1 h2 h3 hv, bk_pure (bk_kept h.2.2 hk (fun g2 a2 hl (e : g2 = g) => by subst e; exact hTU (hl.same h3).1)) (by simp only [Bool.and_eq_true, bne_iff_ne]; exact hd.2) hL⟩
theorem lw_store2 {g : Nat} {a : Array Value} (hd : (k2 != i2 && k2 != m2 && (k2 != i && k2 != k)) = true) (h : lwS w9 T U i k m z i2 k2 m2 z2 x L q) (hi : L i2 = true) (hm : L m2 = true) (h1 : x i2 = .pointer (some ⟨g, 0, none⟩)) (h2 : w9.heap.size ≤ g) (h3 : Lies q g U z2) (hv : x m2 = .agg a) (hTU : T ≠ U) (hL : L k2 = false := by assumption) : lwS w9 T U i k m z i2 k2 m2 z2 (updX x k2 v) (updL L k2) (q.setRow g a) := by
 simp only [Bool.and_eq_true, bne_iff_ne] at hd
 have hk := kept_rowS (w := q) (g := g) (S := fun i => i = g) a rfl
 exact ⟨h.1.trans (hk.below h.1.size (fun i hi (e : i = g) => by omega)), bk_pure (bk_kept h.2.1 hk (fun g2 a2 hl (e : g2 = g) => by subst e; exact hTU (hl.same h3).1)) (by simp only [Bool.and_eq_true, bne_iff_ne]; exact hd.2) hL, bk_store hi hm hd.1.1 hd.1.2 h1 h2 h3 hv⟩
end
theorem lw_op {w9 : World} {T U : TypeId} {ia k m : Nat} {z : Array Value} {i2 k2 m2 : Nat} {z2 : Array Value} {x : Nat → Value} {L : Nat → Bool} {q : World} {i : Nat} {v : Value} (hj : (i != ia && i != k && (i != i2 && i != k2)) = true) (h : lwS w9 T U ia k m z i2 k2 m2 z2 x L q) (hL : L i = false := by assumption) : lwS w9 T U ia k m z i2 k2 m2 z2 (updX x i v) (updL L i) q := lw_pure hj h hL
def Bf.val (P : Value → Prop) : Bf := ⟨fun u _ => P u, fun _ _ _ _ h => h, true, fun _ _ _ _ h => h⟩
theorem F0At.facts {B F : Nat} {z : F0} {q : World} (h : F0At B F z q) : ∃ b A' c', z.Q = some ⟨b, 0, none⟩ ∧ 1 ≤ z.d ∧ z.d ≤ 9223372036854775807 ∧ b < q.heap.size ∧ (∀ q', Below q.heap.size q q' → q'.cell? ⟨b, 0, none⟩ = some (.slice A' 1 c') ∧ InsAt q' A' c' hl0) := by
 obtain ⟨_, vs, h2, h3⟩ := h.pg
 obtain ⟨A', c', e, ho⟩ := h3 0 hl0 rfl
 obtain ⟨g, cap, e2, _, hg, hc, hm, hcell⟩ := ownsRow_open h2 (by decide)
 simp only [Value.slice.injEq] at e2
 obtain ⟨e3, _, rfl⟩ := e2
 unfold maxLen at hm
 have hc0 := hcell 0 _ e
 refine ⟨g, A', c', e3, by exact hc, by omega, hg, fun q' hb => ⟨(hb.cell (p := ⟨g, 0, none⟩) hg).trans hc0, SeqS.of_owns (owned_below ho hb)⟩⟩
set_option maxHeartbeats 8000000 in
set_option maxRecDepth 100000 in
theorem gave0 (v : Value) (B F : Nat) (z : F0) (w : World) (h : F0At B F z w) : Calls Try.prog 52 #[.pointer (some ⟨F, 0, none⟩), .int .i64 0, .agg (thV v)] w fun e w' => e = .returned (.bool true) ∧ Below w.heap.size w w' := by
 have hb1 : Below w.heap.size w (w.alloc (.cells (thV v) 40)) := (Below.refl _ _).alloc (Nat.le_refl _) _
 have hb2 : Below w.heap.size w (w.alloc (.cells thO1 40)) := (Below.refl _ _).alloc (Nat.le_refl _) _
 have HL := Lib.hid (Lies.made w 40 thO1)
 have HB := Lib.hid hb2
 have HF := Lib.hid (h.later hb2)
 clear hb1 hb2 h
 go_enter Try.func52, Try.ntmps52
 go_upto_region 2 with (fail)
 generalize w.alloc (.cells thO1 40) = w1 at *
 obtain ⟨b, A', c', eQ, hd1, hd2, hbl, hfc⟩ := HF.out.facts
 obtain ⟨zA, zc, zQ, zd, zT, zS⟩ := z
 simp only at eQ hd1 hd2
 subst eQ
 have HFC := Lib.hid hfc
 have HC := Lib.hid (fun (q : World) (hq : Below w1.heap.size w1 q) => (HF.out.later hq).box)
 have HSN := Lib.hid (fun (q : World) (hq : Below w1.heap.size w1 q) => HL.out.below hq HL.out.lt)
 clear hfc
 obtain ⟨hc1', hc2'⟩ := seq_form (HFC.out w1 (Below.refl _ _)).2
 have hc1 : 1 ≤ c' := hc1'
 refine wp_region_relyx (lwS w1 40 134 14 16 11 thZ2 15 17 12 akZ1) (bfV [.eq (.pointer (some ⟨F, 0, none⟩)), .eq (.pointer (some ⟨F, 0, none⟩)), .eq (.pointer (some ⟨F, 0, none⟩)), .eq (.pointer (some ⟨F, 1, none⟩)), .eq (.slice (some ⟨b, 0, none⟩) 1 zd), .eq (.int .i64 0), .eq (.pointer (some ⟨b, 0, none⟩)), .eq (.slice A' 1 c'), .eq (.agg thO1), .val (fun u => ∃ x S d, u = .tuple #[.agg (thC x (.slice S 0 d)), .agg akK1, .int .i64 0]), .val (fun u => ∃ x S d, u = .tuple #[.agg (thC x (.slice S 0 d)), .agg akK1, .int .i64 0]), .val (fun u => ∃ x S d, u = .agg (thC x (.slice S 0 d))), .eq (.agg akK1), .eq (.int .i64 0), .any, .any, .any, .any, .any]) [some 12, some 13, some 14, some 15, some 16, some 17, some 18, some 19, some 20, some 21, some 11, some 22, some 23, some 24, some 7, some 8, none, none, some 9] [[], [0], [1], [2], [3], [], [4, 5], [6], [], [7, 8], [9], [10], [10], [10], [], [], [14, 11], [15, 12], [13]] [[], [0], [0, 1], [1, 2], [2, 3], [], [3, 4, 5], [4, 5, 6], [], [6, 7, 8], [7, 8, 9], [9], [9], [9], [], [], [0, 1, 2, 3, 4, 5, 6, 7, 8, 9, 11], [0, 1, 2, 3, 4, 5, 6, 7, 8, 9, 11], [0, 1, 2, 3, 4, 5, 6, 7, 8, 9, 10, 11, 13]] [[2, 3, 4, 5, 6, 7, 8, 9, 10, 11, 12, 13, 14, 15], [3, 4, 5, 6, 7, 8, 9, 10, 11, 12, 13, 14, 15], [4, 5, 6, 7, 8, 9, 10, 11, 12, 13, 14, 15], [5, 6, 7, 8, 9, 10, 11, 12, 13, 14, 15], [0, 5, 7, 8, 9, 10, 11, 12, 13, 14, 15], [0, 1, 2, 3, 4, 7, 8, 9, 10, 11, 12, 13, 14, 15], [0, 1, 8, 9, 10, 11, 12, 13, 14, 15], [0, 1, 2, 8, 10, 11, 12, 13, 14, 15], [0, 1, 2, 3, 4, 5, 6, 7, 10, 11, 12, 13, 14, 15], [0, 1, 2, 3, 11, 12, 13, 14, 15], [0, 1, 2, 3, 4, 5, 14, 15], [0, 1, 2, 3, 4, 5, 6, 10, 12, 13, 14, 15], [0, 1, 2, 3, 4, 5, 6, 10, 11, 13, 14, 15, 16], [0, 1, 2, 3, 4, 5, 6, 10, 11, 12, 14, 15, 16, 17], [0, 1, 2, 3, 4, 5, 6, 7, 8, 9, 10, 11, 12, 13, 15], [0, 1, 2, 3, 4, 5, 6, 7, 8, 9, 10, 11, 12, 13, 14], [10, 12, 13, 14, 15], [10, 12, 13, 14, 15, 16], [12, 14, 15, 16, 17]] [0, 1, 2, 3, 4, 5, 6, 7, 8, 9, 10, 11, 12, 13, 14, 15, 16, 17, 18] 19 (by kernel_rfl) (by kernel_rfl) (by kernel_rfl) (by kernel_rfl) ?rS (fun j h1 h2 => absurd (Nat.lt_of_lt_of_le h1 (Nat.le_trans (by decide) h2)) (Nat.lt_irrefl _)) ?rT ?rE
 case rS => exact lw_start
 case rT =>
  refine RelyStepsX.cons (RelyStepX.mk [] [2, 3, 4, 5, 6, 7, 8, 9, 10, 11, 12, 13, 14, 15] rfl rfl rfl (fun xv Lv wS hS hL hLd hV bq hb K hK => ?_)) ?_
  ·clear hV
   simp only [putsOf, List.foldl_cons, List.foldl_nil, List.getD_cons_zero, List.getD_cons_succ, List.getD_nil, cond_true, cond_false, Act.put, List.setIfInBounds_toArray, List.set_cons_zero, List.set_cons_succ] at hb
   subst hb
   rw [if_pos (by rfl)]
   go_wp2_with fail
   exact hK.out _ _ ⟨_, rfl, lw_op (i := 0) rfl hS, rfl, AllPX.same _⟩
  refine RelyStepsX.cons (RelyStepX.mk [0] [3, 4, 5, 6, 7, 8, 9, 10, 11, 12, 13, 14, 15] rfl rfl rfl (fun xv Lv wS hS hL hLd hV bq hb K hK => ?_)) ?_
  ·obtain ⟨h0, _⟩ := hV
   have h0 : xv 0 = _ := h0
   simp only [putsOf, List.foldl_cons, List.foldl_nil, List.getD_cons_zero, List.getD_cons_succ, List.getD_nil, cond_true, cond_false, Act.put, List.setIfInBounds_toArray, List.set_cons_zero, List.set_cons_succ, h0] at hb
   clear h0
   subst hb
   rw [if_pos (by rfl)]
   (have c9 := (HC.out _ hS.1).lt)
   go_wp2_with fail
   exact hK.out _ _ ⟨_, rfl, lw_op (i := 1) rfl hS, rfl, AllPX.same _⟩
  refine RelyStepsX.cons (RelyStepX.mk [1] [4, 5, 6, 7, 8, 9, 10, 11, 12, 13, 14, 15] rfl rfl rfl (fun xv Lv wS hS hL hLd hV bq hb K hK => ?_)) ?_
  ·obtain ⟨h1, _⟩ := hV
   have h1 : xv 1 = _ := h1
   simp only [putsOf, List.foldl_cons, List.foldl_nil, List.getD_cons_zero, List.getD_cons_succ, List.getD_nil, cond_true, cond_false, Act.put, List.setIfInBounds_toArray, List.set_cons_zero, List.set_cons_succ, h1] at hb
   clear h1
   subst hb
   rw [if_pos (by rfl)]
   (have c9 := (HC.out _ hS.1).lt)
   go_wp2_with fail
   exact hK.out _ _ ⟨_, rfl, lw_op (i := 2) rfl hS, rfl, AllPX.same _⟩
  refine RelyStepsX.cons (RelyStepX.mk [2] [5, 6, 7, 8, 9, 10, 11, 12, 13, 14, 15] rfl rfl rfl (fun xv Lv wS hS hL hLd hV bq hb K hK => ?_)) ?_
  ·obtain ⟨h2, _⟩ := hV
   have h2 : xv 2 = _ := h2
   simp only [putsOf, List.foldl_cons, List.foldl_nil, List.getD_cons_zero, List.getD_cons_succ, List.getD_nil, cond_true, cond_false, Act.put, List.setIfInBounds_toArray, List.set_cons_zero, List.set_cons_succ, h2] at hb
   clear h2
   subst hb
   rw [if_pos (by rfl)]
   (have c9 := (HC.out _ hS.1).lt)
   go_wp2_with fail
   exact hK.out _ _ ⟨_, rfl, lw_op (i := 3) rfl hS, rfl, AllPX.same _⟩
  refine RelyStepsX.cons (RelyStepX.mk [3] [0, 5, 7, 8, 9, 10, 11, 12, 13, 14, 15] rfl rfl rfl (fun xv Lv wS hS hL hLd hV bq hb K hK => ?_)) ?_
  ·obtain ⟨h3, _⟩ := hV
   have h3 : xv 3 = _ := h3
   simp only [putsOf, List.foldl_cons, List.foldl_nil, List.getD_cons_zero, List.getD_cons_succ, List.getD_nil, cond_true, cond_false, Act.put, List.setIfInBounds_toArray, List.set_cons_zero, List.set_cons_succ, h3] at hb
   clear h3
   subst hb
   rw [if_pos (by rfl)]
   (have c8 := ((HC.out _ hS.1).cell 1).trans (show _ = some (Value.slice (some ⟨b, 0, none⟩) 1 zd) from rfl); have c9 := (HC.out _ hS.1).lt)
   go_wp2_with fail
   exact hK.out _ _ ⟨_, rfl, lw_op (i := 4) rfl hS, rfl, AllPX.same _⟩
  refine RelyStepsX.cons (RelyStepX.mk [] [0, 1, 2, 3, 4, 7, 8, 9, 10, 11, 12, 13, 14, 15] rfl rfl rfl (fun xv Lv wS hS hL hLd hV bq hb K hK => ?_)) ?_
  ·clear hV
   simp only [putsOf, List.foldl_cons, List.foldl_nil, List.getD_cons_zero, List.getD_cons_succ, List.getD_nil, cond_true, cond_false, Act.put, List.setIfInBounds_toArray, List.set_cons_zero, List.set_cons_succ] at hb
   subst hb
   rw [if_pos (by rfl)]
   go_wp2_with fail
   exact hK.out _ _ ⟨_, rfl, lw_op (i := 5) rfl hS, rfl, AllPX.same _⟩
  refine RelyStepsX.cons (RelyStepX.mk [4, 5] [0, 1, 8, 9, 10, 11, 12, 13, 14, 15] rfl rfl rfl (fun xv Lv wS hS hL hLd hV bq hb K hK => ?_)) ?_
  ·obtain ⟨h4, h5, _⟩ := hV
   have h4 : xv 4 = _ := h4
   have h5 : xv 5 = _ := h5
   simp only [putsOf, List.foldl_cons, List.foldl_nil, List.getD_cons_zero, List.getD_cons_succ, List.getD_nil, cond_true, cond_false, Act.put, List.setIfInBounds_toArray, List.set_cons_zero, List.set_cons_succ, h4, h5] at hb
   clear h4
   clear h5
   subst hb
   rw [if_pos (by rfl)]
   (have c9 := Nat.lt_of_lt_of_le hbl hS.1.size)
   go_wp2_with fail
   exact hK.out _ _ ⟨_, rfl, lw_op (i := 6) rfl hS, rfl, AllPX.same _⟩
  refine RelyStepsX.cons (RelyStepX.mk [6] [0, 1, 2, 8, 10, 11, 12, 13, 14, 15] rfl rfl rfl (fun xv Lv wS hS hL hLd hV bq hb K hK => ?_)) ?_
  ·obtain ⟨h6, _⟩ := hV
   have h6 : xv 6 = _ := h6
   simp only [putsOf, List.foldl_cons, List.foldl_nil, List.getD_cons_zero, List.getD_cons_succ, List.getD_nil, cond_true, cond_false, Act.put, List.setIfInBounds_toArray, List.set_cons_zero, List.set_cons_succ, h6] at hb
   clear h6
   subst hb
   rw [if_pos (by rfl)]
   (have c8 := (HFC.out _ hS.1).1; have c9 := Nat.lt_of_lt_of_le hbl hS.1.size)
   go_wp2_with fail
   exact hK.out _ _ ⟨_, rfl, lw_op (i := 7) rfl hS, rfl, AllPX.same _⟩
  refine RelyStepsX.cons (RelyStepX.mk [] [0, 1, 2, 3, 4, 5, 6, 7, 10, 11, 12, 13, 14, 15] rfl rfl rfl (fun xv Lv wS hS hL hLd hV bq hb K hK => ?_)) ?_
  ·clear hV
   simp only [putsOf, List.foldl_cons, List.foldl_nil, List.getD_cons_zero, List.getD_cons_succ, List.getD_nil, cond_true, cond_false, Act.put, List.setIfInBounds_toArray, List.set_cons_zero, List.set_cons_succ] at hb
   subst hb
   rw [if_pos (by rfl)]
   have hl5 : (loadVar 40 ⟨w.heap.size, 0, none⟩).run Try.prog wS = .ok (.agg thO1) wS := th_loadL2 (x := x1) (v := .slice none 0 0) (HSN.out _ hS.1)
   have HSS := Lib.hid hS
   refine wp_load_known _ _ rfl w.heap.size 0 rfl _ hl5 ?_
   exact hK.out _ _ ⟨_, rfl, lw_op (i := 8) rfl HSS.out, rfl, AllPX.same _⟩
  refine RelyStepsX.cons (RelyStepX.mk [7, 8] [0, 1, 2, 3, 11, 12, 13, 14, 15] rfl rfl rfl (fun xv Lv wS hS hL hLd hV bq hb K hK => ?_)) ?_
  ·obtain ⟨h7, h8, _⟩ := hV
   have h7 : xv 7 = _ := h7
   have h8 : xv 8 = _ := h8
   simp only [putsOf, List.foldl_cons, List.foldl_nil, List.getD_cons_zero, List.getD_cons_succ, List.getD_nil, cond_true, cond_false, Act.put, List.setIfInBounds_toArray, List.set_cons_zero, List.set_cons_succ, h7, h8] at hb
   clear h7
   clear h8
   subst hb
   rw [if_pos (by rfl)]
   have HSS := Lib.hid hS
   have HNX := Lib.hid (next0 A' c' wS (HFC.out _ hS.1).2)
   clear hS
   go_wp2_with fail
   refine HNX.out.mono ?_
   rintro e w' ⟨u, rfl, ⟨x, S, d, rfl⟩, hbm⟩
   exact hK.out _ _ ⟨_, rfl, lw_below rfl HSS.out hbm, ⟨x, S, d, rfl⟩, AllPX.of _ (fun j _ _ h => bfV_below hbm h)⟩
  refine RelyStepsX.cons (RelyStepX.mk [9] [0, 1, 2, 3, 4, 5, 14, 15] rfl rfl rfl (fun xv Lv wS hS hL hLd hV bq hb K hK => ?_)) ?_
  ·obtain ⟨h9, _⟩ := hV
   simp only [putsOf, List.foldl_cons, List.foldl_nil, List.getD_cons_zero, List.getD_cons_succ, List.getD_nil, cond_true, cond_false, Act.put, List.setIfInBounds_toArray, List.set_cons_zero, List.set_cons_succ] at hb
   generalize hy9 : xv 9 = y9 at *
   subst hb
   rw [if_pos (by rfl)]
   have HSS := Lib.hid hS
   clear hS
   obtain ⟨x, S, d, rfl⟩ := h9
   go_wp2_with fail
   exact hK.out _ _ ⟨_, rfl, lw_pure rfl HSS.out, ⟨x, S, d, rfl⟩, AllPX.same _⟩
  refine RelyStepsX.cons (RelyStepX.mk [10] [0, 1, 2, 3, 4, 5, 6, 10, 12, 13, 14, 15] rfl rfl rfl (fun xv Lv wS hS hL hLd hV bq hb K hK => ?_)) ?_
  ·obtain ⟨h10, _⟩ := hV
   simp only [putsOf, List.foldl_cons, List.foldl_nil, List.getD_cons_zero, List.getD_cons_succ, List.getD_nil, cond_true, cond_false, Act.put, List.setIfInBounds_toArray, List.set_cons_zero, List.set_cons_succ] at hb
   generalize hy10 : xv 10 = y10 at *
   subst hb
   rw [if_pos (by rfl)]
   have HSS := Lib.hid hS
   clear hS
   obtain ⟨x, S, d, rfl⟩ := h10
   go_wp2_with fail
   exact hK.out _ _ ⟨_, rfl, lw_pure rfl HSS.out, ⟨x, S, d, rfl⟩, AllPX.same _⟩
  refine RelyStepsX.cons (RelyStepX.mk [10] [0, 1, 2, 3, 4, 5, 6, 10, 11, 13, 14, 15, 16] rfl rfl rfl (fun xv Lv wS hS hL hLd hV bq hb K hK => ?_)) ?_
  ·obtain ⟨h10, _⟩ := hV
   simp only [putsOf, List.foldl_cons, List.foldl_nil, List.getD_cons_zero, List.getD_cons_succ, List.getD_nil, cond_true, cond_false, Act.put, List.setIfInBounds_toArray, List.set_cons_zero, List.set_cons_succ] at hb
   generalize hy10 : xv 10 = y10 at *
   subst hb
   rw [if_pos (by rfl)]
   have HSS := Lib.hid hS
   clear hS
   obtain ⟨x, S, d, rfl⟩ := h10
   go_wp2_with fail
   exact hK.out _ _ ⟨_, rfl, lw_pure rfl HSS.out, rfl, AllPX.same _⟩
  refine RelyStepsX.cons (RelyStepX.mk [10] [0, 1, 2, 3, 4, 5, 6, 10, 11, 12, 14, 15, 16, 17] rfl rfl rfl (fun xv Lv wS hS hL hLd hV bq hb K hK => ?_)) ?_
  ·obtain ⟨h10, _⟩ := hV
   simp only [putsOf, List.foldl_cons, List.foldl_nil, List.getD_cons_zero, List.getD_cons_succ, List.getD_nil, cond_true, cond_false, Act.put, List.setIfInBounds_toArray, List.set_cons_zero, List.set_cons_succ] at hb
   generalize hy10 : xv 10 = y10 at *
   subst hb
   rw [if_pos (by rfl)]
   have HSS := Lib.hid hS
   clear hS
   obtain ⟨x, S, d, rfl⟩ := h10
   go_wp2_with fail
   exact hK.out _ _ ⟨_, rfl, lw_pure rfl HSS.out, rfl, AllPX.same _⟩
  refine RelyStepsX.cons (RelyStepX.mk [] [0, 1, 2, 3, 4, 5, 6, 7, 8, 9, 10, 11, 12, 13, 15] rfl rfl rfl (fun xv Lv wS hS hL hLd hV bq hb K hK => ?_)) ?_
  ·clear hV
   simp only [putsOf, List.foldl_cons, List.foldl_nil, List.getD_cons_zero, List.getD_cons_succ, List.getD_nil, cond_true, cond_false, Act.put, List.setIfInBounds_toArray, List.set_cons_zero, List.set_cons_succ] at hb
   subst hb
   rw [if_pos (by rfl)]
   have HSS := Lib.hid hS
   clear hS
   go_wp2_with fail
   have hbm := (Below.refl wS.heap.size wS).alloc (Nat.le_refl _) (.cells thZ2 40)
   exact hK.out _ _ ⟨_, rfl, lw_made1 rfl HSS.out, trivial, AllPX.of _ (fun j _ _ h => bfV_below hbm h)⟩
  refine RelyStepsX.cons (RelyStepX.mk [] [0, 1, 2, 3, 4, 5, 6, 7, 8, 9, 10, 11, 12, 13, 14] rfl rfl rfl (fun xv Lv wS hS hL hLd hV bq hb K hK => ?_)) ?_
  ·clear hV
   simp only [putsOf, List.foldl_cons, List.foldl_nil, List.getD_cons_zero, List.getD_cons_succ, List.getD_nil, cond_true, cond_false, Act.put, List.setIfInBounds_toArray, List.set_cons_zero, List.set_cons_succ] at hb
   subst hb
   rw [if_pos (by rfl)]
   have HSS := Lib.hid hS
   clear hS
   go_wp2_with fail
   have hbm := (Below.refl wS.heap.size wS).alloc (Nat.le_refl _) (.cells akZ1 134)
   exact hK.out _ _ ⟨_, rfl, lw_made2 rfl HSS.out, trivial, AllPX.of _ (fun j _ _ h => bfV_below hbm h)⟩
  refine RelyStepsX.cons (RelyStepX.mk [14, 11] [10, 12, 13, 14, 15] rfl rfl rfl (fun xv Lv wS hS hL hLd hV bq hb K hK => ?_)) ?_
  ·obtain ⟨h14, h11, _⟩ := hV
   simp only [putsOf, List.foldl_cons, List.foldl_nil, List.getD_cons_zero, List.getD_cons_succ, List.getD_nil, cond_true, cond_false, Act.put, List.setIfInBounds_toArray, List.set_cons_zero, List.set_cons_succ] at hb
   generalize hy14 : xv 14 = y14 at *
   generalize hy11 : xv 11 = y11 at *
   subst hb
   rw [if_pos (by rfl)]
   have HSS := Lib.hid hS
   clear hS
   obtain ⟨g, hg, hN, hl⟩ := bk_open HSS.out.2.1 (hLd 14 (by decide +kernel)) hL
   rw [hy14] at hg
   subst hg
   obtain ⟨x, A5, k5, e5⟩ := h11
   subst e5
   refine wp_store_row _ _ _ rfl g (thC x (.slice A5 0 k5)) rfl rfl 40 thZ2 hl infoTh2 rfl (thC_one2 rfl) ?_
   exact hK.out _ _ ⟨undef, rfl, lw_store1 rfl HSS.out (hLd 14 (by decide +kernel)) (hLd 11 (by decide +kernel)) hy14 hN hl hy11 (by decide), trivial, AllPX.of _ (fun j hj _ h => bfV_lit (by rfl) hj h)⟩
  refine RelyStepsX.cons (RelyStepX.mk [15, 12] [10, 12, 13, 14, 15, 16] rfl rfl rfl (fun xv Lv wS hS hL hLd hV bq hb K hK => ?_)) ?_
  ·obtain ⟨h15, h12, _⟩ := hV
   simp only [putsOf, List.foldl_cons, List.foldl_nil, List.getD_cons_zero, List.getD_cons_succ, List.getD_nil, cond_true, cond_false, Act.put, List.setIfInBounds_toArray, List.set_cons_zero, List.set_cons_succ] at hb
   generalize hy15 : xv 15 = y15 at *
   generalize hy12 : xv 12 = y12 at *
   subst hb
   rw [if_pos (by rfl)]
   have HSS := Lib.hid hS
   clear hS
   obtain ⟨g, hg, hN, hl⟩ := bk_open HSS.out.2.2 (hLd 15 (by decide +kernel)) hL
   rw [hy15] at hg
   subst hg
   have e7 : y12 = .agg akK1 := h12
   subst e7
   refine wp_store_row _ _ _ rfl g akK1 rfl rfl 134 akZ1 hl infoAk1 rfl akK1_one ?_
   exact hK.out _ _ ⟨undef, rfl, lw_store2 rfl HSS.out (hLd 15 (by decide +kernel)) (hLd 12 (by decide +kernel)) hy15 hN hl hy12 (by decide), trivial, AllPX.of _ (fun j hj _ h => bfV_lit (by rfl) hj h)⟩
  refine RelyStepsX.cons (RelyStepX.mk [13] [12, 14, 15, 16, 17] rfl rfl rfl (fun xv Lv wS hS hL hLd hV bq hb K hK => ?_)) ?_
  ·obtain ⟨h13, _⟩ := hV
   simp only [putsOf, List.foldl_cons, List.foldl_nil, List.getD_cons_zero, List.getD_cons_succ, List.getD_nil, cond_true, cond_false, Act.put, List.setIfInBounds_toArray, List.set_cons_zero, List.set_cons_succ] at hb
   generalize hy13 : xv 13 = y13 at *
   subst hb
   rw [if_pos (by rfl)]
   have HSS := Lib.hid hS
   clear hS
   go_wp2_with fail
   exact hK.out _ _ ⟨_, rfl, lw_pure rfl HSS.out, trivial, AllPX.same _⟩
  exact RelyStepsX.nil
 case rE =>
  intro xv Lv wE hS hLall hV
  have h12 := hV 12 (by decide) (by decide)
  have h14 := hV 14 (by decide) (by decide)
  have h15 := hV 15 (by decide) (by decide)
  have h16 := hV 16 (by decide) (by decide)
  have h17 := hV 17 (by decide) (by decide)
  have h18 := hV 18 (by decide) (by decide)
  clear hV
  obtain ⟨g2, a2, hx2, hN2, hl2, hv2⟩ := bk_done hS.2.2 (hLall 15 (by decide +kernel)) (hLall 17 (by decide +kernel))
  simp only [putsOf, List.foldl_cons, List.foldl_nil, List.getD_cons_zero, List.getD_cons_succ, List.getD_nil, cond_true, cond_false, Act.put, List.setIfInBounds_toArray, List.set_cons_zero, List.set_cons_succ]
  generalize xv 0 = y0 at *
  generalize xv 1 = y1 at *
  generalize xv 2 = y2 at *
  generalize xv 3 = y3 at *
  generalize xv 4 = y4 at *
  generalize xv 5 = y5 at *
  generalize xv 6 = y6 at *
  generalize xv 7 = y7 at *
  generalize xv 8 = y8 at *
  generalize xv 9 = y9 at *
  generalize xv 10 = y10 at *
  generalize xv 11 = y11 at *
  generalize xv 12 = y12 at *
  generalize xv 13 = y13 at *
  generalize xv 14 = y14 at *
  generalize xv 15 = y15 at *
  generalize xv 16 = y16 at *
  generalize xv 17 = y17 at *
  generalize xv 18 = y18 at *
  have hbm := hS.1
  subst hx2
  have e7 : y12 = .agg akK1 := h12
  rw [hv2] at e7
  injection e7 with e7
  subst e7
  have z0 := (hl2.cell 0).trans (show _ = some (.int .i64 8) from rfl)
  have zl := hl2.lt
  have HBE := Lib.hid (HB.out.trans (hbm.mono HB.out.size))
  clear hS hbm hLall hv2 hl2 h12 HFC HC HSN HF HL HB
  generalize wE = w4 at *
  go_wp2_with fail
  go_ret
  exact ⟨rfl, HBE.out⟩
def ThS (w9 : World) (F a b c : Nat) (u v s : Value) (i j k : Nat) (x : Nat → Value) (L : Nat → Bool) (q : World) : Prop :=
 (L k = true → L j = true) ∧ (L j = true → L i = true) ∧ q = if L k = true then (((w9.drewN 1).setCell ⟨F, a, none⟩ u).setCell ⟨F, b, none⟩ v).setCell ⟨F, c, none⟩ s else if L j = true then ((w9.drewN 1).setCell ⟨F, a, none⟩ u).setCell ⟨F, b, none⟩ v else if L i = true then (w9.drewN 1).setCell ⟨F, a, none⟩ u else w9.drewN 1
section
variable {w9 : World} {F a b c : Nat} {u v s : Value} {i j k j1 : Nat} {x : Nat → Value} {L : Nat → Bool} {q : World} {y : Value}
theorem ths_start : ThS w9 F a b c u v s i j k x (fun _ => false) (w9.drewN 1) := ⟨fun h => (Bool.false_ne_true h).elim, fun h => (Bool.false_ne_true h).elim, rfl⟩
theorem ths_op {i : Nat} (hi : (i != j1 && (i != j && i != k)) = true) (h : ThS w9 F a b c u v s j1 j k x L q) : ThS w9 F a b c u v s j1 j k (updX x i y) (updL L i) q := by
 rw [Bool.and_eq_true, bne_iff_ne, Bool.and_eq_true, bne_iff_ne, bne_iff_ne] at hi
 unfold ThS
 rw [pupdL_ne (Ne.symm hi.1), pupdL_ne (Ne.symm hi.2.1), pupdL_ne (Ne.symm hi.2.2)]
 exact h
theorem ths_kept (h : ThS w9 F a b c u v s i j k x L q) : Kept (oneRow F) w9 q := by
 obtain ⟨_, _, h3⟩ := h
 have k0 := Kept.drewN (oneRow F) w9 1
 have k1 := k0.trans (Kept.put _ F a u) (fun _ _ h => h)
 have k2 := k1.trans (Kept.put _ F b v) (fun _ _ h => h)
 have k3 := k2.trans (Kept.put _ F c s) (fun _ _ h => h)
 rw [h3]
 repeat' split
 ·exact k3
 ·exact k2
 ·exact k1
 ·exact k0
theorem ths_box {T : TypeId} {cs : Array Value} (h : ThS w9 F a b c u v s i j k x L q) (hl : Lies w9 F T cs) : ∃ cs', Lies q F T cs' ∧ cs'.size = cs.size := by
 obtain ⟨_, _, h3⟩ := h
 have l0 := hl.drewN 1
 have l1 := l0.put a u
 have l2 := l1.put b v
 have l3 := l2.put c s
 rw [h3]
 repeat' split
 ·exact ⟨_, l3, by simp⟩
 ·exact ⟨_, l2, by simp⟩
 ·exact ⟨_, l1, by simp⟩
 ·exact ⟨_, l0, rfl⟩
theorem ths_1 (h : ThS w9 F a b c u v s i j k x L q) (hd : (i != j && (i != k && j != k)) = true) (hL : L i = false := by assumption) : ThS w9 F a b c u v s i j k (updX x i y) (updL L i) (q.setCell ⟨F, a, none⟩ u) := by
 rw [Bool.and_eq_true, bne_iff_ne, Bool.and_eq_true, bne_iff_ne, bne_iff_ne] at hd
 obtain ⟨h1, h2, h3⟩ := h
 have j0 : L j = false := by rw [Bool.eq_false_iff]; intro e; rw [h2 e] at hL; cases hL
 have k0 : L k = false := by rw [Bool.eq_false_iff]; intro e; rw [h1 e] at j0; cases j0
 rw [k0, j0, hL] at h3
 unfold ThS
 rw [pupdL_self, pupdL_ne (Ne.symm hd.1), pupdL_ne (Ne.symm hd.2.1), j0, k0]
 exact ⟨fun h => (Bool.false_ne_true h).elim, fun _ => rfl, by rw [h3]; rfl⟩
theorem ths_2 (h : ThS w9 F a b c u v s i j k x L q) (hd : (i != j && (i != k && j != k)) = true) (hi : L i = true) (hL : L j = false := by assumption) : ThS w9 F a b c u v s i j k (updX x j y) (updL L j) (q.setCell ⟨F, b, none⟩ v) := by
 rw [Bool.and_eq_true, bne_iff_ne, Bool.and_eq_true, bne_iff_ne, bne_iff_ne] at hd
 obtain ⟨h1, h2, h3⟩ := h
 have k0 : L k = false := by rw [Bool.eq_false_iff]; intro e; rw [h1 e] at hL; cases hL
 rw [k0, hL, hi] at h3
 unfold ThS
 rw [pupdL_self, pupdL_ne hd.1, pupdL_ne (Ne.symm hd.2.2), hi, k0]
 exact ⟨fun h => (Bool.false_ne_true h).elim, fun _ => rfl, by rw [h3]; rfl⟩
theorem ths_3 (h : ThS w9 F a b c u v s i j k x L q) (hd : (i != j && (i != k && j != k)) = true) (hi : L i = true) (hj : L j = true) (hL : L k = false := by assumption) : ThS w9 F a b c u v s i j k (updX x k y) (updL L k) (q.setCell ⟨F, c, none⟩ s) := by
 rw [Bool.and_eq_true, bne_iff_ne, Bool.and_eq_true, bne_iff_ne, bne_iff_ne] at hd
 obtain ⟨h1, h2, h3⟩ := h
 rw [hL, hj] at h3
 unfold ThS
 rw [pupdL_self, pupdL_ne hd.2.1, pupdL_ne hd.2.2, hi, hj]
 exact ⟨fun _ => rfl, fun _ => rfl, by rw [h3]; rfl⟩
end
end Go.Proofs.Ytakggmfpgopcgaa
