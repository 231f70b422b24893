/-
  The document's Check and Right (layer 11).
-/
import Derived.Test.YteecfffgigaomaaRf11b
import Derived.Test.YteecfffgigaomaaChk3
import Derived.Test.YteecfffgigaomaaRely
namespace Go.Proofs.Yteecfffgigaomaa
open Go.RowKit
set_option linter.unusedVariables false
set_option linter.unusedSimpArgs false
def ckV (vp : Value) (b o n : Nat) (l : Value) (k len : Nat) (x : In) (E : Nat) : Nat → Value → World → Prop
  | 0, v, _ => v = vp
  | 1, v, _ => v = l
  | 2, v, _ => v = .int .i64 (k : Int)
  | 3, v, _ => v = .pointer (some ⟨b, o + k * 6, none⟩)
  | 4, v, _ => v = .agg (inC x)
  | 5, v, _ => v = l
  | 6, v, _ => v = .int .i64 (len : Int)
  | 7, v, _ => v = .int .i64 (E : Int)
  | 8, v, _ => v = .int .i64 (E : Int)
  | _, _, _ => True
theorem ckV_all {vp l : Value} {b o n k len E : Nat} {x : In} {w w' : World} {j : Nat} {u : Value} (h : ckV vp b o n l k len x E j u w) : ckV vp b o n l k len x E j u w' := by
  match j with
  | 0 => exact h
  | 1 => exact h
  | 2 => exact h
  | 3 => exact h
  | 4 => exact h
  | 5 => exact h
  | 6 => exact h
  | 7 => exact h
  | 8 => exact h
  | _ + 9 => trivial
set_option maxHeartbeats 8000000 in
set_option maxRecDepth 100000 in
theorem r11Check (p : Pg) (A : Option Addr) (c : Nat) (B : Option Addr) (d : Nat) (w : World) (h : PgAt w A c B d p) (hok : pgOk p) :
    Calls Try.prog 13 #[.agg (pgC A c B d p)] w fun e w' => e = .returned (.tuple #[.int .i64 (checkR p).1, .int .i64 (checkR p).2.1, .int .i64 ((checkR p).2.2 : Nat)]) ∧ Below w.heap.size w w' := by
  obtain ⟨hc1, hc2⟩ := seq_form h.1
  obtain ⟨hd1, hd2⟩ := h.2.form
  have hb0 : Below w.heap.size w (w.alloc (.cells (pgC A c B d p) 25)) := (Below.refl _ _).alloc (Nat.le_refl _) _
  have l0 := Lies.made w 25 (pgC A c B d p)
  have HH := Lib.hid h
  have HO := Lib.hid hok
  have HB0 := Lib.hid hb0
  have HL0 := Lib.hid l0
  have HE : Hid (checkR p = _) := show checkR p = _ by unfold checkR; rfl
  clear h hok hb0 l0
  by_cases h0 : p.ts.length = 0 ∨ 8 < p.ts.length ∨ 8 < p.rs.length
  · have HE0 : Hid (checkR p = (0, 0, 1)) := HE.out.trans (if_pos h0)
    clear HE
    obtain ⟨a1, ha1⟩ : ∃ a, ((p.ts.length : Int) == 0) = a := ⟨_, rfl⟩
    obtain ⟨a2, ha2⟩ : ∃ a, decide ((8 : Int) < (p.ts.length : Int)) = a := ⟨_, rfl⟩
    obtain ⟨a3, ha3⟩ : ∃ a, decide ((8 : Int) < (p.rs.length : Int)) = a := ⟨_, rfl⟩
    have hsome : a1 = true ∨ a1 = false ∧ a2 = true ∨ a1 = false ∧ a2 = false ∧ a3 = true := by
      rw [← ha1, ← ha2, ← ha3]
      simp only [beq_iff_eq, beq_eq_false_iff_ne, decide_eq_true_eq, decide_eq_false_iff_not]
      omega
    have HA1 := Lib.hid ha1
    have HA2 := Lib.hid ha2
    have HA3 := Lib.hid ha3
    clear ha1 ha2 ha3 h0
    rcases hsome with rfl | ⟨rfl, rfl⟩ | ⟨rfl, rfl, rfl⟩
    all_goals
      have ha1 := HA1.out
      have ha2 := HA2.out
      have ha3 := HA3.out
      go_enter Try.func13, Try.ntmps13
      go_wp2
      go_ret3
      exact ⟨ret_3 (by rw [HE0.out]) (by rw [HE0.out]) (by rw [HE0.out]; rfl), HB0.out⟩
  have HE1 := Lib.hid (HE.out.trans (if_neg h0))
  have ha1 : ((p.ts.length : Int) == 0) = false := by rw [beq_eq_false_iff_ne]; omega
  have ha2 : decide ((8 : Int) < (p.ts.length : Int)) = false := by simp; omega
  have ha3 : decide ((8 : Int) < (p.rs.length : Int)) = false := by simp; omega
  clear HE
  go_enter Try.func13, Try.ntmps13
  go_wp2_with fail
  generalize w.alloc (.cells (pgC A c B d p) 25) = w1 at *
  go_loopw [5] (fun u wr => ∃ i : Nat, i ≤ p.rs.length ∧ u = .int .i64 i ∧ Hid (riBad p.rs 0 = riBad (p.rs.drop i) i) ∧ Hid (Below w.heap.size w wr) ∧ Hid (Lies wr w.heap.size 25 (pgC A c B d p))) (fun u _ => p.rs.length - (intOf u).toNat)
  case atStart => exact ⟨0, by omega, rfl, rfl, HB0, HL0⟩
  case round =>
    clear HB0 HL0
    obtain ⟨i, hi, rfl, hq, hbw, hlw⟩ := hrel
    have c0 := (hlw.out.cell 0).trans (show _ = some (Value.slice A p.rs.length c) from rfl)
    have hlw1 := hlw.out.lt
    by_cases hlt : i < p.rs.length
    · have hii : (i : Int) < (p.rs.length : Int) := by omega
      obtain ⟨r, hr⟩ : ∃ r, p.rs[i]? = some r := ⟨_, List.getElem?_eq_getElem hlt⟩
      obtain ⟨b, off, rfl, hbl, hg⟩ := RisAt.at_ (HH.out.1.later hbw.out) hr
      have g0 := hg 0 _ (by decide) rfl
      have g1 := hg 1 _ (by decide) rfl
      have g2 := hg 2 _ (by decide) rfl
      rw [Nat.add_zero] at g0
      have HN := Lib.hid (hq.out.trans (riBad_next hr))
      clear hg hq hr
      go_wp2_with fail
      refine (r11Ring r _).mono ?_
      rintro e w4 ⟨rfl, hb4⟩
      have HB4 := Lib.hid (hbw.out.trans (hb4.mono hbw.out.size))
      have HL4 := Lib.hid (hlw.out.below hb4 hlw.out.lt)
      clear hb4 g0 g1 g2 c0 hlw1 hbw hlw
      by_cases hrb : ringB r = true
      · have HN2 := Lib.hid (HN.out.trans (if_pos hrb))
        rw [hrb]
        clear HN hrb
        go_wp2_with fail
        go_roundw
        case rel => exact ⟨i + 1, by omega, by go_num, HN2, HB4, HL4⟩
        case measure => simp [intOf]; omega
      · have HN2 := Lib.hid (HN.out.trans (if_neg hrb))
        have HE2 : Hid (checkR p = (-1, (i : Int), 7)) := HE1.out.trans (by rw [HN2.out])
        have hrb : ringB r = false := by simpa using hrb
        rw [hrb]
        clear HN HN2 hrb HE1
        go_wp2
        go_ret3
        exact ⟨ret_3 (by rw [HE2.out]) (by rw [HE2.out]) (by rw [HE2.out]; rfl), HB4.out⟩
    · obtain rfl : i = p.rs.length := by omega
      have hnone : riBad p.rs 0 = none := by rw [hq.out, List.drop_length]; rfl
      have HR := Lib.hid (riBad_none _ _ hnone)
      have HE2 := Lib.hid (HE1.out.trans (by rw [hnone]))
      clear hq hnone HE1 hlt hi
      go_wp2_with fail
      clear c0 hlw1
      go_loopw [6] (fun u wq => ∃ t : Nat, t ≤ p.ts.length ∧ u = .int .i64 t ∧ Hid (thBad p.rs p.ts 0 = thBad p.rs (p.ts.drop t) t) ∧ Hid (Below w.heap.size w wq) ∧ Hid (Lies wq w.heap.size 25 (pgC A c B d p))) (fun u _ => p.ts.length - (intOf u).toNat)
      case atStart => exact ⟨0, by omega, rfl, rfl, hbw, hlw⟩
      case round =>
        clear hbw hlw
        obtain ⟨t, ht, rfl, hq, hbw, hlw⟩ := hrel
        have c1 := (hlw.out.cell 1).trans (show _ = some (Value.slice B p.ts.length d) from rfl)
        have hlw1 := hlw.out.lt
        by_cases hlt : t < p.ts.length
        · have hii : (t : Int) < (p.ts.length : Int) := by omega
          obtain ⟨l, hl⟩ : ∃ l, p.ts[t]? = some l := ⟨_, List.getElem?_eq_getElem hlt⟩
          obtain ⟨b, off, B2, d2, rfl, g0, hil⟩ := (HH.out.2.later hbw.out).at_ hl
          obtain ⟨hc3, hc4⟩ := seq_form hil
          have HN := Lib.hid (hq.out.trans (thBad_next hl))
          have HIL := Lib.hid hil
          have HLO := Lib.hid (HO.out.2 l (List.mem_of_getElem? hl))
          clear hq hil hl
          by_cases h256 : 256 < l.length
          · have HN2 := Lib.hid (HN.out.trans (if_pos h256))
            have HE3 : Hid (checkR p = ((t : Int), 256, 4)) := HE2.out.trans (by rw [HN2.out]; rfl)
            have e1 : decide ((256 : Int) < (l.length : Int)) = true := by simp; omega
            clear HN HN2 HE2 h256
            go_wp2
            go_ret3
            exact ⟨ret_3 (by rw [HE3.out]) (by rw [HE3.out]) (by rw [HE3.out]; rfl), hbw.out⟩
          have HN2 := Lib.hid (HN.out.trans (if_neg h256))
          have e1 : decide ((256 : Int) < (l.length : Int)) = false := by simp; omega
          clear HN
          go_wp2_with fail
          clear c1 hlw1
          obtain ⟨wo, rfl⟩ : ∃ wo : World, wo = wr := ⟨_, rfl⟩
          go_loopw [8] (fun u wk => ∃ k : Nat, k ≤ l.length ∧ u = .int .i64 k ∧ Hid (inBad p.rs l.length l 0 = inBad p.rs l.length (l.drop k) k) ∧ Hid (Below wo.heap.size wo wk)) (fun u _ => l.length - (intOf u).toNat)
          case atStart => exact ⟨0, by omega, rfl, rfl, Below.refl _ _⟩
          case round =>
            obtain ⟨k, hk, rfl, hq, hbk⟩ := hrel
            have hbwk := Lib.hid (hbw.out.trans (hbk.out.mono hbw.out.size))
            have hlwk := Lib.hid (hlw.out.below hbk.out hlw.out.lt)
            by_cases hkl : k < l.length
            · have hkk : (k : Int) < (l.length : Int) := by omega
              obtain ⟨x, hx⟩ : ∃ x, l[k]? = some x := ⟨_, List.getElem?_eq_getElem hkl⟩
              obtain ⟨b3, off3, rfl, _, hg⟩ := InsAt.at_ (HIL.out.later hbk.out) hx
              have y0 := hg 0 _ (by decide) rfl
              have y1 := hg 1 _ (by decide) rfl
              have y2 := hg 2 _ (by decide) rfl
              have y3 := hg 3 _ (by decide) rfl
              have y4 := hg 4 _ (by decide) rfl
              have y5 := hg 5 _ (by decide) rfl
              rw [Nat.add_zero] at y0
              have HNX := Lib.hid (hq.out.trans (inBad_next hx))
              have HXO := Lib.hid (HLO.out x (List.mem_of_getElem? hx))
              have HX := Lib.hid hx
              clear hg hq hx
              go_wp2_with fail
              refine (rfRight x _ HXO.out).mono ?_
              rintro e w4 ⟨rfl, hb4⟩
              have HB4 := Lib.hid (hbk.out.trans (hb4.mono hbk.out.size))
              clear y0 y1 y2 y3 y4 y5 hb4 hbwk hlwk hbk
              by_cases hxr : rightB x = true
              · have HXR := Lib.hid hxr
                rw [hxr]
                clear hxr
                have HCB := Lib.hid (fun q (hq : Below wo.heap.size wo q) => (hlw.out.below hq hlw.out.lt))
                have HIN := Lib.hid (fun q (hq : Below wo.heap.size wo q) => InsAt.at_ (HIL.out.later hq) HX.out)
                go_wp2_with fail
                refine wp_region_rely (fun q => Below wo.heap.size wo q) (ckV (.agg (pgC A c (some ⟨b, off, none⟩) d p)) b3 off3 0 (.slice (some ⟨b3, off3, none⟩) l.length d2) k l.length x (instrE p.rs l.length x)) [some 68, some 69, some 70, some 71, some 72, some 73, some 74, some 75, some 9] [[], [], [], [1, 2], [3], [], [5], [0, 4, 6], [7]] [[], [], [], [1, 2], [1, 2, 3], [], [5], [0, 3, 4, 5, 6], [0, 1, 2, 3, 4, 5, 6, 7]] [[1, 2, 3, 4, 5, 6], [0, 2, 4, 5, 6, 7], [0, 1, 4, 5, 6, 7], [0, 5, 6, 7], [0, 5, 6], [0, 1, 2, 3, 4, 7], [0, 1, 2, 3, 4], [1, 2], []] [0, 1, 2, 3, 4, 5, 6, 7, 8] 9 (by kernel_rfl) (by kernel_rfl) (by kernel_rfl) (by kernel_rfl) ?rS (fun j h1 h2 => absurd (Nat.lt_of_lt_of_le h1 (Nat.le_trans (by decide) h2)) (Nat.lt_irrefl _)) ?rT ?rE
                case rS => exact below_drewN HB4.out 1
                case rT =>
                  refine RelySteps.cons (RelyStep.mk [] [1, 2, 3, 4, 5, 6] rfl rfl rfl (fun xv wS hS hV bq hb K hK => ?_)) ?_
                  · clear hV
                    simp only [putsOf, List.foldl_cons, List.foldl_nil, List.getD_cons_zero, List.getD_cons_succ, Act.put, List.setIfInBounds_toArray, List.set_cons_zero, List.set_cons_succ] at hb
                    subst hb
                    rw [if_pos (by rfl)]
                    (have q1 := HCB.out _ hS; have c0 := (q1.cell 0).trans (show _ = some (Value.slice A p.rs.length c) from rfl); have c1 := (q1.cell 1).trans (show _ = some (Value.slice (some ⟨b, off, none⟩) p.ts.length d) from rfl); have c2 := q1.lt; clear q1)
                    go_wp2_with fail
                    exact hK.out _ _ ⟨_, rfl, hS, rfl, AllP.same _⟩
                  refine RelySteps.cons (RelyStep.mk [] [0, 2, 4, 5, 6, 7] rfl rfl rfl (fun xv wS hS hV bq hb K hK => ?_)) ?_
                  · clear hV
                    simp only [putsOf, List.foldl_cons, List.foldl_nil, List.getD_cons_zero, List.getD_cons_succ, Act.put, List.setIfInBounds_toArray, List.set_cons_zero, List.set_cons_succ] at hb
                    subst hb
                    rw [if_pos (by rfl)]
                    go_wp2_with fail
                    exact hK.out _ _ ⟨_, rfl, hS, rfl, AllP.same _⟩
                  refine RelySteps.cons (RelyStep.mk [] [0, 1, 4, 5, 6, 7] rfl rfl rfl (fun xv wS hS hV bq hb K hK => ?_)) ?_
                  · clear hV
                    simp only [putsOf, List.foldl_cons, List.foldl_nil, List.getD_cons_zero, List.getD_cons_succ, Act.put, List.setIfInBounds_toArray, List.set_cons_zero, List.set_cons_succ] at hb
                    subst hb
                    rw [if_pos (by rfl)]
                    go_wp2_with fail
                    exact hK.out _ _ ⟨_, rfl, hS, rfl, AllP.same _⟩
                  refine RelySteps.cons (RelyStep.mk [1, 2] [0, 5, 6, 7] rfl rfl rfl (fun xv wS hS hV bq hb K hK => ?_)) ?_
                  · obtain ⟨h1, h2, _⟩ := hV
                    have h1 : xv 1 = _ := h1
                    have h2 : xv 2 = _ := h2
                    simp only [putsOf, List.foldl_cons, List.foldl_nil, List.getD_cons_zero, List.getD_cons_succ, Act.put, List.setIfInBounds_toArray, List.set_cons_zero, List.set_cons_succ, h1, h2] at hb
                    clear h1
                    clear h2
                    subst hb
                    rw [if_pos (by rfl)]
                    go_wp2_with fail
                    exact hK.out _ _ ⟨_, rfl, hS, rfl, AllP.same _⟩
                  refine RelySteps.cons (RelyStep.mk [3] [0, 5, 6] rfl rfl rfl (fun xv wS hS hV bq hb K hK => ?_)) ?_
                  · obtain ⟨h3, _⟩ := hV
                    have h3 : xv 3 = _ := h3
                    simp only [putsOf, List.foldl_cons, List.foldl_nil, List.getD_cons_zero, List.getD_cons_succ, Act.put, List.setIfInBounds_toArray, List.set_cons_zero, List.set_cons_succ, h3] at hb
                    clear h3
                    subst hb
                    rw [if_pos (by rfl)]
                    (obtain ⟨b4, off4, e4, _, hg⟩ := HIN.out _ hS; simp only [Option.some.injEq, Addr.mk.injEq, and_true] at e4; obtain ⟨rfl, rfl⟩ := e4; have y0 := hg 0 _ (by decide) rfl; have y1 := hg 1 _ (by decide) rfl; have y2 := hg 2 _ (by decide) rfl; have y3 := hg 3 _ (by decide) rfl; have y4 := hg 4 _ (by decide) rfl; have y5 := hg 5 _ (by decide) rfl; rw [Nat.add_zero] at y0; clear hg)
                    go_wp2_with fail
                    exact hK.out _ _ ⟨_, rfl, hS, rfl, AllP.same _⟩
                  refine RelySteps.cons (RelyStep.mk [] [0, 1, 2, 3, 4, 7] rfl rfl rfl (fun xv wS hS hV bq hb K hK => ?_)) ?_
                  · clear hV
                    simp only [putsOf, List.foldl_cons, List.foldl_nil, List.getD_cons_zero, List.getD_cons_succ, Act.put, List.setIfInBounds_toArray, List.set_cons_zero, List.set_cons_succ] at hb
                    subst hb
                    rw [if_pos (by rfl)]
                    go_wp2_with fail
                    exact hK.out _ _ ⟨_, rfl, hS, rfl, AllP.same _⟩
                  refine RelySteps.cons (RelyStep.mk [5] [0, 1, 2, 3, 4] rfl rfl rfl (fun xv wS hS hV bq hb K hK => ?_)) ?_
                  · obtain ⟨h5, _⟩ := hV
                    have h5 : xv 5 = _ := h5
                    simp only [putsOf, List.foldl_cons, List.foldl_nil, List.getD_cons_zero, List.getD_cons_succ, Act.put, List.setIfInBounds_toArray, List.set_cons_zero, List.set_cons_succ, h5] at hb
                    clear h5
                    subst hb
                    rw [if_pos (by rfl)]
                    go_wp2_with fail
                    exact hK.out _ _ ⟨_, rfl, hS, rfl, AllP.same _⟩
                  refine RelySteps.cons (RelyStep.mk [0, 4, 6] [1, 2] rfl rfl rfl (fun xv wS hS hV bq hb K hK => ?_)) ?_
                  · obtain ⟨h0, h4, h6, _⟩ := hV
                    have h0 : xv 0 = _ := h0
                    have h4 : xv 4 = _ := h4
                    have h6 : xv 6 = _ := h6
                    simp only [putsOf, List.foldl_cons, List.foldl_nil, List.getD_cons_zero, List.getD_cons_succ, Act.put, List.setIfInBounds_toArray, List.set_cons_zero, List.set_cons_succ, h0, h4, h6] at hb
                    clear h0
                    clear h4
                    clear h6
                    subst hb
                    have HCALL := Lib.hid (r11Instr p A c (some ⟨b, off, none⟩) d l.length x wS (HH.out.1.later (hbw.out.trans (hS.mono hbw.out.size))) HR.out HXR.out (by omega) HXO.out.2.2.2.2.2)
                    have HSS := Lib.hid hS
                    clear hS
                    rw [if_pos (by rfl)]
                    go_wp2_with fail
                    refine HCALL.out.mono ?_
                    rintro e w5 ⟨rfl, hb5⟩
                    exact hK.out _ _ ⟨_, rfl, HSS.out.trans (hb5.mono HSS.out.size), rfl, AllP.of _ (fun j _ u h => ckV_all h)⟩
                  refine RelySteps.cons (RelyStep.mk [7] [] rfl rfl rfl (fun xv wS hS hV bq hb K hK => ?_)) ?_
                  · obtain ⟨h7, _⟩ := hV
                    have h7 : xv 7 = _ := h7
                    simp only [putsOf, List.foldl_cons, List.foldl_nil, List.getD_cons_zero, List.getD_cons_succ, Act.put, List.setIfInBounds_toArray, List.set_cons_zero, List.set_cons_succ, h7] at hb
                    clear h7
                    subst hb
                    rw [if_pos (by rfl)]
                    go_wp2_with fail
                    exact hK.out _ _ ⟨_, rfl, hS, rfl, AllP.same _⟩
                  exact RelySteps.nil
                case rE =>
                  intro xv wE hS hV
                  have h8 := hV 8 (by decide) (by decide)
                  clear hV
                  simp only [putsOf, List.foldl_cons, List.foldl_nil, List.getD_cons_zero, List.getD_cons_succ, Act.put, List.setIfInBounds_toArray, List.set_cons_zero, List.set_cons_succ]
                  have h8 : xv 8 = _ := h8
                  rw [h8]; clear h8
                  generalize xv 0 = y0 at *
                  generalize xv 1 = y1 at *
                  generalize xv 2 = y2 at *
                  generalize xv 3 = y3 at *
                  generalize xv 4 = y4 at *
                  generalize xv 5 = y5 at *
                  generalize xv 6 = y6 at *
                  generalize xv 7 = y7 at *
                  have hSS := Lib.hid hS
                  clear HCB HIN hS HB4
                  by_cases he : instrE p.rs l.length x = 0
                  · have HNY := Lib.hid (HNX.out.trans (if_pos he))
                    have HB5 := Lib.hid (hbw.out.trans (hSS.out.mono hbw.out.size))
                    rw [he]
                    clear HNX he
                    go_wp2
                    go_roundw
                    case rel => exact ⟨k + 1, by omega, by go_num, HNY, hSS⟩
                    case measure => simp [intOf]; omega
                  · have HNY := Lib.hid (HNX.out.trans (if_neg he))
                    have HE3 : Hid (checkR p = ((t : Int), (k : Int), instrE p.rs l.length x)) := HE2.out.trans (by rw [HN2.out, HNY.out])
                    have hbx := Lib.hid (hbw.out.trans (hSS.out.mono hbw.out.size))
                    have e5 : (((instrE p.rs l.length x : Nat) : Int) != 0) = true := by rw [bne_iff_ne]; omega
                    clear HNX HNY HN2 HE2 he
                    generalize instrE p.rs l.length x = ee at *
                    go_wp2
                    go_ret3
                    exact ⟨ret_3 (by rw [HE3.out]) (by rw [HE3.out]) (by rw [HE3.out]), hbx.out⟩
              · have hxr : rightB x = false := by simpa using hxr
                have he : instrE p.rs l.length x = 6 := by unfold instrE; rw [if_pos hxr]
                have HNY := Lib.hid (HNX.out.trans (if_neg (by omega)))
                have HE3 : Hid (checkR p = ((t : Int), (k : Int), 6)) := HE2.out.trans (by rw [HN2.out, HNY.out, he])
                have hbx := Lib.hid (hbw.out.trans (HB4.out.mono hbw.out.size))
                rw [hxr]
                clear HNX HNY HN2 HE2 he hxr
                go_wp2
                go_ret3
                exact ⟨ret_3 (by rw [HE3.out]) (by rw [HE3.out]) (by rw [HE3.out]; rfl), hbx.out⟩
            · obtain rfl : k = l.length := by omega
              have hnone : inBad p.rs l.length l 0 = none := by rw [hq.out, List.drop_length]; rfl
              have HN3 := Lib.hid (HN2.out.trans (by rw [hnone]))
              clear hq hnone HN2
              go_wp2
              go_roundw
              case rel => exact ⟨t + 1, by omega, by go_num, HN3, hbwk, hlwk⟩
              case measure => simp [intOf]; omega
        · obtain rfl : t = p.ts.length := by omega
          have hnone : thBad p.rs p.ts 0 = none := by rw [hq.out, List.drop_length]; rfl
          have HE3 : Hid (checkR p = (0, 0, 0)) := HE2.out.trans (by rw [hnone])
          clear hq hnone HE2
          go_wp2
          go_ret3
          exact ⟨ret_3 (by rw [HE3.out]) (by rw [HE3.out]) (by rw [HE3.out]; rfl), hbw.out⟩
theorem r11Right (p : Pg) (A : Option Addr) (c : Nat) (B : Option Addr) (d : Nat) (w : World) (h : PgAt w A c B d p) (hok : pgOk p) : Calls Try.prog 18 #[.agg (pgC A c B d p)] w fun e w' => e = .returned (.bool (rightP p)) ∧ Below w.heap.size w w' := by
  have hb0 : Below w.heap.size w (w.alloc (.cells (pgC A c B d p) 25)) := (Below.refl _ _).alloc (Nat.le_refl _) _
  have HC := Lib.hid (r11Check p A c B d _ (h.later hb0) hok)
  have HB0 := Lib.hid hb0
  have HE : Hid (rightP p = ((checkR p).2.2 == 0)) := rfl
  clear h hok hb0
  go_enter Try.func18, Try.ntmps18
  go_wp2_with fail
  generalize w.alloc (.cells (pgC A c B d p) 25) = w1 at *
  refine HC.out.mono ?_
  rintro e w2 ⟨rfl, hb2⟩
  have hb2 := HB0.out.trans (hb2.mono HB0.out.size)
  generalize (checkR p).1 = r1 at *
  generalize (checkR p).2.1 = r2 at *
  generalize (checkR p).2.2 = r3 at *
  clear HC
  go_wp2
  go_ret
  exact ⟨ret_bool (by rw [HE.out, Bool.eq_iff_iff, beq_iff_eq, beq_iff_eq]; omega), hb2⟩
end Go.Proofs.Yteecfffgigaomaa
