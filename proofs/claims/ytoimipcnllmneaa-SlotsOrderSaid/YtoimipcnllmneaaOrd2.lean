import Derived.Test.YtoimipcnllmneaaOrd1
import Derived.Test.YtoimipcnllmneaaLaw2
namespace Go.Proofs.Ytoimipcnllmneaa
open Go.RowKit
set_option linter.unusedVariables false
set_option linter.unusedSimpArgs false
set_option maxHeartbeats 8000000 in
set_option maxRecDepth 100000 in
theorem order_walk (a0 a1 : Int) (a2 : Option Addr) (len2 cap2 : Nat) (ops : List Op4) (w : World) (w0 : (Lit.int .i64 a0).wf = true) (w1 : (Lit.int .i64 a1).wf = true) (ha : ArgOf opF 4 opOk w a2 len2 cap2 ops) :
    Calls Try.prog 4 #[.int .i64 a0, .int .i64 a1, .slice a2 len2 cap2] w fun e w' => e = .returned (.bool true) ∧ Below w.heap.size w w' := by
  obtain ⟨hn, rfl, hs, hok⟩ := ha
  have hlc := hs.form
  obtain ⟨A', c', e', hc1, hc2, _⟩ := hlc
  simp only [Value.slice.injEq, true_and] at e'
  obtain ⟨rfl, rfl⟩ := e'
  unfold maxLen at hc2
  obtain ⟨a, ha, hae⟩ := modK a0 64 (by decide) (by decide)
  obtain ⟨b, hb, hbe⟩ := modK a1 8 (by decide) (by decide)
  have hae : (IntKind.u64.wrap a0).tmod 64 = (a : Int) := hae
  have hbe : (IntKind.u64.wrap a1).tmod 8 = (b : Int) := hbe
  obtain ⟨p, hp⟩ : ∃ p, p = a + 1 := ⟨_, rfl⟩
  obtain ⟨r, hr⟩ : ∃ r, r = b + 1 := ⟨_, rfl⟩
  have hpe : 1 + (a : Int) = (p : Int) := by omega
  have hre : 1 + (b : Int) = (r : Int) := by omega
  have hp1 : 1 ≤ p := by omega
  have hp2 : p ≤ 64 := by omega
  have hr1 : 1 ≤ r := by omega
  have hr2 : r ≤ 8 := by omega
  have HS := Lib.hid hs
  have HOK := Lib.hid hok
  clear w0 w1 hp ha hr hb hs hok
  have hmm := @run_makeMap Try.prog
  go_enter Try.func4, Try.ntmps4
  by_cases h200 : ops.length ≤ 200
  · have hci : ¬ (200 : Int) < (ops.length : Int) := by omega
    go_wp2_with fail
    refine (awake_any w).mono ?_
    rintro e w1 ⟨rfl, hb1⟩
    go_wp2_with fail
    refine (slotsNew p r w1 hp1 hp2 hr1 hr2).mono ?_
    rintro e w3 ⟨rfl, hs3, hb3⟩
    have hbs1 := hb1.size
    have hg3 := hs3.lt
    have hb3 := hb1.trans (hb3.mono hb1.size)
    have hbs := hb3.size
    have hb4 := (hb3.alloc hbs (.map #[] 0)).alloc (by simp; omega) (.map #[] 0)
    have hbA : Below w3.heap.size w3 ((w3.alloc (.map #[] 0)).alloc (.map #[] 0)) := ((Below.refl _ _).alloc (Nat.le_refl _) _).alloc (by simp) _
    have hst : OrdAt w ((w3.alloc (.map #[] 0)).alloc (.map #[] 0)) w1.heap.size w3.heap.size (w3.heap.size + 1) 0 r (newS p) (fun _ => none) (fun _ _ => false) (.map []) (.map []) :=
      ⟨hs3.later hbA, (World.ownsMap_made w3 _ _ _).alloc _, by have := World.ownsMap_made (H := Unit) (w3.alloc (.map #[] 0)) Try.prog 39 (plainElem Try.prog 3); simpa using this, PutIs.empty, GotIs.empty, hb4, by omega⟩
    have HST := Lib.hid hst
    clear hst hs3 hb3 hb4 hbA hb1
    go_wp2_with fail
    generalize (w3.alloc (.map #[] 0)).alloc (.map #[] 0) = w4 at *
    generalize hbp : w3.heap.size = bp at *
    generalize hbg : bp + 1 = bg at *
    generalize w1.heap.size = g at *
    clear hbp hbg
    go_loopw [49] (fun u wr => ∃ (k : Nat) (L : List Sl) (Pf : Nat → Option Nat) (Gf : Int → Nat → Bool) (Dp Dg : DataW Unit), k ≤ ops.length ∧ u = .int .i64 k ∧ Hid (Ord r L Pf Gf) ∧ OrdAt w wr g bp bg k r L Pf Gf Dp Dg) (fun u _ => ops.length - (intOf u).toNat)
    case atStart => exact ⟨0, newS p, _, _, _, _, by omega, rfl, Ord.new p r hp1, HST.out⟩
    case round =>
      clear HST
      obtain ⟨k, L, Pf, Gf, Dp, Dg, hk, rfl, hord, hst⟩ := hrel
      by_cases hlt : k < ops.length
      · have hki : (k : Int) < (ops.length : Int) := by omega
        obtain ⟨x, hx⟩ : ∃ x, ops[k]? = some x := ⟨_, List.getElem?_eq_getElem hlt⟩
        have hxo := HOK.out x (List.mem_of_getElem? hx)
        obtain ⟨b, off, rfl, hbl, gx⟩ := SeqS.at_ opF_length (by decide) (HS.out.later hst.bel) hx
        have x0 := gx 0 _ (by decide) rfl
        have x1 := gx 1 _ (by decide) rfl
        have x2 := gx 2 _ (by decide) rfl
        have x3 := gx 3 _ (by decide) rfl
        rw [Nat.add_zero] at x0
        have hbA : Below wr.heap.size wr (wr.alloc (.cells #[.int .i64 x.k, .int .i64 x.j, .int .u64 (x.t : Int), .int .u64 (x.v : Int)] 39)) := (Below.refl _ _).alloc (Nat.le_refl _) _
        have lq := Lies.made wr 39 #[.int .i64 x.k, .int .i64 x.j, .int .u64 (x.t : Int), .int .u64 (x.v : Int)]
        have hst1 := hst.later hbA
        have hqg : wr.heap.size ≠ g := by have := hst.rg.lt; omega
        have hqb : wr.heap.size ≠ bg := by have := hst.mg.lt; omega
        have HST1 := Lib.hid hst1
        have LQ := Lib.hid lq
        obtain ⟨o1, o2, o3, o4, o5, o6⟩ := hxo
        have WT : Hid ((Lit.int .u64 (x.t : Int)).wf = true) := WalkArith.wf_u64 ⟨by omega, by omega⟩
        have WV : Hid ((Lit.int .u64 (x.v : Int)).wf = true) := WalkArith.wf_u64 ⟨by omega, by omega⟩
        have WJ : Hid ((Lit.int .i64 x.j).wf = true) := WalkArith.wf_i64 ⟨by omega, by omega⟩
        have HNE := Lib.hid hst1.ne
        have HO1 := Lib.hid hst1.rg.ok
        clear hst hbA hst1 lq gx hx hbl
        obtain ⟨kb, hkb⟩ : ∃ kb, (x.k.tmod 2 == 0) = kb := ⟨_, rfl⟩
        cases kb
        · have HD := Lib.hid (slotsGet x.j x.t HST1.out.rg rfl o5)
          go_wp2_with fail
          refine HD.out.mono ?_
          rintro e w5 ⟨rfl, hr5, hk5⟩
          have lq5 := LQ.out.kept hk5 hqg
          obtain ⟨e1, e2, e3, e4, e5, e6⟩ := HNE.out
          have hst5 : OrdAt w w5 g bp bg k r (getS r L x.j x.t) Pf Gf Dp Dg := ⟨hr5, ownsMap_kept HST1.out.mp hk5 e1, ownsMap_kept HST1.out.mg hk5 e2, HST1.out.pis, HST1.out.gis, HST1.out.bel.trans (hk5.below HST1.out.bel.size (fun j hj (e : j = g) => by omega)), HST1.out.ne⟩
          have HST5 := Lib.hid hst5
          have LQ5 := Lib.hid lq5
          clear hr5 hk5 lq5 HD HST1 LQ x0 x1 x2 x3 hqg e1 e2 e3 e4 e5 e6 hst5 hkb
          have c0 := (LQ5.out.cell 0).trans (show _ = some (Value.int .i64 x.k) from rfl)
          have c1 := (LQ5.out.cell 1).trans (show _ = some (Value.int .i64 x.j) from rfl)
          have c2 := (LQ5.out.cell 2).trans (show _ = some (Value.int .u64 (x.t : Int)) from rfl)
          have c3 := (LQ5.out.cell 3).trans (show _ = some (Value.int .u64 (x.v : Int)) from rfl)
          generalize wr.heap.size = q at *
          by_cases hE : getE r L x.j x.t = 0
          · obtain ⟨p1, p2, p3⟩ := hord.out.can hE
            have HO : Hid (Ord r (getS r L x.j x.t) Pf (fun i y => if i = x.j ∧ y = x.t then true else Gf i y)) := hord.out.getS HO1.out hE
            obtain ⟨u0, hlz, hu0⟩ := HST5.out.look x.t WT.out
            have hu0 : u0 = (getV r L x.j x.t : Nat) := by rw [p3]; exact hu0 _ p1
            subst hu0
            rw [p1] at hlz
            have hl0 : (Instr.lookup 35 (.map (some bp)) (.int .u64 (x.t : Int)) true).run Try.prog w5 = .ok (.tuple #[.int .u64 (getV r L x.j x.t : Nat), .bool true]) w5 := hlz
            clear hlz
            obtain ⟨hl1, st, w6, w7, hl2, hl3, hl4, hl5, hk7, D7, hst7⟩ := (HST5.out.later ((Below.refl _ _).drew)).bump x.j x.t WJ.out WT.out (by unfold maxLen; omega) p2
            have HST7 := Lib.hid hst7
            have lq7 := (LQ5.out.below ((Below.refl _ _).drew) LQ5.out.lt).kept hk7 hqb
            have d1 := (lq7.cell 1).trans (show _ = some (Value.int .i64 x.j) from rfl)
            have d2 := (lq7.cell 2).trans (show _ = some (Value.int .u64 (x.t : Int)) from rfl)
            rw [hE]
            clear hE hord p1 p2 p3 hst7 hk7 lq7
            generalize getV r L x.j x.t = V at *
            go_wp2
            go_region
            all_goals
              go_wp2
              go_roundw
              case rel => exact ⟨k + 1, _, Pf, _, Dp, _, by omega, by go_num, HO, HST7.out⟩
              case measure => simp [intOf]; omega
          · have hE0 : ¬ ((getE r L x.j x.t : Nat) : Int) = 0 := by omega
            have HSE : Hid (getS r L x.j x.t = L) := by show _ = _; unfold getS; rw [if_neg hE]
            generalize getE r L x.j x.t = E at *
            go_wp2
            go_roundw
            case rel => exact ⟨k + 1, getS r L x.j x.t, Pf, Gf, Dp, Dg, by omega, by go_num, by rw [HSE.out]; exact hord, ⟨HST5.out.rg, HST5.out.mp.mono (Nat.le_succ _), HST5.out.mg.mono (Nat.le_succ _), HST5.out.pis, HST5.out.gis, HST5.out.bel, HST5.out.ne⟩⟩
            case measure => simp [intOf]; omega
        · have HD := Lib.hid (slotsPut x.t x.v HST1.out.rg rfl o5 o6)
          go_wp2_with fail
          refine HD.out.mono ?_
          rintro e w5 ⟨rfl, hr5, hk5⟩
          have lq5 := LQ.out.kept hk5 hqg
          obtain ⟨e1, e2, e3, e4, e5, e6⟩ := HNE.out
          have hst5 : OrdAt w w5 g bp bg k r (putS r L x.t x.v) Pf Gf Dp Dg := ⟨hr5, ownsMap_kept HST1.out.mp hk5 e1, ownsMap_kept HST1.out.mg hk5 e2, HST1.out.pis, HST1.out.gis, HST1.out.bel.trans (hk5.below HST1.out.bel.size (fun j hj (e : j = g) => by omega)), HST1.out.ne⟩
          have HST5 := Lib.hid hst5
          have LQ5 := Lib.hid lq5
          clear hr5 hk5 lq5 HD HST1 LQ x0 x1 x2 x3 hqg e1 e2 e3 e4 e5 e6 hst5 hkb
          have c0 := (LQ5.out.cell 0).trans (show _ = some (Value.int .i64 x.k) from rfl)
          have c1 := (LQ5.out.cell 1).trans (show _ = some (Value.int .i64 x.j) from rfl)
          have c2 := (LQ5.out.cell 2).trans (show _ = some (Value.int .u64 (x.t : Int)) from rfl)
          have c3 := (LQ5.out.cell 3).trans (show _ = some (Value.int .u64 (x.v : Int)) from rfl)
          generalize wr.heap.size = q at *
          by_cases hE : putE L x.t = 0
          · have hPN := hord.out.fresh hE
            have HO : Hid (Ord r (putS r L x.t x.v) (fun y => if y = x.t then some x.v else Pf y) Gf) := hord.out.putS HO1.out.1 x.v hE
            obtain ⟨u0, hlz, _⟩ := HST5.out.look x.t WT.out
            rw [hPN] at hlz
            have hl0 : (Instr.lookup 35 (.map (some bp)) (.int .u64 (x.t : Int)) true).run Try.prog w5 = .ok (.tuple #[.int .u64 u0, .bool false]) w5 := hlz
            obtain ⟨b6, hl1, D6, hst6⟩ := HST5.out.put x.t x.v WT.out WV.out (by unfold maxLen; omega)
            have HST6 := Lib.hid hst6
            rw [hE]
            clear hE hord hlz hPN hst6
            go_wp2
            go_roundw
            case rel => exact ⟨k + 1, _, _, Gf, _, Dg, by omega, by go_num, HO, HST6.out⟩
            case measure => simp [intOf]; omega
          · have hE0 : ¬ ((putE L x.t : Nat) : Int) = 0 := by omega
            have HSE : Hid (putS r L x.t x.v = L) := by show _ = _; unfold putS; rw [if_neg hE]
            generalize putE L x.t = E at *
            go_wp2
            go_roundw
            case rel => exact ⟨k + 1, putS r L x.t x.v, Pf, Gf, Dp, Dg, by omega, by go_num, by rw [HSE.out]; exact hord, ⟨HST5.out.rg, HST5.out.mp.mono (Nat.le_succ _), HST5.out.mg.mono (Nat.le_succ _), HST5.out.pis, HST5.out.gis, HST5.out.bel, HST5.out.ne⟩⟩
            case measure => simp [intOf]; omega
      · obtain rfl : k = ops.length := by omega
        have HB := Lib.hid hst.bel
        clear hst hord
        go_wp2
        go_ret
        exact ⟨rfl, HB.out⟩
  · have hci : (200 : Int) < (ops.length : Int) := by omega
    go_wp2_with fail
    refine (awake_any w).mono ?_
    rintro e w1 ⟨rfl, hb1⟩
    go_wp2_with fail
    refine (awake_any w1).mono ?_
    rintro e w3 ⟨rfl, hb3⟩
    have hb3 := hb1.trans (hb3.mono hb1.size)
    go_wp2
    go_ret
    exact ⟨rfl, hb3⟩
end Go.Proofs.Ytoimipcnllmneaa
