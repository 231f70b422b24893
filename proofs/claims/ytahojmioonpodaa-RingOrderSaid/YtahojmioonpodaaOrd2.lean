import Derived.Test.YtahojmioonpodaaOrd1
import Derived.Deep.CutBlock
import Derived.Deep.DeepCutAuto
namespace Go.Proofs.Ytahojmioonpodaa
open Go.RowKit
set_option linter.unusedVariables false
set_option linter.unusedSimpArgs false
set_option maxHeartbeats 8000000 in
set_option maxRecDepth 100000 in
theorem order_walk (z : Rc) (a1 : Option Addr) (len1 cap1 : Nat) (ops : List Op5) (w : World) (hz : rcOk z) (ha : ArgOf op5F 4 op5Ok w a1 len1 cap1 ops) :
    Calls Try.prog 7 #[.agg #[.int .i64 z.k, .int .i64 z.c, .int .i64 z.r], .slice a1 len1 cap1] w fun e w' => e = .returned (.bool true) ∧ Below w.heap.size w w' := by
  obtain ⟨hn, rfl, hs, hok⟩ := ha
  have hlc := hs.form
  obtain ⟨A', c', e', hc1, hc2, _⟩ := hlc
  simp only [Value.slice.injEq, true_and] at e'
  obtain ⟨rfl, rfl⟩ := e'
  unfold maxLen at hc2
  have hb := (Below.refl w.heap.size w).alloc (Nat.le_refl _) (.cells #[.int .i64 z.k, .int .i64 z.c, .int .i64 z.r] 23)
  have lo := Lies.made w 23 #[.int .i64 z.k, .int .i64 z.c, .int .i64 z.r]
  have LO := Lib.hid lo
  have HB := Lib.hid hb
  have HS := Lib.hid hs
  have HOK := Lib.hid hok
  clear lo hb hs hok
  have hmm := @run_makeMap Try.prog
  go_enter Try.func7, Try.ntmps7
  go_wp2_with fail
  refine (awake_any _).mono ?_
  rintro e w1 ⟨rfl, hb1⟩
  have lo1 := LO.out.below hb1 LO.out.lt
  have hb1 := HB.out.trans (hb1.mono HB.out.size)
  have c0 := (lo1.cell 0).trans (show _ = some (Value.int .i64 z.k) from rfl)
  have c1 := (lo1.cell 1).trans (show _ = some (Value.int .i64 z.c) from rfl)
  have c2 := (lo1.cell 2).trans (show _ = some (Value.int .i64 z.r) from rfl)
  have LO1 := Lib.hid lo1
  clear lo1 LO HB
  by_cases h200 : ops.length ≤ 200
  · have hci : ¬ (200 : Int) < (ops.length : Int) := by omega
    go_wp2_with fail
    refine (refMay z.k z.c z.r _).mono ?_
    rintro e w2 ⟨rfl, hb2⟩
    have lo2 := LO1.out.below hb2 LO1.out.lt
    have hb2 := hb1.trans (hb2.mono hb1.size)
    have LO2 := Lib.hid lo2
    clear c0 c1 c2
    have c0 := (lo2.cell 0).trans (show _ = some (Value.int .i64 z.k) from rfl)
    have c1 := (lo2.cell 1).trans (show _ = some (Value.int .i64 z.c) from rfl)
    have c2 := (lo2.cell 2).trans (show _ = some (Value.int .i64 z.r) from rfl)
    clear lo2 LO1 hb1
    obtain ⟨mb, hmb⟩ : ∃ mb, mayB z.k z.c z.r = mb := ⟨_, rfl⟩
    rw [hmb]
    cases mb
    · clear hmb
      go_wp2_with fail
      refine (awake_any _).mono ?_
      rintro e w3 ⟨rfl, hb3⟩
      have hb3 := hb2.trans (hb3.mono hb2.size)
      go_wp2
      go_ret
      exact ⟨rfl, hb3⟩
    · obtain ⟨cap, hcap⟩ : ∃ n : Nat, z.c = n := ⟨z.c.toNat, by have := of_decide_eq_true hmb; omega⟩
      obtain ⟨rd, hrd⟩ : ∃ n : Nat, z.r = n := ⟨z.r.toNat, by have := of_decide_eq_true hmb; omega⟩
      have hmb := of_decide_eq_true hmb
      have n1 : 1 ≤ cap := by omega
      have n2 : cap ≤ 64 := by omega
      have n3 : 1 ≤ rd := by omega
      have n4 : rd ≤ 8 := by omega
      have n5 : z.k = 1 ∧ rd = 1 ∨ z.k = 2 := by omega
      have HN := Lib.hid (fun w => rgNew z.k cap rd w n1 n2 n3 n4 n5)
      rw [← hcap, ← hrd] at HN
      clear hmb n5 hcap hrd
      go_wp2_with fail
      refine (HN.out _).mono ?_
      rintro e w3 ⟨g, rfl, hg, hr3, hb3⟩
      have hg0 := Nat.lt_of_lt_of_le LO2.out.lt hg
      have hb3 := hb2.trans (hb3.mono hb2.size)
      have hbs := hb3.size
      have hg3 := hr3.lt
      have hb4 := (hb3.alloc hbs (.map #[] 0)).alloc (by simp; omega) (.map #[] 0)
      have hbA : Below w3.heap.size w3 ((w3.alloc (.map #[] 0)).alloc (.map #[] 0)) := ((Below.refl _ _).alloc (Nat.le_refl _) _).alloc (by simp) _
      have hst : OrdAt w ((w3.alloc (.map #[] 0)).alloc (.map #[] 0)) g w3.heap.size (w3.heap.size + 1) 0 (newR cap rd) (fun _ => none) (fun _ _ => false) (.map []) (.map []) :=
        ⟨hr3.later hbA, (World.ownsMap_made w3 _ _ _).alloc _, by have := World.ownsMap_made (H := Unit) (w3.alloc (.map #[] 0)) Try.prog 51 (plainElem Try.prog 3); simpa using this, PutIs.empty, GotIs.empty, hb4, by omega⟩
      have HST := Lib.hid hst
      clear hst hr3 hb3 hb4 hbA HN LO2 hb2 hg c0 c1 c2
      go_wp2_with fail
      generalize (w3.alloc (.map #[] 0)).alloc (.map #[] 0) = w4 at *
      generalize hbp : w3.heap.size = bp at *
      generalize hbg : bp + 1 = bg at *
      clear hbp hbg
      go_loopw [41] (fun u wr => ∃ (k : Nat) (R : Rg) (Pf : Nat → Option Nat) (Gf : Int → Nat → Bool) (Dp Dg : DataW Unit), k ≤ ops.length ∧ u = .int .i64 k ∧ R.tail ≤ k ∧ Hid (Ord R.rd R.L Pf Gf) ∧ OrdAt w wr g bp bg k R Pf Gf Dp Dg) (fun u _ => ops.length - (intOf u).toNat)
      case atStart => exact ⟨0, newR cap rd, _, _, _, _, by omega, rfl, Nat.le_refl _, Ord.new cap rd n1, HST.out⟩
      case round =>
        clear HST
        obtain ⟨k, R, Pf, Gf, Dp, Dg, hk, rfl, htl, hord, hst⟩ := hrel
        by_cases hlt : k < ops.length
        · have hki : (k : Int) < (ops.length : Int) := by omega
          obtain ⟨x, hx⟩ : ∃ x, ops[k]? = some x := ⟨_, List.getElem?_eq_getElem hlt⟩
          have hxo := HOK.out x (List.mem_of_getElem? hx)
          obtain ⟨b, off, rfl, hbl, gx⟩ := SeqS.at_ op5F_length (by decide) (HS.out.later hst.bel) hx
          have x0 := gx 0 _ (by decide) rfl
          have x1 := gx 1 _ (by decide) rfl
          have x2 := gx 2 _ (by decide) rfl
          have x3 := gx 3 _ (by decide) rfl
          rw [Nat.add_zero] at x0
          have hbA : Below wr.heap.size wr (wr.alloc (.cells #[.int .i64 x.k, .int .i64 x.j, .int .u64 (x.t : Int), .int .u64 (x.v : Int)] 51)) := (Below.refl _ _).alloc (Nat.le_refl _) _
          have lq := Lies.made wr 51 #[.int .i64 x.k, .int .i64 x.j, .int .u64 (x.t : Int), .int .u64 (x.v : Int)]
          have hst1 := hst.later hbA
          have hqg : wr.heap.size ≠ g := by have := hst.rg.lt; omega
          have hqb : wr.heap.size ≠ bg := by have := hst.mg.lt; omega
          have HST1 := Lib.hid hst1
          have LQ := Lib.hid lq
          have HD := Lib.hid (doAny x hst1.rg rfl hxo (by omega))
          have HXO := Lib.hid hxo
          clear hst hbA hst1 lq gx hx hxo hbl
          go_wp2_with fail
          refine HD.out.mono ?_
          rintro e w5 ⟨rfl, hr5, hk5⟩
          have lq5 := LQ.out.kept hk5 hqg
          obtain ⟨e1, e2, e3, e4, e5, e6⟩ := HST1.out.ne
          have hst5 : OrdAt w w5 g bp bg k (doR R x) Pf Gf Dp Dg := ⟨hr5, ownsMap_kept HST1.out.mp hk5 e1, ownsMap_kept HST1.out.mg hk5 e2, HST1.out.pis, HST1.out.gis, HST1.out.bel.trans (hk5.below HST1.out.bel.size (fun j hj (e : j = g) => by omega)), HST1.out.ne⟩
          have hrk := HST1.out.rg.1
          have ht2 := doR_tail R x
          have HST5 := Lib.hid hst5
          have LQ5 := Lib.hid lq5
          clear hr5 hk5 lq5 HD HST1 LQ x0 x1 x2 x3 hqg e1 e2 e3 e4 e5 e6 hst5
          have c0 := (LQ5.out.cell 0).trans (show _ = some (Value.int .i64 x.k) from rfl)
          have c1 := (LQ5.out.cell 1).trans (show _ = some (Value.int .i64 x.j) from rfl)
          have c2 := (LQ5.out.cell 2).trans (show _ = some (Value.int .u64 (x.t : Int)) from rfl)
          have c3 := (LQ5.out.cell 3).trans (show _ = some (Value.int .u64 (x.v : Int)) from rfl)
          obtain ⟨o1, o2, o3, o4, o5, o6⟩ := HXO.out
          have wt : (Lit.int .u64 (x.t : Int)).wf = true := WalkArith.wf_u64 ⟨by omega, by omega⟩
          have wv : (Lit.int .u64 (x.v : Int)).wf = true := WalkArith.wf_u64 ⟨by omega, by omega⟩
          have wj : (Lit.int .i64 x.j).wf = true := WalkArith.wf_i64 ⟨by omega, by omega⟩
          have WT := Lib.hid wt
          have WV := Lib.hid wv
          have WJ := Lib.hid wj
          clear wt wv wj
          generalize wr.heap.size = q at *
          by_cases hE : doE R x = 0
          · have hE0 : ((doE R x : Nat) : Int) = 0 := by omega
            rcases doK_cases x with ⟨e, k0⟩ | ⟨e, k0, k1⟩ | ⟨e, k0, k1, k2⟩ | ⟨e, k0, k1, k2, k3⟩ | ⟨e, k0, k1, k2, k3⟩
            · have k1' : kk x.k ≠ 1 := by have := doK_cases x; omega
              have k3' : kk x.k ≠ 3 := by have := doK_cases x; omega
              have hq1 : (wrap64 ((IntKind.u64.wrap x.k).tmod 5) == 1) = false := by rw [beq_eq_false_iff_ne]; exact k1'
              have hq3 : (wrap64 ((IntKind.u64.wrap x.k).tmod 5) == 3) = false := by rw [beq_eq_false_iff_ne]; exact k3'
              have HO : Hid (Ord (doR R x).rd (doR R x).L Pf Gf) := by show Ord _ _ _ _; rw [doR_L (.inr ⟨by omega, by omega⟩), (doR_rd R x).1]; exact hord.out
              rw [hE]
              clear hE hE0 hord k1' k3' e k0
              go_wp2
              go_roundw
              case rel => exact ⟨k + 1, doR R x, Pf, Gf, Dp, Dg, by omega, by go_num, by omega, HO, ⟨HST5.out.rg, HST5.out.mp.mono (Nat.le_succ _), HST5.out.mg.mono (Nat.le_succ _), HST5.out.pis, HST5.out.gis, HST5.out.bel, HST5.out.ne⟩⟩
              case measure => simp [intOf]; omega
            · obtain ⟨f1, f2, f3⟩ := doE_pub (R := R) e
              have hp := f1.symm.trans hE
              obtain ⟨g1, g2⟩ := pubE_ok x.v hp
              have hPN := hord.out.fresh g1
              have HO : Hid (Ord (doR R x).rd (doR R x).L (fun y => if y = x.t then some x.v else Pf y) Gf) := by show Ord _ _ _ _; rw [f2, g2]; exact hord.out.putS hrk.2.1.1 x.v g1
              have hq1 : (wrap64 ((IntKind.u64.wrap x.k).tmod 5) == 1) = true := by rw [beq_iff_eq]; exact k1
              obtain ⟨u0, hl0, _⟩ := HST5.out.look x.t WT.out
              rw [hPN] at hl0
              have hl0 : (Instr.lookup 60 (.map (some bp)) (.int .u64 (x.t : Int)) true).run Try.prog w5 = .ok (.tuple #[.int .u64 u0, .bool false]) w5 := hl0
              obtain ⟨b6, hl1, D6, hst6⟩ := HST5.out.put x.t x.v WT.out WV.out (by unfold maxLen; omega)
              have HST6 := Lib.hid hst6
              rw [hE]
              clear hE hE0 hord f1 f2 f3 hp g1 g2 hPN e k0 k1 hst6
              go_wp2
              go_roundw
              case rel => exact ⟨k + 1, doR R x, _, Gf, _, Dg, by omega, by go_num, by omega, HO, HST6.out⟩
              case measure => simp [intOf]; omega
            · have k1' : kk x.k ≠ 1 := by have := doK_cases x; omega
              have k3' : kk x.k ≠ 3 := by have := doK_cases x; omega
              have hq1 : (wrap64 ((IntKind.u64.wrap x.k).tmod 5) == 1) = false := by rw [beq_eq_false_iff_ne]; exact k1'
              have hq3 : (wrap64 ((IntKind.u64.wrap x.k).tmod 5) == 3) = false := by rw [beq_eq_false_iff_ne]; exact k3'
              have HO : Hid (Ord (doR R x).rd (doR R x).L Pf Gf) := by show Ord _ _ _ _; rw [doR_L (.inr ⟨by omega, by omega⟩), (doR_rd R x).1]; exact hord.out
              rw [hE]
              clear hE hE0 hord k1' k3' e k0
              go_wp2
              go_roundw
              case rel => exact ⟨k + 1, doR R x, Pf, Gf, Dp, Dg, by omega, by go_num, by omega, HO, ⟨HST5.out.rg, HST5.out.mp.mono (Nat.le_succ _), HST5.out.mg.mono (Nat.le_succ _), HST5.out.pis, HST5.out.gis, HST5.out.bel, HST5.out.ne⟩⟩
              case measure => simp [intOf]; omega
            · obtain ⟨f1, f2, f3⟩ := doE_rel (R := R) e
              have hp := f1.symm.trans hE
              obtain ⟨g1, g2, g3⟩ := relE_ok hp
              obtain ⟨p1, p2, p3⟩ := hord.out.can g1
              have HO : Hid (Ord (doR R x).rd (doR R x).L Pf (fun i y => if i = x.j ∧ y = x.t then true else Gf i y)) := by show Ord _ _ _ _; rw [f2, g2]; exact hord.out.getS hrk.2.1 g1
              have hq1 : (wrap64 ((IntKind.u64.wrap x.k).tmod 5) == 1) = false := by rw [beq_eq_false_iff_ne]; exact k1
              have hq3 : (wrap64 ((IntKind.u64.wrap x.k).tmod 5) == 3) = true := by rw [beq_iff_eq]; exact k3
              have hV : doV R x = (slX R.L x.t).v := f3.trans (g3.trans p3)
              obtain ⟨u0, hlz, hu0⟩ := HST5.out.look x.t WT.out
              have hu0 : u0 = (doV R x : Nat) := by rw [hV]; exact hu0 _ p1
              subst hu0
              rw [p1] at hlz
              have hl0 : (Instr.lookup 60 (.map (some bp)) (.int .u64 (x.t : Int)) true).run Try.prog w5 = .ok (.tuple #[.int .u64 (doV R x : Nat), .bool true]) w5 := hlz
              clear hlz
              obtain ⟨hl1, st, w6, w7, hl2, hl3, hl4, hl5, hk7, D7, hst7⟩ := (HST5.out.later ((Below.refl _ _).drew)).bump x.j x.t WJ.out WT.out (by unfold maxLen; omega) p2
              have HST7 := Lib.hid hst7
              have lq7 := (LQ5.out.below ((Below.refl _ _).drew) LQ5.out.lt).kept hk7 hqb
              have d1 := (lq7.cell 1).trans (show _ = some (Value.int .i64 x.j) from rfl)
              have d2 := (lq7.cell 2).trans (show _ = some (Value.int .u64 (x.t : Int)) from rfl)
              rw [hE]
              clear hE hE0 hord f1 f2 f3 hp g1 g2 g3 p1 p2 p3 e k0 k1 k2 k3 hst7 hV hk7 lq7
              generalize doV R x = V at *
              go_wp2
              go_region
              all_goals
                go_wp2
                go_roundw
                case rel => exact ⟨k + 1, doR R x, Pf, _, Dp, _, by omega, by go_num, by omega, HO, HST7.out⟩
                case measure => simp [intOf]; omega
            · have k1' : kk x.k ≠ 1 := by have := doK_cases x; omega
              have k3' : kk x.k ≠ 3 := by have := doK_cases x; omega
              have hq1 : (wrap64 ((IntKind.u64.wrap x.k).tmod 5) == 1) = false := by rw [beq_eq_false_iff_ne]; exact k1'
              have hq3 : (wrap64 ((IntKind.u64.wrap x.k).tmod 5) == 3) = false := by rw [beq_eq_false_iff_ne]; exact k3'
              have HO : Hid (Ord (doR R x).rd (doR R x).L Pf Gf) := by show Ord _ _ _ _; rw [doR_L (.inr ⟨by omega, by omega⟩), (doR_rd R x).1]; exact hord.out
              rw [hE]
              clear hE hE0 hord k1' k3' e k0
              go_wp2
              go_roundw
              case rel => exact ⟨k + 1, doR R x, Pf, Gf, Dp, Dg, by omega, by go_num, by omega, HO, ⟨HST5.out.rg, HST5.out.mp.mono (Nat.le_succ _), HST5.out.mg.mono (Nat.le_succ _), HST5.out.pis, HST5.out.gis, HST5.out.bel, HST5.out.ne⟩⟩
              case measure => simp [intOf]; omega
          · have hE0 : ¬ ((doE R x : Nat) : Int) = 0 := by omega
            have HO : Hid (Ord (doR R x).rd (doR R x).L Pf Gf) := by show Ord _ _ _ _; rw [doR_L (.inl hE), (doR_rd R x).1]; exact hord.out
            clear hE hord
            generalize doE R x = E at *
            go_wp2
            go_roundw
            case rel => exact ⟨k + 1, doR R x, Pf, Gf, Dp, Dg, by omega, by go_num, by omega, HO, ⟨HST5.out.rg, HST5.out.mp.mono (Nat.le_succ _), HST5.out.mg.mono (Nat.le_succ _), HST5.out.pis, HST5.out.gis, HST5.out.bel, HST5.out.ne⟩⟩
            case measure => simp [intOf]; omega
        · obtain rfl : k = ops.length := by omega
          have HB := Lib.hid hst.bel
          clear hst hord
          go_wp2
          go_ret
          exact ⟨rfl, HB.out⟩
  · have hci : (200 : Int) < (ops.length : Int) := by omega
    go_wp2_with fail
    refine (awake_any _).mono ?_
    rintro e w3 ⟨rfl, hb3⟩
    have hb3 := hb1.trans (hb3.mono hb1.size)
    go_wp2
    go_ret
    exact ⟨rfl, hb3⟩
end Go.Proofs.Ytahojmioonpodaa
