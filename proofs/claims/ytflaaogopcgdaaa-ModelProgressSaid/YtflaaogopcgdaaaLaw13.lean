import Derived.Test.YtflaaogopcgdaaaLaw12
namespace Go.Proofs.Ytflaaogopcgdaaa
open Go.RowKit
set_option linter.unusedVariables false
set_option linter.unusedSimpArgs false
set_option maxHeartbeats 4000000 in
set_option maxRecDepth 100000 in
theorem progress_walk (z : Rc) (a1 : Option Addr) (len1 cap1 : Nat) (ops : List Op4) (w : World) (hz : rcOk z) (ha : ArgOf op4F 4 op4Ok w a1 len1 cap1 ops) :
    Calls Try.prog 7 #[.agg #[.int .i64 z.k, .int .i64 z.c, .int .i64 z.r], .slice a1 len1 cap1] w fun e w' => e = .returned (.bool true) ∧ Below w.heap.size w w' := by
  obtain ⟨kk, c, r⟩ := z
  obtain ⟨hn, rfl, hs, hok⟩ := ha
  have hlc := hs.form
  obtain ⟨A', c', e', hc1, hc2, _⟩ := hlc
  simp only [Value.slice.injEq, true_and] at e'
  obtain ⟨rfl, rfl⟩ := e'
  unfold maxLen at hc2
  have hbA := (Below.refl w.heap.size w).alloc (Nat.le_refl _) (.cells #[.int .i64 kk, .int .i64 c, .int .i64 r] 23)
  have HBA := Lib.hid hbA
  have LA := Lib.hid (Lies.made w 23 #[.int .i64 kk, .int .i64 c, .int .i64 r])
  have HS := Lib.hid hs
  have HOK := Lib.hid hok
  clear hok hs hbA hn hz
  go_enter Try.func7, Try.ntmps7
  go_wp2_with fail
  generalize w.alloc (.cells #[.int .i64 kk, .int .i64 c, .int .i64 r] 23) = wA at *
  refine (awake_any _).mono ?_
  rintro e w1 ⟨rfl, hb1⟩
  have la1 := LA.out.below hb1 LA.out.lt
  have c0 := (la1.cell 0).trans (show _ = some (Value.int .i64 kk) from rfl)
  have c1 := (la1.cell 1).trans (show _ = some (Value.int .i64 c) from rfl)
  have c2 := (la1.cell 2).trans (show _ = some (Value.int .i64 r) from rfl)
  have hla := la1.lt
  have HB1 := Lib.hid (HBA.out.trans (hb1.mono HBA.out.size))
  have LA1 := Lib.hid la1
  clear la1 hb1 LA
  by_cases h300 : ops.length ≤ 300
  · have hci : ¬ (300 : Int) < (ops.length : Int) := by omega
    go_wp2_with fail
    refine (refMay kk c r _).mono ?_
    rintro e w2 ⟨rfl, hb2⟩
    have la2 := LA1.out.below hb2 LA1.out.lt
    have HB2 := Lib.hid (HB1.out.trans (hb2.mono HB1.out.size))
    clear c0 c1 c2 hla
    have c0 := (la2.cell 0).trans (show _ = some (Value.int .i64 kk) from rfl)
    have c1 := (la2.cell 1).trans (show _ = some (Value.int .i64 c) from rfl)
    have c2 := (la2.cell 2).trans (show _ = some (Value.int .i64 r) from rfl)
    have hla := la2.lt
    clear la2 hb2 LA1 HB1
    obtain ⟨mb, hmb⟩ : ∃ mb, mayB kk c r = mb := ⟨_, rfl⟩
    rw [hmb]
    cases mb
    · clear hmb
      go_wp2_with fail
      refine (awake_any _).mono ?_
      rintro e w3 ⟨rfl, hb3⟩
      have hb3 := HB2.out.trans (hb3.mono HB2.out.size)
      go_wp2
      go_ret
      exact ⟨rfl, hb3⟩
    · obtain ⟨cap, rfl⟩ : ∃ n : Nat, c = n := ⟨c.toNat, by have := of_decide_eq_true hmb; omega⟩
      obtain ⟨rd, rfl⟩ : ∃ n : Nat, r = n := ⟨r.toNat, by have := of_decide_eq_true hmb; omega⟩
      have hmb := of_decide_eq_true hmb
      have HC := Lib.hid (played_walk ops a1 cap1 kk cap rd w2 (by omega) (by omega) (by omega) (by omega) (by omega) (HS.out.later HB2.out) HOK.out h300)
      clear hmb
      go_wp2_with fail
      refine HC.out.mono ?_
      rintro e w5 ⟨q, g, gb, vb0, R0, M0, all, P0, rfl, hst, hlin0, hsix0, hP6, htl0, hwh0⟩
      have hb5 := HB2.out.trans (hst.2.2.2.mono HB2.out.size)
      have hbn := hb5.alloc hb5.size (.cells z24 56)
      have l6 := Lies.made w5 56 z24
      have hrl : (rowsOf pdF P0).length = 24 := by rw [rowsOf_length pdF_length, hP6]
      have hth := Lib.hid (lies_there l6 (o := 0) (n := (rowsOf pdF P0).toArray.size) (by simp only [List.size_toArray]; rw [hrl]; decide))
      have HI2 := Lib.hid (show (Try.prog.info? 56).map (·.size) = some (rowsOf pdF P0).toArray.size by simp only [List.size_toArray]; rw [hrl]; exact Try.info6)
      have HONE := Lib.hid (all_oneCell_toArray (pdF_one P0))
      have hkc := kept_cells (g := w5.heap.size) (rowsOf pdF P0) 0 (w5.alloc (.cells z24 56))
      have hbk : Below w5.heap.size w5 (w5.alloc (.cells z24 56)) := (Below.refl _ _).alloc (Nat.le_refl _) _
      have hwz : w2.heap.size ≤ w5.heap.size := hst.2.2.2.size
      have HS6 := Lib.hid ((hst.later hbk).far l6 (by decide) (by decide) (by decide) hkc hwz)
      have HN6 : Hid (NowAt ((w5.alloc (.cells z24 56)).setCells w5.heap.size 0 (rowsOf pdF P0)) w5.heap.size P0) := by
        refine ⟨hP6, ?_⟩
        have h1 : Lies (w5.alloc (.cells z24 56)) w5.heap.size 56 ([] ++ (z24.toList ++ [])).toArray := by simpa using l6
        have := lies_cells (rowsOf pdF P0) [] z24.toList [] _ (by rw [hrl]; rfl) h1
        simpa using this
      have HLI := Lib.hid hlin0
      have HSI := Lib.hid hsix0
      have HWH := Lib.hid hwh0
      have hnz0 : nz P0 + 0 ≤ 6 := nz_le hP6
      clear hst hb5 hbn hbk hkc l6 hrl hP6 HC c0 c1 c2 hla hlin0 hsix0 hwh0
      go_wp2_with (refine wpList_store_mid rfl 56 _ _ rfl w5.heap.size 0 (rowsOf pdF P0).toArray rfl rfl hth.out HI2.out HONE.out ?_)
      clear hth HI2 HONE
      generalize (w5.alloc (.cells z24 56)).setCells w5.heap.size 0 (rowsOf pdF P0) = w6 at *
      generalize w5.heap.size = n at *
      go_loopw [36] (fun u wr => ∃ (r : Nat) (R : Rg) (M : Md) (vb : Option Nat) (P : List Pd), r ≤ 6 ∧ u = .int .i64 r ∧ R.tail ≤ 300 ∧ nz P + r ≤ 6 ∧ Hid (Lin R M all) ∧ Hid (SixOk R all P) ∧ Hid (Whole R P) ∧ Hid (LnS w2 wr q g gb vb R M) ∧ Hid (NowAt wr n P)) (fun u _ => 6 - (intOf u).toNat)
      case atStart => exact ⟨0, R0, M0, vb0, P0, by omega, rfl, htl0, hnz0, HLI, HSI, HWH, HS6, HN6⟩
      case round =>
        clear HLI HSI HWH HS6 HN6 htl0 hnz0
        obtain ⟨r, R, M, vb, P, hr, rfl, htl, hnz, hlin, hsix, hwh, hst, hnow⟩ := hrel
        have hbw := HB2.out.trans (hst.out.2.2.2.mono HB2.out.size)
        have hrng := Lib.hid hnow.out.range
        have HI := Lib.hid (show (Try.prog.info? 56).map (·.size) = some (rowsOf pdF P).length by rw [hnow.out.rows]; exact Try.info6)
        have HP6 := Lib.hid hnow.out.1
        by_cases hr6 : r < 6
        · have hri : (r : Int) < 6 := by omega
          go_wp2_with (refine wpList_load_mid rfl 56 _ rfl n 0 rfl (rowsOf pdF P) _ hrng.out under6 rfl HI.out ?_)
          go_loopw [8, 9, 39] (fun u8 u9 u39 wq => ∃ (i : Nat) (R' : Rg) (M' : Md) (vb' : Option Nat) (P' : List Pd) (sb cb : Bool), i ≤ 6 ∧ u39 = .int .i64 i ∧ u8 = .bool sb ∧ u9 = .bool cb ∧ R'.tail ≤ 300 ∧ Hid (Lin R' M' all) ∧ Hid (SixOk R' all P') ∧ Hid (Whole R' P') ∧ Hid (LnS w2 wq q g gb vb' R' M') ∧ Hid (NowAt wq n P') ∧ Hid (PrgAt R R' P P' i sb cb)) (fun _ _ u _ => 6 - (intOf u).toNat)
          case atStart => exact ⟨0, R, M, vb, P, false, false, by omega, rfl, rfl, rfl, htl, hlin, hsix, hwh, hst, hnow, PrgAt.start R P⟩
          case round =>
            obtain ⟨i, R', M', vb', P', sb, cb, hi, rfl, rfl, rfl, htl', hlin', hsix', hwh', hst', hnow', hprg⟩ := hrel
            have hbw' := hst'.out.2.2.2
            by_cases hi6 : i < 6
            · have hii : (i : Int) < 6 := by omega
              obtain ⟨p, hp⟩ : ∃ p, P[i]? = some p := ⟨_, List.getElem?_eq_getElem (by rw [HP6.out]; exact hi6)⟩
              have hp' : P'[i]? = some p := by rw [hprg.out.1 i (Nat.le_refl _)]; exact hp
              have HPI := Lib.hid hp
              have HPI' := Lib.hid hp'
              have hpok := hsix'.out.1 p (List.mem_of_getElem? hp')
              have hbq : Below wr.heap.size wr (wr.alloc (.cells (pdC p) 55)) := (Below.refl _ _).alloc (Nat.le_refl _) _
              have HSQ := Lib.hid (hst'.out.later hbq)
              have HNQ := Lib.hid (hnow'.out.later hbq)
              have HPO := Lib.hid hpok
              have hnlt := hnow'.out.2.lt
              clear hbq hst' hnow' hbw' hpok hp hp'
              by_cases hk0 : p.k = 0
              · have e0 : ((p.k : Int) == 0) = true := by rw [hk0]; rfl
                have HPR := Lib.hid (hprg.out.skip HPI.out hk0)
                clear hprg hk0
                go_wp2_with (refine wpList_ix rfl _ _ rfl P i p rfl rfl HP6.out HPI.out ?_)
                go_roundw
                case rel => exact ⟨i + 1, R', M', vb', P', sb, cb, by omega, by go_num, rfl, rfl, htl', hlin', hsix', hwh', HSQ, HNQ, HPR⟩
                case measure => simp [intOf]; omega
              · have e0 : ((p.k : Int) == 0) = false := by rw [beq_eq_false_iff_ne]; omega
                have hpt : p.t ≤ 18446744073709551615 := by
                  have := hlin'.out.len
                  rcases HPO.out.1 with h | ⟨_, h⟩ | ⟨_, h⟩
                  · exact absurd h hk0
                  · have := h.1; omega
                  · have := (List.getElem?_eq_some_iff.1 h.2.2.1).1
                    have := hlin'.out.2.1
                    omega
                by_cases hk1 : p.k = 1
                · have e1 : ((p.k : Int) == 1) = true := by rw [hk1]; rfl
                  have e2 : ((p.k : Int) == 2) = false := by rw [hk1]; rfl
                  have HF := Lib.hid (rgFree (o := 0) p.t HSQ.out.1 rfl hpt)
                  have hfp := free_pub R' p.t
                  by_cases hz : pubE R' p.t = 0
                  · have hfb : rfreeB R' p.t = true := by rw [← hfp, hz]; rfl
                    rw [hfb] at HF
                    clear hfp hfb
                    have HZ := Lib.hid hz
                    have HK1 := Lib.hid hk1
                    clear hz hk1
                    go_wp2_with (refine wpList_ix rfl _ _ rfl P i p rfl rfl HP6.out HPI.out ?_)
                    generalize hwq : wr.alloc (.cells (pdC p) 55) = wq at *
                    have lq : Lies wq wr.heap.size 55 (pdC p) := by rw [← hwq]; exact Lies.made _ _ _
                    clear hwq
                    generalize wr.heap.size = nb at *
                    refine HF.out.mono ?_
                    rintro e w3 ⟨rfl, m3, hw3⟩
                    have hb3 : Below wq.heap.size wq w3 := by rw [hw3]; exact below_drewN (Below.refl _ _) _
                    clear hw3 HF
                    have lq3 := lq.below hb3 lq.lt
                    have HSR := Lib.hid (HSQ.out.later hb3)
                    have HNR := Lib.hid (HNQ.out.later hb3)
                    clear hb3 lq HSQ HNQ
                    have y0 := ((lq3).cell 0).trans (show _ = some (Value.int .i64 (p.k : Int)) from rfl)
                    have y1 := ((lq3).cell 1).trans (show _ = some (Value.int .i64 p.j) from rfl)
                    have y2 := ((lq3).cell 2).trans (show _ = some (Value.int .u64 (p.t : Int)) from rfl)
                    have y3 := ((lq3).cell 3).trans (show _ = some (Value.int .u64 (p.v : Int)) from rfl)
                    have hylt := (lq3).lt
                    have HC := Lib.hid (lnFurther p HSR.out hlin'.out (by omega) HPO.out.1 hk0 HPO.out.2)
                    have HPD := Lib.hid (show canOp R' p from (.inl ⟨HK1.out, HZ.out⟩))
                    go_wp2_with fail
                    refine HC.out.mono ?_
                    rintro e w4 ⟨R2, p', rfl, s4, l4, t4, h0, m1, m2, k4, wh4, hpd⟩
                    have hpd0 := hpd HPD.out
                    subst hpd0
                    have hn4 := HNR.out.kept k4 (fun (e : n = q) => HSR.out.apart HNR.out.2 (by decide) (by decide) (by decide) (.inl e))
                    have hkc := kept_cells (g := n) (pdF pd0) (i * 4) w4
                    have hs5 := s4.far hn4.2 (by decide) (by decide) (by decide) hkc hwz
                    have hn5 := hn4.set hi6 pd0
                    have hz5 := hn5.one (show (P'.set i pd0)[i]? = some pd0 from List.getElem?_set_self (by rw [hn4.1]; exact hi6)) 0 _ rfl
                    rw [Nat.add_zero] at hz5
                    have hn5l := hn5.2.lt
                    rw [stm_is] at hs5 hn5 hz5 hn5l
                    have HS5 := Lib.hid hs5
                    have HN5 := Lib.hid hn5
                    have HZ5 := Lib.hid hz5
                    clear y0 y1 y2 y3 hs5 hn5 hz5
                    have z0 := hn4.one HPI'.out 0 _ rfl
                    have z1 := hn4.one HPI'.out 1 _ rfl
                    have z2 := hn4.one HPI'.out 2 _ rfl
                    have z3 := hn4.one HPI'.out 3 _ rfl
                    rw [Nat.add_zero] at z0
                    have f0 := hn4.2.free (i * 4)
                    have f1 := hn4.2.free (i * 4 + 1)
                    have f2 := hn4.2.free (i * 4 + 2)
                    have f3 := hn4.2.free (i * 4 + 3)
                    have hzl := hn4.2.lt
                    have HSX := Lib.hid (hsix'.out.further_ HPI'.out h0 m1 m2)
                    have HWX := Lib.hid (wh4 P' i HPI'.out hwh'.out)
                    have HPR := Lib.hid (hprg.out.can (R'' := R2) HPI'.out hk0)
                    have L4 := Lib.hid l4
                    have ht4 : R2.tail ≤ 300 := by omega
                    clear hlin' hsix' hwh' HSR HNR HC s4 l4 t4 h0 m1 m2 k4 hn4 hkc hprg wh4 hpd HPI HPI' hk0 HPD HPO
                    go_wp2
                    go_roundw
                    case rel => exact ⟨i + 1, R2, M', vb', P'.set i pd0, true, true, by omega, by go_num, rfl, rfl, ht4, L4, HSX, HWX, HS5, HN5, HPR⟩
                    case measure => simp [intOf]; omega
                  · have hfb : rfreeB R' p.t = false := by rw [← hfp, beq_eq_false_iff_ne]; omega
                    rw [hfb] at HF
                    clear hfp hfb
                    have HZ := Lib.hid hz
                    have HK1 := Lib.hid hk1
                    clear hz hk1
                    go_wp2_with (refine wpList_ix rfl _ _ rfl P i p rfl rfl HP6.out HPI.out ?_)
                    generalize hwq : wr.alloc (.cells (pdC p) 55) = wq at *
                    have lq : Lies wq wr.heap.size 55 (pdC p) := by rw [← hwq]; exact Lies.made _ _ _
                    clear hwq
                    generalize wr.heap.size = nb at *
                    refine HF.out.mono ?_
                    rintro e w3 ⟨rfl, m3, hw3⟩
                    have hb3 : Below wq.heap.size wq w3 := by rw [hw3]; exact below_drewN (Below.refl _ _) _
                    clear hw3 HF
                    have lq3 := lq.below hb3 lq.lt
                    have HSR := Lib.hid (HSQ.out.later hb3)
                    have HNR := Lib.hid (HNQ.out.later hb3)
                    clear hb3 lq HSQ HNQ
                    have y0 := ((lq3).cell 0).trans (show _ = some (Value.int .i64 (p.k : Int)) from rfl)
                    have y1 := ((lq3).cell 1).trans (show _ = some (Value.int .i64 p.j) from rfl)
                    have y2 := ((lq3).cell 2).trans (show _ = some (Value.int .u64 (p.t : Int)) from rfl)
                    have y3 := ((lq3).cell 3).trans (show _ = some (Value.int .u64 (p.v : Int)) from rfl)
                    have hylt := (lq3).lt
                    have HPR := Lib.hid (hprg.out.not_ HPI.out hk0 ((by have a := HK1.out; have b := HZ.out; rintro (⟨_, h⟩ | ⟨h, _⟩) <;> omega)))
                    clear hprg hk0
                    go_wp2_with fail
                    go_roundw
                    case rel => exact ⟨i + 1, R', M', vb', P', true, cb, by omega, by go_num, rfl, rfl, htl', hlin', hsix', hwh', HSR, HNR, HPR⟩
                    case measure => simp [intOf]; omega
                · have hk2 : p.k = 2 := by
                    rcases HPO.out.1 with h | ⟨h, _⟩ | ⟨h, _⟩
                    · exact absurd h hk0
                    · exact absurd h hk1
                    · exact h
                  have e1 : ((p.k : Int) == 1) = false := by rw [hk2]; rfl
                  have e2 : ((p.k : Int) == 2) = true := by rw [hk2]; rfl
                  have HF := Lib.hid (rgHas (o := 0) p.j p.t HSQ.out.1 rfl hpt)
                  have hfp := has_rel R' p.j p.t
                  by_cases hz : relE R' p.j p.t = 0
                  · have hfb : rhasB R' p.j p.t = true := by rw [← hfp, hz]; rfl
                    rw [hfb] at HF
                    clear hfp hfb hk1
                    have HZ := Lib.hid hz
                    have HK1 := Lib.hid hk2
                    clear hz hk2
                    go_wp2_with (refine wpList_ix rfl _ _ rfl P i p rfl rfl HP6.out HPI.out ?_)
                    generalize hwq : wr.alloc (.cells (pdC p) 55) = wq at *
                    have lq : Lies wq wr.heap.size 55 (pdC p) := by rw [← hwq]; exact Lies.made _ _ _
                    clear hwq
                    generalize wr.heap.size = nb at *
                    refine HF.out.mono ?_
                    rintro e w3 ⟨rfl, hb3⟩
                    clear HF
                    have lq3 := lq.below hb3 lq.lt
                    have HSR := Lib.hid (HSQ.out.later hb3)
                    have HNR := Lib.hid (HNQ.out.later hb3)
                    clear hb3 lq HSQ HNQ
                    have y0 := ((lq3).cell 0).trans (show _ = some (Value.int .i64 (p.k : Int)) from rfl)
                    have y1 := ((lq3).cell 1).trans (show _ = some (Value.int .i64 p.j) from rfl)
                    have y2 := ((lq3).cell 2).trans (show _ = some (Value.int .u64 (p.t : Int)) from rfl)
                    have y3 := ((lq3).cell 3).trans (show _ = some (Value.int .u64 (p.v : Int)) from rfl)
                    have hylt := (lq3).lt
                    have HC := Lib.hid (lnFurther p HSR.out hlin'.out (by omega) HPO.out.1 hk0 HPO.out.2)
                    have HPD := Lib.hid (show canOp R' p from (.inr ⟨HK1.out, HZ.out⟩))
                    go_wp2_with fail
                    refine HC.out.mono ?_
                    rintro e w4 ⟨R2, p', rfl, s4, l4, t4, h0, m1, m2, k4, wh4, hpd⟩
                    have hpd0 := hpd HPD.out
                    subst hpd0
                    have hn4 := HNR.out.kept k4 (fun (e : n = q) => HSR.out.apart HNR.out.2 (by decide) (by decide) (by decide) (.inl e))
                    have hkc := kept_cells (g := n) (pdF pd0) (i * 4) w4
                    have hs5 := s4.far hn4.2 (by decide) (by decide) (by decide) hkc hwz
                    have hn5 := hn4.set hi6 pd0
                    have hz5 := hn5.one (show (P'.set i pd0)[i]? = some pd0 from List.getElem?_set_self (by rw [hn4.1]; exact hi6)) 0 _ rfl
                    rw [Nat.add_zero] at hz5
                    have hn5l := hn5.2.lt
                    rw [stm_is] at hs5 hn5 hz5 hn5l
                    have HS5 := Lib.hid hs5
                    have HN5 := Lib.hid hn5
                    have HZ5 := Lib.hid hz5
                    clear y0 y1 y2 y3 hs5 hn5 hz5
                    have z0 := hn4.one HPI'.out 0 _ rfl
                    have z1 := hn4.one HPI'.out 1 _ rfl
                    have z2 := hn4.one HPI'.out 2 _ rfl
                    have z3 := hn4.one HPI'.out 3 _ rfl
                    rw [Nat.add_zero] at z0
                    have f0 := hn4.2.free (i * 4)
                    have f1 := hn4.2.free (i * 4 + 1)
                    have f2 := hn4.2.free (i * 4 + 2)
                    have f3 := hn4.2.free (i * 4 + 3)
                    have hzl := hn4.2.lt
                    have HSX := Lib.hid (hsix'.out.further_ HPI'.out h0 m1 m2)
                    have HWX := Lib.hid (wh4 P' i HPI'.out hwh'.out)
                    have HPR := Lib.hid (hprg.out.can (R'' := R2) HPI'.out hk0)
                    have L4 := Lib.hid l4
                    have ht4 : R2.tail ≤ 300 := by omega
                    clear hlin' hsix' hwh' HSR HNR HC s4 l4 t4 h0 m1 m2 k4 hn4 hkc hprg wh4 hpd HPI HPI' hk0 HPD HPO
                    go_wp2
                    go_roundw
                    case rel => exact ⟨i + 1, R2, M', vb', P'.set i pd0, true, true, by omega, by go_num, rfl, rfl, ht4, L4, HSX, HWX, HS5, HN5, HPR⟩
                    case measure => simp [intOf]; omega
                  · have hfb : rhasB R' p.j p.t = false := by rw [← hfp, beq_eq_false_iff_ne]; omega
                    rw [hfb] at HF
                    clear hfp hfb hk1
                    have HZ := Lib.hid hz
                    have HK1 := Lib.hid hk2
                    clear hz hk2
                    go_wp2_with (refine wpList_ix rfl _ _ rfl P i p rfl rfl HP6.out HPI.out ?_)
                    generalize hwq : wr.alloc (.cells (pdC p) 55) = wq at *
                    have lq : Lies wq wr.heap.size 55 (pdC p) := by rw [← hwq]; exact Lies.made _ _ _
                    clear hwq
                    generalize wr.heap.size = nb at *
                    refine HF.out.mono ?_
                    rintro e w3 ⟨rfl, hb3⟩
                    clear HF
                    have lq3 := lq.below hb3 lq.lt
                    have HSR := Lib.hid (HSQ.out.later hb3)
                    have HNR := Lib.hid (HNQ.out.later hb3)
                    clear hb3 lq HSQ HNQ
                    have y0 := ((lq3).cell 0).trans (show _ = some (Value.int .i64 (p.k : Int)) from rfl)
                    have y1 := ((lq3).cell 1).trans (show _ = some (Value.int .i64 p.j) from rfl)
                    have y2 := ((lq3).cell 2).trans (show _ = some (Value.int .u64 (p.t : Int)) from rfl)
                    have y3 := ((lq3).cell 3).trans (show _ = some (Value.int .u64 (p.v : Int)) from rfl)
                    have hylt := (lq3).lt
                    have HPR := Lib.hid (hprg.out.not_ HPI.out hk0 ((by have a := HK1.out; have b := HZ.out; rintro (⟨h, _⟩ | ⟨_, h⟩) <;> omega)))
                    clear hprg hk0
                    go_wp2_with fail
                    go_roundw
                    case rel => exact ⟨i + 1, R', M', vb', P', true, cb, by omega, by go_num, rfl, rfl, htl', hlin', hsix', hwh', HSR, HNR, HPR⟩
                    case measure => simp [intOf]; omega
            · obtain rfl : i = 6 := by omega
              obtain ⟨d1, d2⟩ := hprg.out.done HP6.out hlin.out (by omega) (fun p hp => (hsix.out.1 p hp).1) hwh.out
              have hnz' : nz P' + (r + 1) ≤ 6 := by omega
              clear hprg d2 hbw'
              cases sb <;> cases cb <;> simp only [Bool.and_true, Bool.and_false, Bool.false_and, Bool.true_and, Bool.not_true, Bool.not_false, Bool.true_eq_false] at d1
              all_goals
                go_wp2
                go_roundw
                case rel => exact ⟨r + 1, R', M', vb', P', by omega, by go_num, htl', hnz', hlin', hsix', hwh', hst', hnow'⟩
                case measure => simp [intOf]; omega
        · obtain rfl : r = 6 := by omega
          have hz := nz_zero (P := P) (by omega)
          have hzl := Lib.hid hz
          clear hz hlin hsix hwh hst hnow
          go_wp2_with (refine wpList_load_mid rfl 56 _ rfl n 0 rfl (rowsOf pdF P) _ hrng.out under6 rfl HI.out ?_)
          go_loopw [93] (fun u wq => ∃ i : Nat, i ≤ 6 ∧ u = .int .i64 i ∧ Below w.heap.size w wq) (fun u _ => 6 - (intOf u).toNat)
          case atStart => exact ⟨0, by omega, rfl, hbw⟩
          case round =>
            clear hbw
            obtain ⟨i, hi, rfl, hbq⟩ := hrel
            by_cases hi6 : i < 6
            · have hii : (i : Int) < 6 := by omega
              obtain ⟨p, hp⟩ : ∃ p, P[i]? = some p := ⟨_, List.getElem?_eq_getElem (by rw [HP6.out]; exact hi6)⟩
              have hk0 := hzl.out p (List.mem_of_getElem? hp)
              have e0 : ((p.k : Int) != 0) = false := by rw [hk0]; rfl
              have HPI := Lib.hid hp
              have hb2 := Lib.hid (hbq.alloc hbq.size (.cells (pdC p) 55))
              clear hp hk0 hbq
              go_wp2_with (refine wpList_ix rfl _ _ rfl P i p rfl rfl HP6.out HPI.out ?_)
              go_roundw
              case rel => exact ⟨i + 1, by omega, by go_num, hb2.out⟩
              case measure => simp [intOf]; omega
            · obtain rfl : i = 6 := by omega
              go_wp2
              go_ret
              exact ⟨rfl, hbq⟩
  · have hci : (300 : Int) < (ops.length : Int) := by omega
    go_wp2_with fail
    refine (awake_any _).mono ?_
    rintro e w3 ⟨rfl, hb3⟩
    have hb3 := HB1.out.trans (hb3.mono HB1.out.size)
    go_wp2
    go_ret
    exact ⟨rfl, hb3⟩
end Go.Proofs.Ytflaaogopcgdaaa
