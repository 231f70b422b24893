import Derived.Test.YtahojmioonpodaaLaw5
namespace Go.Proofs.Ytahojmioonpodaa
open Go.RowKit
set_option linter.unusedVariables false
set_option linter.unusedSimpArgs false
set_option maxHeartbeats 8000000 in
set_option maxRecDepth 100000 in
theorem ready_walk (z : Rc) (a1 : Option Addr) (len1 cap1 : Nat) (ops : List Op5) (x : Op5) (w : World) (hz : rcOk z) (ha : ArgOf op5F 4 op5Ok w a1 len1 cap1 ops) (hx : op5Ok x) :
    Calls Try.prog 5 #[.agg #[.int .i64 z.k, .int .i64 z.c, .int .i64 z.r], .slice a1 len1 cap1, .agg #[.int .i64 x.k, .int .i64 x.j, .int .u64 (x.t : Int), .int .u64 (x.v : Int)]] w fun e w' => e = .returned (.bool true) ∧ Below w.heap.size w w' := by
  obtain ⟨k, c, r⟩ := z
  obtain ⟨hn, rfl, hs, hok⟩ := ha
  have hlc := hs.form
  obtain ⟨A', c', e', hc1, hc2, _⟩ := hlc
  simp only [Value.slice.injEq, true_and] at e'
  obtain ⟨rfl, rfl⟩ := e'
  unfold maxLen at hc2
  have hb0 := (Below.refl w.heap.size w).alloc (Nat.le_refl _) (.cells #[.int .i64 k, .int .i64 c, .int .i64 r] 23)
  have hb := hb0.alloc (by simp) (.cells #[.int .i64 x.k, .int .i64 x.j, .int .u64 (x.t : Int), .int .u64 (x.v : Int)] 51)
  have lo := (Lies.made w 23 #[.int .i64 k, .int .i64 c, .int .i64 r]).alloc (.cells #[.int .i64 x.k, .int .i64 x.j, .int .u64 (x.t : Int), .int .u64 (x.v : Int)] 51)
  have lx := Lies.made (w.alloc (.cells #[.int .i64 k, .int .i64 c, .int .i64 r] 23)) 51 #[.int .i64 x.k, .int .i64 x.j, .int .u64 (x.t : Int), .int .u64 (x.v : Int)]
  rw [World.size_alloc] at lx
  have LO := Lib.hid lo
  have LX := Lib.hid lx
  have HB := Lib.hid hb
  have HS := Lib.hid hs
  have HOK := Lib.hid hok
  have HX := Lib.hid hx
  clear lo lx hb hb0 hs hok hx hz
  go_enter Try.func5, Try.ntmps5
  go_wp2_with fail
  refine (awake_any _).mono ?_
  rintro e w1 ⟨rfl, hb1⟩
  have LX1 := Lib.hid (LX.out.below hb1 LX.out.lt)
  have lo1 := LO.out.below hb1 LO.out.lt
  have hb1 := HB.out.trans (hb1.mono HB.out.size)
  have c0 := (lo1.cell 0).trans (show _ = some (Value.int .i64 k) from rfl)
  have c1 := (lo1.cell 1).trans (show _ = some (Value.int .i64 c) from rfl)
  have c2 := (lo1.cell 2).trans (show _ = some (Value.int .i64 r) from rfl)
  have LO1 := Lib.hid lo1
  clear lo1 LO HB LX
  by_cases h100 : ops.length ≤ 100
  · have hci : ¬ (100 : Int) < (ops.length : Int) := by omega
    go_wp2_with fail
    refine (refMay k c r _).mono ?_
    rintro e w2 ⟨rfl, hb2⟩
    have LX2 := Lib.hid (LX1.out.below hb2 LX1.out.lt)
    have lo2 := LO1.out.below hb2 LO1.out.lt
    have hb2 := hb1.trans (hb2.mono hb1.size)
    have LO2 := Lib.hid lo2
    clear c0 c1 c2
    have c0 := (lo2.cell 0).trans (show _ = some (Value.int .i64 k) from rfl)
    have c1 := (lo2.cell 1).trans (show _ = some (Value.int .i64 c) from rfl)
    have c2 := (lo2.cell 2).trans (show _ = some (Value.int .i64 r) from rfl)
    clear lo2 LO1 hb1 LX1
    obtain ⟨mb, hmb⟩ : ∃ mb, mayB k c r = mb := ⟨_, rfl⟩
    rw [hmb]
    cases mb
    · clear hmb
      go_wp2_with fail
      refine (awake_any _).mono ?_
      rintro e w3 ⟨rfl, hb3⟩
      have hb3 := hb2.trans (hb3.mono hb2.size)
      go_wp2
      go_ret
      exact ⟨rfl, hb3⟩
    obtain ⟨cap, rfl⟩ : ∃ n : Nat, c = n := ⟨c.toNat, by have := of_decide_eq_true hmb; omega⟩
    obtain ⟨rd, rfl⟩ : ∃ n : Nat, r = n := ⟨r.toNat, by have := of_decide_eq_true hmb; omega⟩
    have hmb := of_decide_eq_true hmb
    have n1 : 1 ≤ cap := by omega
    have n2 : cap ≤ 64 := by omega
    have n3 : 1 ≤ rd := by omega
    have n4 : rd ≤ 8 := by omega
    have n5 : k = 1 ∧ rd = 1 ∨ k = 2 := by omega
    have HN := Lib.hid (fun w => rgNew k cap rd w n1 n2 n3 n4 n5)
    have N5 := Lib.hid n5
    clear hmb n5
    go_wp2_with fail
    refine (HN.out _).mono ?_
    rintro e w3 ⟨g, rfl, hg, hr3, hb3⟩
    have hst : RdAt w w3 g k cap rd x (newR cap rd) := ⟨hr3, LO2.out.below hb3 LO2.out.lt, LX2.out.below hb3 LX2.out.lt, hb2.trans (hb3.mono hb2.size)⟩
    have hg0 : w.heap.size + 1 < g := Nat.lt_of_lt_of_le LX2.out.lt hg
    have HST := Lib.hid hst
    clear hr3 hb3 hst hg HN LO2 LX2 hb2 c0 c1 c2
    go_wp2_with fail
    go_loopw [41] (fun u wr => ∃ (i : Nat) (R : Rg), i ≤ ops.length ∧ u = .int .i64 i ∧ R.rd = rd ∧ R.cap = cap ∧ Hid (Inv R) ∧ R.tail ≤ i ∧ RdAt w wr g k cap rd x R) (fun u _ => ops.length - (intOf u).toNat)
    case atStart => exact ⟨0, newR cap rd, by omega, rfl, rfl, rfl, Inv.new n1 n2 n3 n4, Nat.le_refl _, HST.out⟩
    case round =>
      clear HST
      obtain ⟨i, R, hi, rfl, hRr, hRc, hinv, htl, hst⟩ := hrel
      by_cases hlt : i < ops.length
      · have hki : (i : Int) < (ops.length : Int) := by omega
        obtain ⟨y, hy⟩ : ∃ y, ops[i]? = some y := ⟨_, List.getElem?_eq_getElem hlt⟩
        have hyo := HOK.out y (List.mem_of_getElem? hy)
        obtain ⟨b, off, rfl, hbl, gx⟩ := SeqS.at_ op5F_length (by decide) (HS.out.later hst.2.2.2) hy
        have x0 := gx 0 _ (by decide) rfl
        have x1 := gx 1 _ (by decide) rfl
        have x2 := gx 2 _ (by decide) rfl
        have x3 := gx 3 _ (by decide) rfl
        rw [Nat.add_zero] at x0
        have hbA : Below wr.heap.size wr (wr.alloc (.cells #[.int .i64 y.k, .int .i64 y.j, .int .u64 (y.t : Int), .int .u64 (y.v : Int)] 51)) := (Below.refl _ _).alloc (Nat.le_refl _) _
        have hst1 := hst.later hbA
        have HD := Lib.hid (doAny y hst1.1 rfl hyo (by omega))
        have HST1 := Lib.hid hst1
        have HYO := Lib.hid hyo
        clear hst hbA hst1 gx hy hyo hbl
        go_wp2_with fail
        refine HD.out.mono ?_
        rintro e w5 ⟨rfl, hr5, hk5⟩
        have hst5 := HST1.out.own hg0 hr5 hk5
        have hin5 := hinv.out.do_ y HYO.out (by omega)
        obtain ⟨d1, d2⟩ := doR_rd R y
        have d3 := doR_tail R y
        rw [hRr] at d1
        rw [hRc] at d2
        generalize doR R y = R5 at *
        have HST5 := Lib.hid hst5
        have HIN5 := Lib.hid hin5
        have D1 := Lib.hid d1
        have D2 := Lib.hid d2
        clear hr5 hk5 hst5 hin5 HD HST1 hinv d1 d2 x0 x1 x2 x3
        go_wp2
        go_roundw
        case rel => exact ⟨i + 1, R5, by omega, by go_num, D1.out, D2.out, HIN5.out, by omega, HST5.out⟩
        case measure => simp [intOf]; omega
      · obtain rfl : i = ops.length := by omega
        have ht62 : R.tail < 4611686018427387904 := by omega
        have HST := Lib.hid hst
        have hcl := hst.cells
        have HSTT := Lib.hid (fun w' (h : RdAt w w' g k cap rd x R) => rdState g R h h.1)
        have HSTD : Hid (RdAt w wr.drew g k cap rd x R) := hst.later (below_drewN (Below.refl _ _) 1)
        have HLD := Lib.hid (fun w' A1 c1 A2 c2 (h : RdAt w w' g k cap rd x R) h1 h2 => rdLoad h hinv.out ht62 hRc hRr N5.out A1 c1 A2 c2 h1 h2)
        obtain ⟨c0, c1, c2, c3, c4, c5, c6, c7⟩ := hcl
        have HIN := Lib.hid hinv.out
        have HRR := Lib.hid hRr
        clear hst ht62 hinv HST HOK HS hRr hRc
        go_wp2_with fail
        go_cut [11, 12] (fun s11 s12 wx => ∃ q, s11 = .pointer (some ⟨q, 0, none⟩) ∧ s12 = .int .i64 0 ∧ g < q ∧ RdAt w wx g k cap rd x R ∧ RgAt wx q 83 [] [] R)
        case first =>
          go_region_with (first | (go_at_call 20; refine (HSTT.out _ HSTD.out).mono ?_; rintro e wS ⟨A1, c1', A2, c2', rfl, ⟨y0, y1, y2, y3, y4, y5, y6, y7⟩, HA, HQ, H1, H2, HBS⟩) | (go_at_call 15; refine (HLD.out _ _ _ _ _ HA.out H1.out H2.out).mono ?_; rintro e wL ⟨q, rfl, hgq, ⟨y0', y1', y2', y3', y4', y5', y6', y7'⟩, HA2, HQ2⟩))
          all_goals
            go_wp2_with fail
            go_meet
            exact ⟨q, rfl, rfl, hgq, HA2.out, HQ2.out⟩
        case rest =>
          obtain ⟨q, rfl, rfl, hgq, hst, hq⟩ := hcut
          clear c0 c1 c2 c3 c4 c5 c6 c7 HSTD
          obtain ⟨c0, c1, c2, c3, c4, c5, c6, c7⟩ := hst.cells
          have hstd : RdAt w wc.drew g k cap rd x R := hst.later (below_drewN (Below.refl _ _) 1)
          have hqd : RgAt wc.drew q 83 [] [] R := hq.drewN 1
          have HFR := Lib.hid (fun w' (h : RdAt w w' g k cap rd x R) (hq : RgAt w' q 83 [] [] R) => rdFree h hq HX.out)
          have HHA := Lib.hid (fun w' (h : RdAt w w' g k cap rd x R) (hq : RgAt w' q 83 [] [] R) => rdHas h hq HX.out)
          have HSTD := Lib.hid hstd
          have HQD := Lib.hid hqd
          clear hst hq hstd hqd
          go_wp2_with fail
          go_cut [13, 14] (fun s13 s14 wx => s13 = .bool (rfreeB R x.t) ∧ s14 = .bool (rhasB R x.j x.t) ∧ RdAt w wx g k cap rd x R ∧ RgAt wx q 83 [] [] R)
          case first =>
            go_region_with (first | (go_at_call 22; refine (HFR.out _ ?_ ?_).mono ?_; (first | exact HA2.out | exact HSTD.out); (first | exact HQ2.out | exact HQD.out); rintro e wS ⟨rfl, ⟨y0, y1, y2, y3, y4, y5, y6, y7⟩, HA, HQ⟩) | (go_at_call 23; refine (HHA.out _ ?_ ?_).mono ?_; (first | exact HA.out | exact HSTD.out); (first | exact HQ.out | exact HQD.out); rintro e wL ⟨rfl, ⟨y0', y1', y2', y3', y4', y5', y6', y7'⟩, HA2, HQ2⟩))
            all_goals
              go_wp2_with fail
              go_meet
              first
                | exact ⟨rfl, rfl, HA2.out, HQ2.out⟩
                | exact ⟨rfl, rfl, HA.out, HQ.out⟩
          case rest =>
            obtain ⟨rfl, rfl, hst, hq⟩ := hcut
            clear c0 c1 c2 c3 c4 c5 c6 c7 HSTD HQD HFR HHA
            obtain ⟨c0, c1, c2, c3, c4, c5, c6, c7⟩ := hst.cells
            have hP := rgPublish x.t x.v hq rfl HX.out.2.2.2.2.1 HX.out.2.2.2.2.2
            have hfp := free_pub R x.t
            generalize pubE R x.t = E at *
            generalize rfreeB R x.t = fb at *
            have HP := Lib.hid hP
            have HST := Lib.hid hst
            have HFP := Lib.hid hfp
            clear hP hst hq hfp
            go_wp2_with fail
            refine HP.out.mono ?_
            rintro e w7 ⟨rfl, _, hk7⟩
            have hst7 := HST.out.other (show w.heap.size + 1 < q by omega) (show g ≠ q by omega) hk7
            clear c0 c1 c2 c3 c4 c5 c6 c7 hk7 HP HST
            obtain ⟨c0, c1, c2, c3, c4, c5, c6, c7⟩ := hst7.cells
            have hstd : RdAt w w7.drew g k cap rd x R := hst7.later (below_drewN (Below.refl _ _) 1)
            have HSTD := Lib.hid hstd
            have hfp := HFP.out
            clear hst7 hstd HFP
            go_wp2_with fail
            clear hfp
            go_cut [11] (fun s11 wx => ∃ q, s11 = .pointer (some ⟨q, 0, none⟩) ∧ g < q ∧ RdAt w wx g k cap rd x R ∧ RgAt wx q 83 [] [] R)
            case first =>
              go_region_with (first | (go_at_call 20; refine (HSTT.out _ HSTD.out).mono ?_; rintro e wS ⟨A1, c1', A2, c2', rfl, ⟨y0, y1, y2, y3, y4, y5, y6, y7⟩, HA, HQ, H1, H2, HBS⟩) | (go_at_call 15; refine (HLD.out _ _ _ _ _ HA.out H1.out H2.out).mono ?_; rintro e wL ⟨q, rfl, hgq, ⟨y0', y1', y2', y3', y4', y5', y6', y7'⟩, HA2, HQ2⟩))
              all_goals
                go_wp2_with fail
                go_meet
                exact ⟨_, rfl, hgq, HA2.out, HQ2.out⟩
            case rest =>
              obtain ⟨q2, rfl, hgq2, hst, hq⟩ := hcut
              clear c0 c1 c2 c3 c4 c5 c6 c7 HSTD HSTT HLD
              obtain ⟨c0, c1, c2, c3, c4, c5, c6, c7⟩ := hst.cells
              have HR := Lib.hid (rgRelease x.j x.t hq rfl HX.out.2.2.2.2.1)
              have HST := Lib.hid hst
              clear hst hq
              go_wp2_with fail
              refine HR.out.mono ?_
              rintro e w8 ⟨rfl, hq8, hk8⟩
              have hst8 := HST.out.other (show w.heap.size + 1 < q2 by omega) (show g ≠ q2 by omega) hk8
              clear c0 c1 c2 c3 c4 c5 c6 c7 hk8 HR HST
              obtain ⟨c0, c1, c2, c3, c4, c5, c6, c7⟩ := hst8.cells
              have HR := Lib.hid (rgRelease x.j x.t hst8.1 rfl HX.out.2.2.2.2.1)
              have HST := Lib.hid hst8
              have HQ := Lib.hid hq8
              clear hst8 hq8
              go_wp2_with fail
              refine HR.out.mono ?_
              rintro e w9 ⟨rfl, hr9, hk9⟩
              have hq9 := HQ.out.kept hk9 (fun (e : q2 = g) => by omega)
              have hb9 := HST.out.2.2.2.trans (hk9.below HST.out.2.2.2.size (fun j hj (e : j = g) => by omega))
              have hrl := relR_ok HIN.out.ok x.j x.t
              have hhr := has_rel R x.j x.t
              generalize relR R x.j x.t = R2 at *
              generalize relE R x.j x.t = E2 at *
              generalize relV R x.j x.t = V2 at *
              generalize rhasB R x.j x.t = hv at *
              have HR9 := Lib.hid hr9
              have HQ9 := Lib.hid hq9
              have hl2 : (R2.h8.take R2.rd).length = R2.rd := by rw [List.length_take, hrl.1]; have := hrl.2.1.2.2.2.1; omega
              have HL2 := Lib.hid hl2
              clear c0 c1 c2 c3 c4 c5 c6 c7 hr9 hq9 hk9 HR HST HQ hrl hl2 HIN
              go_wp2_with fail
              refine (rgState HQ9.out rfl).mono ?_
              rintro e w10 ⟨A1, c1, A2, c2, rfl, o1, o2, hb10⟩
              have HR10 := Lib.hid (HR9.out.later hb10)
              have hb10' := hb9.trans (hb10.mono hb9.size)
              have HS1 := Lib.hid (SeqAt.of_owns o1)
              have HS2 := Lib.hid (SeqS.of_owns o2)
              clear o1 o2 hb10 hb9 HR9 HQ9
              go_wp2_with fail
              refine (rgState HR10.out rfl).mono ?_
              rintro e w11 ⟨A3, c3, A4, c4, rfl, o3, o4, hb11⟩
              have hb11' := hb10'.trans (hb11.mono hb10'.size)
              have hS := ref13Same R2.tail (R2.h8.take R2.rd) R2.cl R2.L A1 A3 A2 A4 c1 c3 c2 c4 w11
              rw [HL2.out] at hS
              have HSM := Lib.hid (hS (HS1.out.later_ hb11) (SeqAt.of_owns o3) (HS2.out.later hb11) (SeqS.of_owns o4))
              clear hS o3 o4 hb11 HS1 HS2 HR10 hb10' HL2
              go_wp2_with fail
              refine HSM.out.mono ?_
              rintro e w12 ⟨rfl, hb12⟩
              have hbE := hb11'.trans (hb12.mono hb11'.size)
              go_wp2
              go_ret
              exact ⟨rfl, hbE⟩
  · have hci : (100 : Int) < (ops.length : Int) := by omega
    go_wp2_with fail
    refine (awake_any _).mono ?_
    rintro e w3 ⟨rfl, hb3⟩
    have hb3 := hb1.trans (hb3.mono hb1.size)
    go_wp2
    go_ret
    exact ⟨rfl, hb3⟩
end Go.Proofs.Ytahojmioonpodaa
