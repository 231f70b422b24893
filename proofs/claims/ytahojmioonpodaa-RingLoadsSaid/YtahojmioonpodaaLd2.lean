import Derived.Test.YtahojmioonpodaaLda
import Derived.Deep.CutBlock
import Derived.Deep.DeepCutAuto
namespace Go.Proofs.Ytahojmioonpodaa
open Go.RowKit
set_option linter.unusedVariables false
set_option linter.unusedSimpArgs false
set_option maxHeartbeats 8000000 in
set_option maxRecDepth 100000 in
theorem loads_walk (z : Rc) (s : Rs) (a1 : Option Addr) (len1 cap1 : Nat) (ops : List Op5) (w : World) (hz : rcOk z) (hs : RsAt w s) (ha : ArgOf op5F 4 op5Ok w a1 len1 cap1 ops) :
    Calls Try.prog 4 #[.agg #[.int .i64 z.k, .int .i64 z.c, .int .i64 z.r], .agg #[.int .u64 (s.tl : Int), .slice s.Ah s.hs.length s.ch, .bool s.cl, .slice s.As s.L.length s.cs], .slice a1 len1 cap1] w fun e w' => e = .returned (.bool true) ∧ Below w.heap.size w w' := by
  obtain ⟨k, c, r⟩ := z
  obtain ⟨hn, rfl, hsq, hok⟩ := ha
  have hlc := hsq.form
  obtain ⟨A', c', e', hc1, hc2, _⟩ := hlc
  simp only [Value.slice.injEq, true_and] at e'
  obtain ⟨rfl, rfl⟩ := e'
  unfold maxLen at hc2
  have hch : s.hs.length ≤ 9223372036854775807 := by
    obtain ⟨A', c', e, k1, k2, _⟩ := hs.1
    simp only [Value.slice.injEq] at e
    unfold maxLen at k2
    omega
  have hcs : s.L.length ≤ 9223372036854775807 := by
    obtain ⟨A', c', e, k1, k2, _⟩ := hs.2.1.form
    unfold maxLen at k2
    omega
  have hb0 := ((Below.refl w.heap.size w).alloc (Nat.le_refl _) (.cells #[.int .i64 k, .int .i64 c, .int .i64 r] 23)).alloc (by simp) (.cells #[.int .u64 (s.tl : Int), .slice s.Ah s.hs.length s.ch, .bool s.cl, .slice s.As s.L.length s.cs] 42)
  have l0 := (Lies.made w 23 #[.int .i64 k, .int .i64 c, .int .i64 r]).alloc (.cells #[.int .u64 (s.tl : Int), .slice s.Ah s.hs.length s.ch, .bool s.cl, .slice s.As s.L.length s.cs] 42)
  have l1 := Lies.made (w.alloc (.cells #[.int .i64 k, .int .i64 c, .int .i64 r] 23)) 42 #[.int .u64 (s.tl : Int), .slice s.Ah s.hs.length s.ch, .bool s.cl, .slice s.As s.L.length s.cs]
  rw [show (w.alloc (.cells #[.int .i64 k, .int .i64 c, .int .i64 r] 23)).heap.size = w.heap.size + 1 by simp] at l1
  have H0 : Hid (LdAt w _ k c r s) := ⟨l0, l1, hb0⟩
  have HS := Lib.hid hs
  have HSQ := Lib.hid hsq
  have HOK := Lib.hid hok
  clear hb0 l0 l1 hs hsq hok hz
  go_enter Try.func4, Try.ntmps4
  go_wp2_with fail
  refine (awake_any _).mono ?_
  rintro e w1 ⟨rfl, hb1⟩
  have H1 := Lib.hid (H0.out.later hb1)
  clear hb1 H0
  obtain ⟨c0, c1, c2, d0, d1, d2, d3⟩ := H1.out.cells
  have tlen : 100 < ops.length ∨ 70 < s.L.length ∨ 20 < s.hs.length ∨ (ops.length ≤ 100 ∧ s.L.length ≤ 70 ∧ s.hs.length ≤ 20) := by omega
  have HAW : ∀ q, LdAt w q k c r s → Calls Try.prog 10 #[] q fun e w' => e = .returned (.bool true) ∧ Below w.heap.size w w' := fun q hq => (awake_any q).mono fun e w' ⟨he, hb⟩ => ⟨he, hq.bel.trans (hb.mono hq.bel.size)⟩
  have HAW := Lib.hid HAW
  by_cases t1 : 100 < ops.length
  · have e1 : decide ((100 : Int) < (ops.length : Int)) = true := by rw [decide_eq_true_iff]; omega
    clear t1 tlen
    go_wp2_with fail
    refine (HAW.out _ H1.out).mono ?_
    rintro e w3 ⟨rfl, hb3⟩
    go_wp2
    go_ret
    exact ⟨rfl, hb3⟩
  have e1 : decide ((100 : Int) < (ops.length : Int)) = false := by rw [decide_eq_false_iff_not]; omega
  by_cases t2 : 70 < s.L.length
  · have e2 : decide ((70 : Int) < (s.L.length : Int)) = true := by rw [decide_eq_true_iff]; omega
    clear t1 t2 tlen
    go_wp2_with fail
    refine (HAW.out _ H1.out).mono ?_
    rintro e w3 ⟨rfl, hb3⟩
    go_wp2
    go_ret
    exact ⟨rfl, hb3⟩
  have e2 : decide ((70 : Int) < (s.L.length : Int)) = false := by rw [decide_eq_false_iff_not]; omega
  by_cases t3 : 20 < s.hs.length
  · have e3 : decide ((20 : Int) < (s.hs.length : Int)) = true := by rw [decide_eq_true_iff]; omega
    clear t1 t2 t3 tlen
    go_wp2_with fail
    refine (HAW.out _ H1.out).mono ?_
    rintro e w3 ⟨rfl, hb3⟩
    go_wp2
    go_ret
    exact ⟨rfl, hb3⟩
  have e3 : decide ((20 : Int) < (s.hs.length : Int)) = false := by rw [decide_eq_false_iff_not]; omega
  have TL : Hid (ops.length ≤ 100 ∧ s.L.length ≤ 70 ∧ s.hs.length ≤ 20) := by show _ ∧ _ ∧ _; omega
  clear t1 t2 t3 tlen HAW
  have HOF := Lib.hid (fun q (h : LdAt w q k c r s) => ldOf h HS.out TL.out.2.2 TL.out.2.1)
  have HSTT := Lib.hid (fun q A1 c1 A2 c2 cp (h : LdAt w q k c r s) h1 h2 => ldState (A1 := A1) (c1 := c1) (A2 := A2) (c2 := c2) h cp h1 h2 TL.out.2.2 TL.out.2.1)
  have HLD := Lib.hid (fun q A1 c1 A2 c2 (h : LdAt w q k c r s) h1 h2 => ldLoad (A1 := A1) (c1 := c1) (A2 := A2) (c2 := c2) h HS.out h1 h2)
  have H1D : Hid (LdAt w w1.drew k c r s) := H1.out.later (below_drewN (Below.refl _ _) 1)
  go_wp2_with fail
  go_cut [7, 8] (fun s7 s8 wx => LdAt w wx k c r s ∧ LdRes w wx k c r s s7 s8)
  case first =>
    go_region_with (first | (go_at_call 17; refine (HOF.out _ H1D.out).mono ?_; rintro e wO ⟨A1, k1, A2, k2, rfl, ⟨x0, x1, x2, x3, x4, x5, x6⟩, HO, HO1, HO2, HO3, HO4⟩) | (go_at_call 16; refine (HSTT.out _ _ _ _ _ _ HO.out HO1.out HO2.out).mono ?_; rintro e wS ⟨A3, k3, A4, k4, rfl, ⟨y0, y1, y2, y3, y4, y5, y6⟩, HT, HT1, HT2⟩) | (go_at_call 15; refine (HLD.out _ _ _ _ _ HT.out HT1.out HT2.out).mono ?_; rintro e wL ⟨pv, ev, rfl, ⟨z0, z1, z2, z3, z4, z5, z6⟩, HL, HLR⟩))
    all_goals
      go_wp2_with fail
      go_meet
      exact ⟨HL.out, HLR.out⟩
  case rest =>
    obtain ⟨hl, hlr⟩ := hcut
    clear c0 c1 c2 d0 d1 d2 d3 HOF HSTT HLD H1D H1
    obtain ⟨c0, c1, c2, d0, d1, d2, d3⟩ := hl.cells
    have HL := Lib.hid hl
    have HLR := Lib.hid hlr
    clear hl hlr
    obtain ⟨mb, hmb⟩ : ∃ mb, mayB k c r = mb := ⟨_, rfl⟩
    have HM := Lib.hid hmb
    cases mb
    · obtain ⟨p1, p2⟩ : _ ∧ _ := by have := HLR.out; unfold LdRes at this; rw [if_pos hmb] at this; exact this
      subst p1 p2
      clear hmb
      go_wp2_with fail
      refine (refMay k c r _).mono ?_
      rintro e w3 ⟨rfl, hb3⟩
      rw [HM.out]
      have HB3 := Lib.hid (HL.out.bel.trans (hb3.mono HL.out.bel.size))
      clear hb3
      go_wp2
      go_ret
      exact ⟨rfl, HB3.out⟩
    obtain ⟨cap, rfl⟩ : ∃ n : Nat, c = n := ⟨c.toNat, by have := of_decide_eq_true hmb; omega⟩
    obtain ⟨rd, rfl⟩ : ∃ n : Nat, r = n := ⟨r.toNat, by have := of_decide_eq_true hmb; omega⟩
    have hmb := of_decide_eq_true hmb
    have n1 : 1 ≤ cap := by omega
    have n2 : cap ≤ 64 := by omega
    have n3 : 1 ≤ rd := by omega
    have n4 : rd ≤ 8 := by omega
    have HLR2 := HLR.out
    unfold LdRes at HLR2
    rw [if_neg (by rw [HM.out]; decide), Int.toNat_natCast, Int.toNat_natCast] at HLR2
    replace HLR2 := Lib.hid HLR2
    have HRL := Lib.hid fun q (h : LdAt w q k cap rd s) => rfLoads k cap rd s.tl s.cl s.hs s.L s.Ah s.ch s.As s.cs q n1 n2 n3 n4 HS.out.2.2.2.2.1 (HS.out.1.later_ h.bel) (HS.out.2.1.later h.bel) HS.out.2.2.1 HS.out.2.2.2.1 (by have := TL.out.2.2; omega)
    rw [rlB_eq (cl := s.cl) n3 n4] at HRL
    clear hmb HLR
    obtain ⟨lb, hlb⟩ : ∃ lb, loadsB cap rd s.tl s.cl s.hs s.L = lb := ⟨_, rfl⟩
    rw [hlb] at HLR2 HRL
    have HLB := Lib.hid hlb
    clear hlb
    go_wp2_with fail
    refine (refMay k cap rd _).mono ?_
    rintro e w3 ⟨rfl, hb3⟩
    rw [HM.out]
    have H3 := Lib.hid (HL.out.later hb3)
    have hsz := hb3.size
    clear c0 c1 c2 d0 d1 d2 d3
    obtain ⟨c0, c1, c2, d0, d1, d2, d3⟩ := H3.out.cells
    cases lb
    · obtain ⟨p1, p2⟩ : _ ∧ _ := by have := HLR2.out; rw [if_pos rfl] at this; exact this
      subst p1 p2
      clear hb3 hsz HLR2
      go_wp2_with fail
      refine (HRL.out _ H3.out).mono ?_
      rintro e w4 ⟨rfl, hb4⟩
      have HB4 := Lib.hid (H3.out.bel.trans (hb4.mono H3.out.bel.size))
      clear hb4
      go_wp2
      go_ret
      exact ⟨rfl, HB4.out⟩
    · obtain ⟨g, p1, p2, hg, hrg⟩ := by have := HLR2.out; rw [if_neg (by decide)] at this; exact this
      subst p1 p2
      have HR3 : Hid (LrAt w w3 k cap rd g s) := ⟨H3.out, hrg.later hb3⟩
      clear hb3 hsz HLR2 hrg HL H3
      go_wp2_with fail
      refine (HRL.out _ HR3.out.ld).mono ?_
      rintro e w4 ⟨rfl, hb4⟩
      have H4 := Lib.hid (HR3.out.later hb4)
      clear c0 c1 c2 d0 d1 d2 d3 hb4 HR3 HRL
      obtain ⟨c0, c1, c2, d0, d1, d2, d3⟩ := H4.out.ld.cells
      have hll : s.hs.length = rd ∧ s.tl < 4611686018427387904 ∧ s.L.length = cap := by
        have := HLB.out
        rw [← rlB_eq (cl := s.cl) n3 n4] at this
        unfold rlB loadB at this
        simp only [Bool.and_eq_true, decide_eq_true_eq] at this
        exact ⟨this.1, this.2.1, this.2.2.1.1⟩
      have HLL := Lib.hid hll
      have HSTT := Lib.hid (fun q (h : LrAt w q k cap rd g s) => lrState h HLL.out.1)
      have HSM := Lib.hid (fun q A1 c1 A2 c2 (h : LrAt w q k cap rd g s) h1 h2 => lrSame (A1 := A1) (c1 := c1) (A2 := A2) (c2 := c2) h HS.out h1 h2)
      have HOF := Lib.hid (fun q (h : LrAt w q k cap rd g s) => lrOf h HS.out TL.out.2.2 TL.out.2.1)
      have HPL := Lib.hid (fun q A1 c1 A2 c2 (h : LrAt w q k cap rd g s) h1 h2 h3 h4 => lrPlays (A1 := A1) (c1 := c1) (A2 := A2) (c2 := c2) h HLL.out.1 HLL.out.2.2 n1 n2 hg HLL.out.2.1 h1 h2 h3 h4 HSQ.out HOK.out TL.out.1)
      have H4D : Hid (LrAt w w4.drew k cap rd g s) := H4.out.later (below_drewN (Below.refl _ _) 1)
      clear hll HS HM HLB
      go_wp2_with fail
      go_region_with (first | (go_at_call 20; refine (HSTT.out _ H4D.out).mono ?_; rintro e wO ⟨A1, k1, A2, k2, rfl, ⟨x0, x1, x2, x3, x4, x5, x6⟩, HA, HA1, HA2⟩) | (go_at_call 19; refine (HSM.out _ _ _ _ _ HA.out HA1.out HA2.out).mono ?_; rintro e wS ⟨rfl, ⟨y0, y1, y2, y3, y4, y5, y6⟩, HB⟩) | (go_at_call 17; refine (HOF.out _ HB.out).mono ?_; rintro e wL ⟨A3, k3, A4, k4, rfl, ⟨z0, z1, z2, z3, z4, z5, z6⟩, HC, HC1, HC2, HC3, HC4⟩) | (go_at_call 13; refine (HPL.out _ _ _ _ _ HC.out HC1.out HC2.out HC3.out HC4.out).mono ?_; rintro e wP ⟨rfl, HD⟩))
      all_goals
        go_wp2_with fail
        go_ret
        exact ⟨rfl, HD.out⟩
end Go.Proofs.Ytahojmioonpodaa
