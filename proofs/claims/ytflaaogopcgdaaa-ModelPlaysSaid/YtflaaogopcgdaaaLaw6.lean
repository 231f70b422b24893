import Derived.Test.YtflaaogopcgdaaaLaw5
namespace Go.Proofs.Ytflaaogopcgdaaa
open Go.RowKit
set_option linter.unusedVariables false
set_option linter.unusedSimpArgs false
set_option maxHeartbeats 8000000 in
set_option maxRecDepth 100000 in
theorem mplays_walk (z : Rc) (a1 : Option Addr) (len1 cap1 : Nat) (ops : List Op3) (w : World) (hz : rcOk z) (ha : ArgOf op3F 3 op3Ok w a1 len1 cap1 ops) :
    Calls Try.prog 3 #[.agg #[.int .i64 z.k, .int .i64 z.c, .int .i64 z.r], .slice a1 len1 cap1] w fun e w' => e = .returned (.bool true) ∧ Below w.heap.size w w' := by
  obtain ⟨kk, c, r⟩ := z
  obtain ⟨hn, rfl, hs, hok⟩ := ha
  have hlc := hs.form
  obtain ⟨A', c', e', hc1, hc2, _⟩ := hlc
  simp only [Value.slice.injEq, true_and] at e'
  obtain ⟨rfl, rfl⟩ := e'
  unfold maxLen at hc2
  have hbA := (Below.refl w.heap.size w).alloc (Nat.le_refl _) (.cells #[.int .i64 kk, .int .i64 c, .int .i64 r] 23)
  have HBA := Lib.hid hbA
  have LA := Lib.hid (Lies.made w 23 #[.int .i64 kk, .int .i64 c, .int .i64 r])
  have HS := Lib.hid hs
  have HOK := Lib.hid hok
  clear hok hs hbA hn hz
  go_enter Try.func3, Try.ntmps3
  go_wp2_with fail
  generalize w.alloc (.cells #[.int .i64 kk, .int .i64 c, .int .i64 r] 23) = wA at *
  refine (awake_any _).mono ?_
  rintro e w1 ⟨rfl, hb1⟩
  have la1 := LA.out.below hb1 LA.out.lt
  have c0 := (la1.cell 0).trans (show _ = some (Value.int .i64 kk) from rfl)
  have c1 := (la1.cell 1).trans (show _ = some (Value.int .i64 c) from rfl)
  have c2 := (la1.cell 2).trans (show _ = some (Value.int .i64 r) from rfl)
  have hla := la1.lt
  have HB1 := Lib.hid hb1
  clear la1 hb1
  by_cases h200 : ops.length ≤ 200
  · have hci : ¬ (200 : Int) < (ops.length : Int) := by omega
    obtain ⟨mb, hmb⟩ : ∃ mb, mayB kk c r = mb := ⟨_, rfl⟩
    cases mb
    · have HN := Lib.hid (fun w => mdNewNo kk c r w hmb)
      have HM := Lib.hid hmb
      clear hmb
      go_wp2_with fail
      refine (HN.out _).mono ?_
      rintro e w2 ⟨rfl, hb2⟩
      have hb2 := HB1.out.trans (hb2.mono HB1.out.size)
      have la2 := LA.out.below hb2 LA.out.lt
      clear c0 c1 c2 HB1 hla
      have c0 := (la2.cell 0).trans (show _ = some (Value.int .i64 kk) from rfl)
      have c1 := (la2.cell 1).trans (show _ = some (Value.int .i64 c) from rfl)
      have c2 := (la2.cell 2).trans (show _ = some (Value.int .i64 r) from rfl)
      have hla := la2.lt
      clear la2
      go_wp2_with fail
      refine (refMay kk c r _).mono ?_
      rintro e w3 ⟨rfl, hb3⟩
      rw [HM.out]
      have hb3 := HBA.out.trans ((hb2.trans (hb3.mono hb2.size)).mono HBA.out.size)
      go_wp2
      go_ret
      exact ⟨rfl, hb3⟩
    · have HM := Lib.hid hmb
      obtain ⟨cap, rfl⟩ : ∃ n : Nat, c = n := ⟨c.toNat, by have := of_decide_eq_true hmb; omega⟩
      obtain ⟨rd, rfl⟩ : ∃ n : Nat, r = n := ⟨r.toNat, by have := of_decide_eq_true hmb; omega⟩
      have hmb := of_decide_eq_true hmb
      have n1 : 1 ≤ cap := by omega
      have n2 : cap ≤ 64 := by omega
      have n3 : 1 ≤ rd := by omega
      have n4 : rd ≤ 8 := by omega
      have n5 : kk = 1 ∧ rd = 1 ∨ kk = 2 := by omega
      have HN := Lib.hid (fun w => mdNew kk cap rd w n1 n2 n3 n4 n5)
      clear hmb n5
      go_wp2_with fail
      refine (HN.out _).mono ?_
      rintro e w3 ⟨g, gb, rfl, hm3, hb3⟩
      have hm3 : MdAt w3 wA.heap.size g gb none (newM cap rd) := by
        obtain ⟨o1, o2, o3, o4, o5, o6, A, c, cg, o7, o8, o9, o10⟩ := hm3
        have hle := HB1.out.size
        exact ⟨o1, Nat.le_trans hle o2, Nat.le_trans hle o3, o4, o5, o6, A, c, cg, o7, by
          have : (Value.slice A (newM cap rd).L.length c) = .slice none 0 0 := by
            rcases o8.2 with ⟨h, _⟩ | ⟨g', off, cap', cur, h, _⟩
            · exact h
            · rw [h] at o10; simp [Value.ownBlock] at o10
          rw [this]; exact OwnsOff.nil _ _ _, owned_base o9 hle, o10⟩
      have hb3 := HB1.out.trans (hb3.mono HB1.out.size)
      have la3 := LA.out.below hb3 LA.out.lt
      clear c0 c1 c2 HB1 HN hla
      have c0 := (la3.cell 0).trans (show _ = some (Value.int .i64 kk) from rfl)
      have c1 := (la3.cell 1).trans (show _ = some (Value.int .i64 (cap : Int)) from rfl)
      have c2 := (la3.cell 2).trans (show _ = some (Value.int .i64 (rd : Int)) from rfl)
      have hla := la3.lt
      have HM3 := Lib.hid hm3
      have HB3 := Lib.hid hb3
      clear la3 hm3 hb3
      go_wp2_with fail
      refine (refMay kk cap rd _).mono ?_
      rintro e w4 ⟨rfl, hb4⟩
      rw [HM.out]
      have hm4 := HM3.out.later hb4
      have hb4 := HB3.out.trans (hb4.mono HB3.out.size)
      have la4 := LA.out.below hb4 LA.out.lt
      clear c0 c1 c2 HM3 HB3 hla HM
      have c0 := (la4.cell 0).trans (show _ = some (Value.int .i64 kk) from rfl)
      have c1 := (la4.cell 1).trans (show _ = some (Value.int .i64 (cap : Int)) from rfl)
      have c2 := (la4.cell 2).trans (show _ = some (Value.int .i64 (rd : Int)) from rfl)
      have hla := la4.lt
      have HM4 := Lib.hid hm4
      have HB4 := Lib.hid hb4
      have HRN := Lib.hid (fun w => r14New kk cap rd w n4)
      clear la4 hm4 hb4
      go_wp2_with fail
      refine (HRN.out _).mono ?_
      rintro e w5 ⟨AG, rfl, hg5, hn5, hb5⟩
      have hm5 := HM4.out.later hb5
      obtain ⟨v1, v2, v3⟩ := HM4.out.vlt
      have hw45 := hb5.size
      have hb5 := HB4.out.trans (hb5.mono HB4.out.size)
      have hbq : Below w5.heap.size w5 (w5.alloc (.cells (m4V cap none 0 0 AG rd rd false) 34)) := (Below.refl _ _).alloc (Nat.le_refl _) _
      have hsz : (w5.alloc (.cells (m4V cap none 0 0 AG rd rd false) 34)).heap.size = w5.heap.size + 1 := by simp
      have hG0 : (newM cap rd).G.length = rd := by unfold newM; simp
      have hst : PlS wA (w5.alloc (.cells (m4V cap none 0 0 AG rd rd false) 34)) g gb none w5.heap.size (newM cap rd) (m4V (newM cap rd).cap none ([] : List Int).length 0 AG (newM cap rd).G.length rd (newM cap rd).cl) [] (newM cap rd).G none 0 AG rd := by
        rw [hG0]
        have s4 : SeqAt (w5.alloc (.cells (m4V cap none 0 0 AG rd rd false) 34)) (.slice AG (newM cap rd).G.length rd) (cellsI (newM cap rd).G) := by rw [hG0]; exact hg5.later_ hbq
        have s5 : Apart (w5.alloc (.cells (m4V cap none 0 0 AG rd rd false) 34)) g gb none w5.heap.size none := fun b o e => by cases e
        have s6 : Apart (w5.alloc (.cells (m4V cap none 0 0 AG rd rd false) 34)) g gb none w5.heap.size AG := fun b o e => by
          rcases hn5 with rfl | hn5
          · cases e
          · obtain ⟨a, b'⟩ := hn5 b o e
            refine ⟨by omega, by omega, by omega, by simp, by omega⟩
        exact ⟨hm5.later hbq, Lies.made _ _ _, (OwnsOff.nil _ 0 0).seq, s4, s5, s6, hb5.size, hb5.trans (hbq.mono hb5.size)⟩
      have HST := Lib.hid hst
      have hlp : leastG (newM cap rd).G = 0 := by
        have := List.eq_of_mem_replicate (show leastG (newM cap rd).G ∈ List.replicate rd 0 from leastG_in (by simp; omega))
        exact this
      have HLP := Lib.hid hlp
      clear hst hbq hsz hm5 hb5 hg5 hn5 HM4 HB4 HRN v1 v2 v3 c0 c1 c2 hla hlp hG0
      go_wp2_with fail
      generalize w5.alloc (.cells (m4V cap none 0 0 AG rd rd false) 34) = w6 at *
      generalize w5.heap.size = q at *
      go_loopw [46] (fun u wr => ∃ (k : Nat) (M : Md) (vb : Option Nat) (L : List Int) (AL : Option Addr) (cL : Nat) (AG : Option Addr) (cG : Nat), k ≤ ops.length ∧ u = .int .i64 k ∧ Hid (AllOk M L) ∧ Hid (M.p = leastG M.G) ∧ L.length ≤ k ∧ (AL = none → L.length = 0 ∧ cL = 0) ∧ Hid (PlS wA wr g gb vb q M (m4V M.cap AL L.length cL AG M.G.length cG M.cl) L M.G AL cL AG cG)) (fun u _ => ops.length - (intOf u).toNat)
      case atStart => exact ⟨0, newM cap rd, none, [], none, 0, AG, rd, by omega, rfl, ⟨rfl, rfl⟩, HLP.out.symm, Nat.le_refl _, fun _ => ⟨rfl, rfl⟩, HST⟩
      case round =>
        clear HST HLP
        obtain ⟨k, M, vb, L, AL, cL, AG, cG, hk, rfl, hall, hlp, hlk, hAn, hpl⟩ := hrel
        have hbw := hpl.out.2.2.2.2.2.2.2
        have hbr := HBA.out.trans (hbw.mono HBA.out.size)
        by_cases hlt : k < ops.length
        · have hki : (k : Int) < (ops.length : Int) := by omega
          obtain ⟨x, hx⟩ : ∃ x, ops[k]? = some x := ⟨_, List.getElem?_eq_getElem hlt⟩
          obtain ⟨b, off, rfl, hbl, gx⟩ := SeqS.at_ op3F_length (by decide) (HS.out.later hbr) hx
          have x0 := gx 0 _ (by decide) rfl
          have x1 := gx 1 _ (by decide) rfl
          have x2 := gx 2 _ (by decide) rfl
          rw [Nat.add_zero] at x0
          have hbq : Below wr.heap.size wr (wr.alloc (.cells #[.int .i64 x.k, .int .i64 x.j, .int .u64 x.v] 38)) := (Below.refl _ _).alloc (Nat.le_refl _) _
          have HQX := Lib.hid (Lies.made wr 38 #[.int .i64 x.k, .int .i64 x.j, .int .u64 x.v])
          have HP1 := Lib.hid (hpl.out.later hbq)
          have hqlt : q < wr.heap.size := hpl.out.2.1.lt
          have hLL : L.length ≤ 1000 := by omega
          have HLK := Lib.hid hlk
          have HAN := Lib.hid hAn
          clear hbw hbr hx gx hbl hbq hpl hlk hAn
          go_upto_block 2 with (fail)
          go_cut [10, 11, 12, 13] (fun s10 s11 s12 s13 wx => ∃ (V : Int) (E : Nat) (M' : Md) (vb' : Option Nat) (L' : List Int) (AL' : Option Addr) (cL' : Nat) (AG' : Option Addr) (cG' : Nat), s10 = .int .u64 V ∧ s11 = .int .u64 V ∧ s12 = .int .i64 E ∧ s13 = .int .i64 E ∧ Hid (AllOk M' L') ∧ Hid (M'.p = leastG M'.G) ∧ L'.length ≤ L.length + 1 ∧ (AL' = none → L'.length = 0 ∧ cL' = 0) ∧ Hid (PlS wA wx g gb vb' q M' (m4V M'.cap AL' L'.length cL' AG' M'.G.length cG' M'.cl) L' M'.G AL' cL' AG' cG') ∧ Hid (Lies wx wr.heap.size 38 #[.int .i64 x.k, .int .i64 x.j, .int .u64 x.v]))
          case first =>
            obtain ⟨p1, p2, p3⟩ := HP1.out.1.apart HQX.out (by decide) (by decide)
            by_cases k0 : (wrap64 ((IntKind.u64.wrap x.k).tmod 3) == 0) = true
            · have HC := Lib.hid (mdPut x.v HP1.out.1 (by have := hall.out.1; omega))
              go_wp2_with fail
              refine HC.out.mono ?_
              rintro e w3 ⟨rfl, hst⟩
              obtain ⟨vb3, hp3⟩ := HP1.out.step hst
              have lq3 := HQX.out.step hst p1 p2 p3
              have HC := Lib.hid (r14Put x.v HP1.out.1.1 hall.out hlp.out hp3.2.2.1 hp3.2.2.2.1 HAN.out hLL)
              have d0 := hp3.2.1.cell 0
              have d1 := hp3.2.1.cell 1
              have d2 := hp3.2.1.cell 2
              have d3 := hp3.2.1.cell 3
              simp only [List.getElem?_toArray, List.getElem?_cons_zero, List.getElem?_cons_succ] at d0 d1 d2 d3
              have d4 := hp3.2.1.lt
              have y2 := (lq3.cell 2).trans (show _ = some (Value.int .u64 x.v) from rfl)
              have y3 := lq3.lt
              have HP3 := Lib.hid hp3
              have LQ3 := Lib.hid lq3
              clear hst hp3 lq3 x0 x1 x2 p1 p2 p3
              go_wp2_with fail
              refine HC.out.mono ?_
              rintro e w8 ⟨AL', cL', rfl, hs8, hn8, ha8, hb8⟩
              obtain ⟨e1, e2, e3, e4⟩ := mput_same M x.v
              have hp8 := HP3.out.next hb8 hs8 (HP3.out.2.2.2.1.later_ hb8) ha8 (.inl rfl) rfl (.int .i64 (M.cap : Int)) (.slice AL' (putL M L x.v).length cL') (.slice AG M.G.length cG) (.bool M.cl)
              have l8 := HP3.out.2.1.below hb8 HP3.out.2.1.lt
              have hl8 : Hid (Lies (stf w8 q (.int .i64 (M.cap : Int)) (.slice AL' (putL M L x.v).length cL') (.slice AG M.G.length cG) (.bool M.cl)) wr.heap.size 38 #[.int .i64 x.k, .int .i64 x.j, .int .u64 x.v]) := (LQ3.out.below hb8 LQ3.out.lt).kept (stf_kept _ _ _ _ _ _) (fun (e : wr.heap.size = q) => by omega)
              have hpp : Hid (PlS wA (stf w8 q (.int .i64 (M.cap : Int)) (.slice AL' (putL M L x.v).length cL') (.slice AG M.G.length cG) (.bool M.cl)) g gb vb3 q (mputM M x.v) (m4V (mputM M x.v).cap AL' (putL M L x.v).length cL' AG (mputM M x.v).G.length cG (mputM M x.v).cl) (putL M L x.v) (mputM M x.v).G AL' cL' AG cG) := by
                show PlS _ _ _ _ _ _ _ _ _ _ _ _ _ _
                rw [e1, e2, e3]; exact hp8
              have hlp' : Hid ((mputM M x.v).p = leastG (mputM M x.v).G) := by show _ = _; rw [e3, e4]; exact hlp.out
              have hal' := Lib.hid (hall.out.put_ x.v)
              have hpl' := putL_length M L x.v
              clear d0 d1 d2 d3 d4 y2 y3 e1 e2 e3 e4 hp8 hs8 ha8
              have d0 := l8.cell 0
              have d1 := l8.cell 1
              have d2 := l8.cell 2
              have d3 := l8.cell 3
              simp only [List.getElem?_toArray, List.getElem?_cons_zero, List.getElem?_cons_succ] at d0 d1 d2 d3
              have f0 := l8.free 0
              have f1 := l8.free 1
              have f2 := l8.free 2
              have f3 := l8.free 3
              have f4 := l8.lt
              clear l8 hb8
              go_wp2
              go_meet
              exact ⟨mputV M, mputE M, mputM M x.v, vb3, putL M L x.v, AL', cL', AG, cG, rfl, rfl, rfl, rfl, hal', hlp', hpl', hn8, hpp, hl8⟩
            · have k0 : (wrap64 ((IntKind.u64.wrap x.k).tmod 3) == 0) = false := by simpa using k0
              by_cases k1 : (wrap64 ((IntKind.u64.wrap x.k).tmod 3) == 1) = true
              · have HC := Lib.hid (mdGet x.j HP1.out.1)
                go_wp2_with fail
                refine HC.out.mono ?_
                rintro e w3 ⟨rfl, hst⟩
                obtain ⟨vb3, hp3⟩ := HP1.out.step hst
                have lq3 := HQX.out.step hst p1 p2 p3
                have HC := Lib.hid (r14Get x.j HP1.out.1.1 hall.out hp3.2.2.1 hp3.2.2.2.1 hLL)
                have d0 := hp3.2.1.cell 0
                have d1 := hp3.2.1.cell 1
                have d2 := hp3.2.1.cell 2
                have d3 := hp3.2.1.cell 3
                simp only [List.getElem?_toArray, List.getElem?_cons_zero, List.getElem?_cons_succ] at d0 d1 d2 d3
                have d4 := hp3.2.1.lt
                have y1 := (lq3.cell 1).trans (show _ = some (Value.int .i64 x.j) from rfl)
                have y3 := lq3.lt
                have HP3 := Lib.hid hp3
                have LQ3 := Lib.hid lq3
                have hok1 := Lib.hid HP1.out.1.1
                clear hst hp3 lq3 x0 x1 x2 p1 p2 p3
                go_wp2_with fail
                refine HC.out.mono ?_
                rintro e w8 ⟨AG', cG', rfl, hs8, ha8, hb8⟩
                obtain ⟨e1, e2⟩ := mget_same M x.j
                have hp8 := HP3.out.next hb8 (HP3.out.2.2.1.later_ hb8) hs8 (.inl rfl) ha8 rfl (.int .i64 (M.cap : Int)) (.slice AL L.length cL) (.slice AG' (mgetM M x.j).G.length cG') (.bool M.cl)
                have l8 := HP3.out.2.1.below hb8 HP3.out.2.1.lt
                have hl8 : Hid (Lies (stf w8 q (.int .i64 (M.cap : Int)) (.slice AL L.length cL) (.slice AG' (mgetM M x.j).G.length cG') (.bool M.cl)) wr.heap.size 38 #[.int .i64 x.k, .int .i64 x.j, .int .u64 x.v]) := (LQ3.out.below hb8 LQ3.out.lt).kept (stf_kept _ _ _ _ _ _) (fun (e : wr.heap.size = q) => by omega)
                have hpp : Hid (PlS wA (stf w8 q (.int .i64 (M.cap : Int)) (.slice AL L.length cL) (.slice AG' (mgetM M x.j).G.length cG') (.bool M.cl)) g gb vb3 q (mgetM M x.j) (m4V (mgetM M x.j).cap AL L.length cL AG' (mgetM M x.j).G.length cG' (mgetM M x.j).cl) L (mgetM M x.j).G AL cL AG' cG') := by
                  show PlS _ _ _ _ _ _ _ _ _ _ _ _ _ _
                  rw [e1, e2]; exact hp8
                have hlp' := Lib.hid (mget_least hlp.out x.j)
                have hal' := Lib.hid (hall.out.get_ hok1.out x.j)
                clear d0 d1 d2 d3 d4 y1 y3 e1 e2 hp8 hs8 ha8
                have d0 := l8.cell 0
                have d1 := l8.cell 1
                have d2 := l8.cell 2
                have d3 := l8.cell 3
                simp only [List.getElem?_toArray, List.getElem?_cons_zero, List.getElem?_cons_succ] at d0 d1 d2 d3
                have f0 := l8.free 0
                have f1 := l8.free 1
                have f2 := l8.free 2
                have f3 := l8.free 3
                have f4 := l8.lt
                clear l8 hb8
                go_wp2
                go_meet
                exact ⟨mgetV M x.j, mgetE M x.j, mgetM M x.j, vb3, L, AL, cL, AG', cG', rfl, rfl, rfl, rfl, hal', hlp', by omega, HAN.out, hpp, hl8⟩
              · have k1 : (wrap64 ((IntKind.u64.wrap x.k).tmod 3) == 1) = false := by simpa using k1
                have HC := Lib.hid (mdClose HP1.out.1)
                go_wp2_with fail
                refine HC.out.mono ?_
                rintro e w3 ⟨rfl, hst⟩
                obtain ⟨vb3, hp3⟩ := HP1.out.step hst
                have lq3 := HQX.out.step hst p1 p2 p3
                have hpp : Hid (PlS wA (w3.setCell ⟨q, 3, none⟩ (.bool true)) g gb vb3 q (closeM M) (m4V (closeM M).cap AL L.length cL AG (closeM M).G.length cG (closeM M).cl) L (closeM M).G AL cL AG cG) := hp3.shut
                have hl8 : Hid (Lies (w3.setCell ⟨q, 3, none⟩ (.bool true)) wr.heap.size 38 #[.int .i64 x.k, .int .i64 x.j, .int .u64 x.v]) := lq3.kept (Kept.put _ _ _ _) (fun (e : wr.heap.size = q) => by omega)
                have hal' : Hid (AllOk (closeM M) L) := hall
                have hlp' : Hid ((closeM M).p = leastG (closeM M).G) := hlp
                have d3 := (hp3.2.1.cell 3).trans (show _ = some (Value.bool M.cl) from rfl)
                have f3 := hp3.2.1.free 3
                have f4 := hp3.2.1.lt
                clear hst hp3 lq3 x0 x1 x2 p1 p2 p3
                go_wp2
                go_meet
                exact ⟨0, 0, closeM M, vb3, L, AL, cL, AG, cG, rfl, rfl, rfl, rfl, hal', hlp', by omega, HAN.out, hpp, hl8⟩
          case rest =>
            obtain ⟨V, E, M', vb', L', AL', cL', AG', cG', rfl, rfl, rfl, rfl, hal', hlp', hll', hnn', hpp, hl8⟩ := hcut
            clear HP1 HQX hall hlp x0 x1 x2
            have hlk' : L'.length ≤ k + 1 := by have := HLK.out; omega
            have hLL' : L'.length ≤ 1000 := by omega
            clear HLK HAN hLL hll'
            go_wp2_with fail
            have hPN : PlS wA wc.drew g gb vb' q M' (m4V M'.cap AL' L'.length cL' AG' M'.G.length cG' M'.cl) L' M'.G AL' cL' AG' cG' ∧ Lies wc.drew wr.heap.size 38 #[.int .i64 x.k, .int .i64 x.j, .int .u64 x.v] := ⟨hpp.out.later (below_drewN (Below.refl _ _) 1), Lies.drew hl8.out⟩
            refine wp_region_held_drew (S := fun y => PlS wA y g gb vb' q M' (m4V M'.cap AL' L'.length cL' AG' M'.G.length cG' M'.cl) L' M'.G AL' cL' AG' cG' ∧ Lies y wr.heap.size 38 #[.int .i64 x.k, .int .i64 x.j, .int .u64 x.v]) (by kernel_rfl) hPN (fun hHeld => ?_)
            try simp only [Act.put, List.setIfInBounds_toArray, List.set_cons_zero, List.set_cons_succ]
            clear hPN hpp hl8
            generalize wc.drew = wd at *
            refine wpAnyH_take (i := 0) (v := (.int .u64 V)) rfl (by kernel_rfl) (by kernel_rfl) (by kernel_rfl) (fun _ _ _ h => h) (Or.inl ⟨by rfl, fun w h => by (simp only [List.getElem_toArray, List.getElem_cons_succ, List.getElem_cons_zero]; clear h; go_simp)⟩) (by assumption) ?_
            simp only [Act.put, List.getElem_toArray, List.getElem_cons_succ, List.getElem_cons_zero, List.setIfInBounds_toArray, List.set_cons_zero, List.set_cons_succ]
            refine wpAnyH_take (i := 1) (v := (.int .u64 V)) rfl (by kernel_rfl) (by kernel_rfl) (by kernel_rfl) (fun _ _ _ h => h) (Or.inl ⟨by rfl, fun w h => by (simp only [List.getElem_toArray, List.getElem_cons_succ, List.getElem_cons_zero]; clear h; go_simp)⟩) (by assumption) ?_
            simp only [Act.put, List.getElem_toArray, List.getElem_cons_succ, List.getElem_cons_zero, List.setIfInBounds_toArray, List.set_cons_zero, List.set_cons_succ]
            refine wpAnyH_take (i := 2) (v := ((.bool false))) rfl (by kernel_rfl) (by kernel_rfl) (by kernel_rfl) (fun _ _ _ h => h) (Or.inl ⟨by rfl, fun w h => by (simp only [List.getElem_toArray, List.getElem_cons_succ, List.getElem_cons_zero]; clear h; go_simp)⟩) (by assumption) ?_
            simp only [Act.put, List.getElem_toArray, List.getElem_cons_succ, List.getElem_cons_zero, List.setIfInBounds_toArray, List.set_cons_zero, List.set_cons_succ]
            refine wpAnyH_take (i := 3) (v := (.bool false)) rfl (by kernel_rfl) (by kernel_rfl) (by kernel_rfl) (fun _ _ _ h => h) (Or.inl ⟨by rfl, fun w h => by (simp only [List.getElem_toArray, List.getElem_cons_succ, List.getElem_cons_zero]; clear h; go_simp)⟩) (by assumption) ?_
            simp only [Act.put, List.getElem_toArray, List.getElem_cons_succ, List.getElem_cons_zero, List.setIfInBounds_toArray, List.set_cons_zero, List.set_cons_succ]
            refine wpAnyH_take (i := 4) (v := (.int .i64 E)) rfl (by kernel_rfl) (by kernel_rfl) (by kernel_rfl) (fun _ _ _ h => h) (Or.inl ⟨by rfl, fun w h => by (simp only [List.getElem_toArray, List.getElem_cons_succ, List.getElem_cons_zero]; clear h; go_simp)⟩) (by assumption) ?_
            simp only [Act.put, List.getElem_toArray, List.getElem_cons_succ, List.getElem_cons_zero, List.setIfInBounds_toArray, List.set_cons_zero, List.set_cons_succ]
            refine wpAnyH_take (i := 5) (v := (.int .i64 E)) rfl (by kernel_rfl) (by kernel_rfl) (by kernel_rfl) (fun _ _ _ h => h) (Or.inl ⟨by rfl, fun w h => by (simp only [List.getElem_toArray, List.getElem_cons_succ, List.getElem_cons_zero]; clear h; go_simp)⟩) (by assumption) ?_
            simp only [Act.put, List.getElem_toArray, List.getElem_cons_succ, List.getElem_cons_zero, List.setIfInBounds_toArray, List.set_cons_zero, List.set_cons_succ]
            refine wpAnyH_take (i := 6) (v := ((.bool false))) rfl (by kernel_rfl) (by kernel_rfl) (by kernel_rfl) (fun _ _ _ h => h) (Or.inl ⟨by rfl, fun w h => by (simp only [List.getElem_toArray, List.getElem_cons_succ, List.getElem_cons_zero]; clear h; go_simp)⟩) (by assumption) ?_
            simp only [Act.put, List.getElem_toArray, List.getElem_cons_succ, List.getElem_cons_zero, List.setIfInBounds_toArray, List.set_cons_zero, List.set_cons_succ]
            refine wpAnyH_take (i := 7) (v := ((.bool false))) rfl (by kernel_rfl) (by kernel_rfl) (by kernel_rfl) (fun _ _ _ h => h) (Or.inl ⟨by rfl, fun w h => by (simp only [List.getElem_toArray, List.getElem_cons_succ, List.getElem_cons_zero]; clear h; go_simp)⟩) (by assumption) ?_
            simp only [Act.put, List.getElem_toArray, List.getElem_cons_succ, List.getElem_cons_zero, List.setIfInBounds_toArray, List.set_cons_zero, List.set_cons_succ]
            refine wpAnyH_take (i := 8) (v := (.bool false)) rfl (by kernel_rfl) (by kernel_rfl) (by kernel_rfl) (fun _ _ _ h => h) (Or.inl ⟨by rfl, fun w h => by (simp only [List.getElem_toArray, List.getElem_cons_succ, List.getElem_cons_zero]; clear h; go_simp)⟩) (by assumption) ?_
            simp only [Act.put, List.getElem_toArray, List.getElem_cons_succ, List.getElem_cons_zero, List.setIfInBounds_toArray, List.set_cons_zero, List.set_cons_succ]
            refine wpAnyH_take (i := 9) (v := (.pointer (some ⟨g, 0, none⟩))) rfl (by kernel_rfl) (by kernel_rfl) (by kernel_rfl) (fun _ _ _ h => h) (Or.inl ⟨by rfl, fun w h => by (simp only [List.getElem_toArray, List.getElem_cons_succ, List.getElem_cons_zero]; clear h; go_simp)⟩) (by assumption) ?_
            simp only [Act.put, List.getElem_toArray, List.getElem_cons_succ, List.getElem_cons_zero, List.setIfInBounds_toArray, List.set_cons_zero, List.set_cons_succ]
            refine wpAnyH_take (i := 10) (v := (.pointer (some ⟨wr.heap.size, 1, none⟩))) rfl (by kernel_rfl) (by kernel_rfl) (by kernel_rfl) (fun _ _ _ h => h) (Or.inl ⟨by rfl, fun w h => by (simp only [List.getElem_toArray, List.getElem_cons_succ, List.getElem_cons_zero]; clear h; go_simp)⟩) (by assumption) ?_
            simp only [Act.put, List.getElem_toArray, List.getElem_cons_succ, List.getElem_cons_zero, List.setIfInBounds_toArray, List.set_cons_zero, List.set_cons_succ]
            refine wpAnyH_take (i := 11) (v := (.int .i64 x.j)) rfl (by kernel_rfl) (by kernel_rfl) (by kernel_rfl) (fun _ _ _ h => h) (Or.inl ⟨by rfl, fun w h => by (simp only [List.getElem_toArray, List.getElem_cons_succ, List.getElem_cons_zero]; have h1 := (h.2.cell 1).trans (show _ = some (Value.int .i64 x.j) from rfl); clear h; go_simp)⟩) (by assumption) ?_
            simp only [Act.put, List.getElem_toArray, List.getElem_cons_succ, List.getElem_cons_zero, List.setIfInBounds_toArray, List.set_cons_zero, List.set_cons_succ]
            refine wpAnyH_take (i := 13) (v := (.agg #[.int .i64 (M'.cap : Int), .slice AL' L'.length cL', .slice AG' M'.G.length cG', .bool M'.cl])) rfl (by kernel_rfl) (by kernel_rfl) (by kernel_rfl) (fun _ _ _ h => h) (Or.inl ⟨by rfl, fun w h => by (simp only [List.getElem_toArray, List.getElem_cons_succ, List.getElem_cons_zero]; have k0 := h.1.2.1.cell 0; have k1 := h.1.2.1.cell 1; have k2 := h.1.2.1.cell 2; have k3 := h.1.2.1.cell 3; simp only [List.getElem?_toArray, List.getElem?_cons_zero, List.getElem?_cons_succ] at k0 k1 k2 k3; clear h; go_simp)⟩) (by assumption) ?_
            simp only [Act.put, List.getElem_toArray, List.getElem_cons_succ, List.getElem_cons_zero, List.setIfInBounds_toArray, List.set_cons_zero, List.set_cons_succ]
            refine wpAnyH_take (i := 14) (v := (.pointer (some ⟨wr.heap.size, 1, none⟩))) rfl (by kernel_rfl) (by kernel_rfl) (by kernel_rfl) (fun _ _ _ h => h) (Or.inl ⟨by rfl, fun w h => by (simp only [List.getElem_toArray, List.getElem_cons_succ, List.getElem_cons_zero]; clear h; go_simp)⟩) (by assumption) ?_
            simp only [Act.put, List.getElem_toArray, List.getElem_cons_succ, List.getElem_cons_zero, List.setIfInBounds_toArray, List.set_cons_zero, List.set_cons_succ]
            refine wpAnyH_take (i := 15) (v := (.int .i64 x.j)) rfl (by kernel_rfl) (by kernel_rfl) (by kernel_rfl) (fun _ _ _ h => h) (Or.inl ⟨by rfl, fun w h => by (simp only [List.getElem_toArray, List.getElem_cons_succ, List.getElem_cons_zero]; have h1 := (h.2.cell 1).trans (show _ = some (Value.int .i64 x.j) from rfl); clear h; go_simp)⟩) (by assumption) ?_
            simp only [Act.put, List.getElem_toArray, List.getElem_cons_succ, List.getElem_cons_zero, List.setIfInBounds_toArray, List.set_cons_zero, List.set_cons_succ]
            refine wpAnyH_ready (rs := [12]) (by kernel_rfl) (by simp) ?_
            refine AllReadyH.cons rfl (fun K hK => ?_) AllReadyH.nil
            rw [if_pos (by rfl)]
            go_wp2_with fail
            refine (mdLeft x.j hHeld.1.1).mono ?_
            rintro e w' ⟨A1, c1', rfl, o1, hbN⟩
            dsimp only
            have hN := And.intro (hHeld.1.later hbN) (hHeld.2.below hbN hHeld.2.lt)
            have P1 := Lib.hid (SeqAt.of_owns o1)
            refine hK.out _ _ hN (fun _ => ?_)
            clear hK K hHeld hbN o1
            try simp only [Act.put, List.setIfInBounds_toArray, List.set_cons_zero, List.set_cons_succ]
            have hHeld := hN
            clear hN
            refine wpAnyH_ready (rs := [16]) (by kernel_rfl) (by simp) ?_
            refine AllReadyH.cons rfl (fun K hK => ?_) AllReadyH.nil
            rw [if_pos (by rfl)]
            go_wp2_with fail
            refine (r14Rest x.j hHeld.1.1.1 hal'.out hHeld.1.2.2.1 hHeld.1.2.2.2.1 hLL').mono ?_
            rintro e w9 ⟨A2, c2', rfl, o2, hbN⟩
            dsimp only
            have hN := And.intro (hHeld.1.later hbN) (hHeld.2.below hbN hHeld.2.lt)
            have P1 := Lib.hid (P1.out.later_ hbN)
            have P2 := Lib.hid o2
            refine hK.out _ _ hN (fun _ => ?_)
            clear hK K hHeld hbN o2
            try simp only [Act.put, List.setIfInBounds_toArray, List.set_cons_zero, List.set_cons_succ]
            have hHeld := hN
            clear hN
            refine wpAnyH_ready (rs := [17]) (by kernel_rfl) (by simp) ?_
            refine AllReadyH.cons rfl (fun K hK => ?_) AllReadyH.nil
            rw [if_pos (by rfl)]
            go_wp2_with fail
            refine (refSame _ _ (leftM M' x.j) (leftM M' x.j) w9 P1.out P2.out).mono ?_
            rintro e w10 ⟨rfl, nn, hw10⟩
            dsimp only
            have hN : PlS wA w10 g gb vb' q M' (m4V M'.cap AL' L'.length cL' AG' M'.G.length cG' M'.cl) L' M'.G AL' cL' AG' cG' ∧ Lies w10 wr.heap.size 38 #[.int .i64 x.k, .int .i64 x.j, .int .u64 x.v] := by rw [hw10]; exact ⟨hHeld.1.later (below_drewN (Below.refl _ _) nn), hHeld.2⟩
            refine hK.out _ _ hN (fun _ => ?_)
            clear hK K hHeld hw10
            try simp only [Act.put, List.setIfInBounds_toArray, List.set_cons_zero, List.set_cons_succ]
            have hHeld := hN
            clear hN
            refine wpAnyH_take (i := 18) (v := ((.bool false))) rfl (by kernel_rfl) (by kernel_rfl) (by kernel_rfl) (fun _ _ _ h => h) (Or.inl ⟨by rfl, fun w h => by (simp only [List.getElem_toArray, List.getElem_cons_succ, List.getElem_cons_zero]; clear h; go_simp)⟩) (by assumption) ?_
            simp only [Act.put, List.getElem_toArray, List.getElem_cons_succ, List.getElem_cons_zero, List.setIfInBounds_toArray, List.set_cons_zero, List.set_cons_succ]
            refine wpAnyH_take (i := 19) (v := ((.bool false))) rfl (by kernel_rfl) (by kernel_rfl) (by kernel_rfl) (fun _ _ _ h => h) (Or.inl ⟨by rfl, fun w h => by (simp only [List.getElem_toArray, List.getElem_cons_succ, List.getElem_cons_zero]; clear h; go_simp)⟩) (by assumption) ?_
            simp only [Act.put, List.getElem_toArray, List.getElem_cons_succ, List.getElem_cons_zero, List.setIfInBounds_toArray, List.set_cons_zero, List.set_cons_succ]
            refine wpAnyH_done (by kernel_rfl) ?_ _
            have HHD := Lib.hid hHeld.1
            clear hHeld
            go_wp2
            go_roundw
            case rel => exact ⟨k + 1, M', vb', L', AL', cL', AG', cG', by omega, by go_num, hal', hlp', hlk', hnn', HHD⟩
            case measure => simp [intOf]; omega
        · obtain rfl : k = ops.length := by omega
          clear hpl hall hlp hbw
          go_wp2
          go_ret
          exact ⟨rfl, hbr⟩
  · have hci : (200 : Int) < (ops.length : Int) := by omega
    go_wp2_with fail
    refine (awake_any _).mono ?_
    rintro e w3 ⟨rfl, hb3⟩
    have hb3 := HBA.out.trans ((HB1.out.trans (hb3.mono HB1.out.size)).mono HBA.out.size)
    go_wp2
    go_ret
    exact ⟨rfl, hb3⟩
end Go.Proofs.Ytflaaogopcgdaaa
