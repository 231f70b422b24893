import Derived.Test.YtahojmioonpodaaLaw7
namespace Go.Proofs.Ytahojmioonpodaa
open Go.RowKit
set_option linter.unusedVariables false
set_option linter.unusedSimpArgs false
set_option maxHeartbeats 4000000 in
set_option maxRecDepth 100000 in
theorem rplays_walk (z : Rc) (a1 : Option Addr) (len1 cap1 : Nat) (ops : List Op5) (w : World) (hz : rcOk z) (ha : ArgOf op5F 4 op5Ok w a1 len1 cap1 ops) :
    Calls Try.prog 3 #[.agg #[.int .i64 z.k, .int .i64 z.c, .int .i64 z.r], .slice a1 len1 cap1] w fun e w' => e = .returned (.bool true) ∧ Below w.heap.size w w' := by
  obtain ⟨k, c, r⟩ := z
  obtain ⟨hn, rfl, hs, hok⟩ := ha
  have hlc := hs.form
  obtain ⟨A', c', e', hc1, hc2, _⟩ := hlc
  simp only [Value.slice.injEq, true_and] at e'
  obtain ⟨rfl, rfl⟩ := e'
  unfold maxLen at hc2
  have hb := (Below.refl w.heap.size w).alloc (Nat.le_refl _) (.cells #[.int .i64 k, .int .i64 c, .int .i64 r] 23)
  have LO := Lib.hid (Lies.made w 23 #[.int .i64 k, .int .i64 c, .int .i64 r])
  have HB := Lib.hid hb
  have HS := Lib.hid hs
  have HOK := Lib.hid hok
  clear hb hs hok hz
  go_enter Try.func3, Try.ntmps3
  go_wp2_with fail
  refine (awake_any _).mono ?_
  rintro e w1 ⟨rfl, hb0⟩
  have lo1 := LO.out.below hb0 LO.out.lt
  have hb1 := HB.out.trans (hb0.mono HB.out.size)
  clear hb0
  have c0 := (lo1.cell 0).trans (show _ = some (Value.int .i64 k) from rfl)
  have c1 := (lo1.cell 1).trans (show _ = some (Value.int .i64 c) from rfl)
  have c2 := (lo1.cell 2).trans (show _ = some (Value.int .i64 r) from rfl)
  have LO1 := Lib.hid lo1
  clear lo1 LO HB
  by_cases h200 : ops.length ≤ 200
  · have hci : ¬ (200 : Int) < (ops.length : Int) := by omega
    obtain ⟨mb, hmb⟩ : ∃ mb, mayB k c r = mb := ⟨_, rfl⟩
    cases mb
    · have HN := Lib.hid (fun w => rgNewNo k c r w hmb)
      have HM := Lib.hid hmb
      clear hmb
      go_wp2_with fail
      refine (HN.out _).mono ?_
      rintro e w2 ⟨rfl, hb2⟩
      have lo2 := LO1.out.below hb2 LO1.out.lt
      have hb2 := hb1.trans (hb2.mono hb1.size)
      clear c0 c1 c2
      have c0 := (lo2.cell 0).trans (show _ = some (Value.int .i64 k) from rfl)
      have c1 := (lo2.cell 1).trans (show _ = some (Value.int .i64 c) from rfl)
      have c2 := (lo2.cell 2).trans (show _ = some (Value.int .i64 r) from rfl)
      clear lo2 LO1 hb1
      go_wp2_with fail
      refine (refMay k c r _).mono ?_
      rintro e w3 ⟨rfl, hb3⟩
      have hb3 := hb2.trans (hb3.mono hb2.size)
      rw [HM.out]
      go_wp2
      go_ret
      exact ⟨rfl, hb3⟩
    · have HM := Lib.hid hmb
      obtain ⟨cap, rfl⟩ : ∃ n : Nat, c = n := ⟨c.toNat, by have := of_decide_eq_true hmb; omega⟩
      obtain ⟨rd, rfl⟩ : ∃ n : Nat, r = n := ⟨r.toNat, by have := of_decide_eq_true hmb; omega⟩
      have hmb := of_decide_eq_true hmb
      have n1 : 1 ≤ cap := by omega
      have n2 : cap ≤ 64 := by omega
      have n3 : 1 ≤ rd := by omega
      have n4 : rd ≤ 8 := by omega
      have n5 : k = 1 ∧ rd = 1 ∨ k = 2 := by omega
      have HN := Lib.hid (fun w => rgNew k cap rd w n1 n2 n3 n4 n5)
      clear hmb n5
      go_wp2_with fail
      refine (HN.out _).mono ?_
      rintro e w2 ⟨g, rfl, hg, hr2, hb2⟩
      have hgw : w.heap.size ≤ g := Nat.le_trans hb1.size hg
      have lo2 := LO1.out.below hb2 LO1.out.lt
      have hb2 := hb1.trans (hb2.mono hb1.size)
      have HR2 := Lib.hid hr2
      clear c0 c1 c2
      have c0 := (lo2.cell 0).trans (show _ = some (Value.int .i64 k) from rfl)
      have c1 := (lo2.cell 1).trans (show _ = some (Value.int .i64 (cap : Int)) from rfl)
      have c2 := (lo2.cell 2).trans (show _ = some (Value.int .i64 (rd : Int)) from rfl)
      have LO2 := Lib.hid lo2
      clear lo2 LO1 hb1 hr2 hg HN
      go_wp2_with fail
      refine (refMay k cap rd _).mono ?_
      rintro e w3 ⟨rfl, hb3⟩
      rw [HM.out]
      have lo3 := LO2.out.below hb3 LO2.out.lt
      have hr3 := HR2.out.later hb3
      have hb3 := hb2.trans (hb3.mono hb2.size)
      have hg3 := hr3.lt
      have HR3 := Lib.hid hr3
      clear c0 c1 c2
      have c0 := (lo3.cell 0).trans (show _ = some (Value.int .i64 k) from rfl)
      have c1 := (lo3.cell 1).trans (show _ = some (Value.int .i64 (cap : Int)) from rfl)
      have c2 := (lo3.cell 2).trans (show _ = some (Value.int .i64 (rd : Int)) from rfl)
      have HNW := Lib.hid (fun w => ref13New k cap rd w n1 n2 n3 n4)
      clear lo3 LO2 hb2 hr3 HR2 HM
      go_wp2_with fail
      refine (HNW.out _).mono ?_
      rintro e w4 ⟨Ah, ch, As, cs, rfl, hh4, hs4, hA4, hS4, hb4⟩
      have hr4 := HR3.out.later hb4
      have hb4 := hb3.trans (hb4.mono hb3.size)
      have hL : (newR cap rd).L.length = cap := newS_length cap
      have hP : Calls Try.prog 13 #[.pointer (some ⟨g, 0, none⟩), .agg #[.int .u64 (cap : Int), .int .u64 0, .slice Ah rd ch, .bool false, .slice As cap cs, .int .i64 (rd : Int)], .slice a1 ops.length cap1] w4 fun e w' => e = .returned (.bool true) ∧ Kept (oneRow g) w4 w' := by
        obtain ⟨x0, hx0⟩ : ∃ x, (newS cap)[0]? = some x := ⟨_, List.getElem?_eq_getElem (by rw [newS_length]; omega)⟩
        obtain ⟨b8, o8, rfl, _⟩ := SeqS.at_ slF_length (by decide) hs4 hx0
        have := plays_walk (newR cap rd) ops Ah ch ⟨b8, o8, none⟩ cs a1 cap1 w4 hr4 hh4 (by rw [hL]; exact hs4) (fun b o e => by have := hA4 b o e; omega) (by have := hS4 b8 o8 rfl; simp only; omega) (HS.out.later hb4)
          (fun hne b o e => by
            obtain ⟨y, hy⟩ : ∃ y, ops[0]? = some y := ⟨_, List.getElem?_eq_getElem (by omega)⟩
            obtain ⟨b', o', e', hbl, _⟩ := SeqS.at_ op5F_length (by decide) HS.out hy
            rw [e] at e'
            simp only [Option.some.injEq, Addr.mk.injEq] at e'
            omega) HOK.out h200 (by show 0 + ops.length < _; omega)
        rw [hL] at this
        exact this
      have HP := Lib.hid hP
      clear hP hL hh4 hs4 hA4 hS4 hr4 HNW c0 c1 c2
      go_wp2_with fail
      refine HP.out.mono ?_
      rintro e w5 ⟨rfl, hk5⟩
      have hb5 := onto_one hb4 hk5 hgw
      go_wp2
      go_ret
      exact ⟨rfl, hb5⟩
  · have hci : (200 : Int) < (ops.length : Int) := by omega
    go_wp2_with fail
    refine (awake_any _).mono ?_
    rintro e w3 ⟨rfl, hb3⟩
    have hb3 := hb1.trans (hb3.mono hb1.size)
    go_wp2
    go_ret
    exact ⟨rfl, hb3⟩
end Go.Proofs.Ytahojmioonpodaa
