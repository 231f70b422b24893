import Derived.Test.YtakggmfpgopcgaaZz7
namespace Go.Proofs.Ytakggmfpgopcgaa
open Go.RowKit
set_option linter.unusedVariables false
set_option linter.unusedSimpArgs false
set_option maxHeartbeats 8000000 in
set_option maxRecDepth 100000 in
theorem reads_walk (s : ByteArray) (w : World) (w0 : s.size ≤ maxLen) :
  Calls Try.prog 4 #[.string s] w fun e w' => e = .returned (.bool true) ∧ Below w.heap.size w w' := by
 have HA := Lib.hid awake_any
 by_cases hl : 3000 < s.size
 ·have e2 : decide ((3000 : Int) < (s.size : Int)) = true := decide_eq_true (by omega)
  clear hl w0
  go_enter Try.func4, Try.ntmps4
  go_wp2_with fail
  refine (HA.out _).mono ?_
  rintro e w1 ⟨rfl, hb1⟩
  have HB1 := Lib.hid hb1
  clear hb1
  go_wp2_with fail
  refine (HA.out _).mono ?_
  rintro e w2 ⟨rfl, hb2⟩
  have HB2 := Lib.hid (HB1.out.trans (hb2.mono HB1.out.size))
  clear hb2 HB1 HA
  go_wp2_with fail
  go_ret
  exact ⟨rfl, HB2.out⟩
 ·have e2 : decide ((3000 : Int) < (s.size : Int)) = false := decide_eq_false (by omega)
  have HRD := Lib.hid (fun (q : World) => snapRead s q (by omega))
  have HIS := Lib.hid (fun h => rd_is (s := s) h)
  have HE : Hid (rdX s = (if rdYes s then rdX s else sta0) ∧ rdE s = (if rdYes s then 0 else 3)) := ⟨by unfold rdX; cases rdYes s <;> rfl, rfl⟩
  clear hl w0
  go_enter Try.func4, Try.ntmps4
  go_wp2_with fail
  refine (HA.out _).mono ?_
  rintro e w1 ⟨rfl, hb1⟩
  have HB1 := Lib.hid hb1
  have HR := Lib.hid (HRD.out w1)
  clear hb1 HA HRD
  go_wp2_with fail
  refine HR.out.mono ?_
  rintro e w2 ⟨tv, rv, rfl, ht, hr, hb2⟩
  have HB2 := Lib.hid (HB1.out.trans (hb2.mono HB1.out.size))
  clear hb2 HB1 HR e2
  obtain ⟨T1, T2, hT2, rfl⟩ : ∃ A c, c ≤ 9223372036854775807 ∧ tv = .slice A (rdX s).th.length c := by obtain ⟨ps, h1, h2, _⟩ := ht; obtain ⟨A, c, e, _, h⟩ := own_form2 h2; exact ⟨A, c, h, e⟩
  obtain ⟨U1, U2, hU2, rfl⟩ : ∃ A c, c ≤ 9223372036854775807 ∧ rv = .slice A (rdX s).rg.length c := by obtain ⟨ps, h1, h2, _⟩ := hr; obtain ⟨A, c, e, _, h⟩ := own_form2 h2; exact ⟨A, c, h, e⟩
  have HTR := Lib.hid (And.intro (owT_read ht) (owR_read hr))
  clear ht hr
  obtain ⟨S, hS⟩ : ∃ S, rdX s = S := ⟨_, rfl⟩
  obtain ⟨k, hk⟩ : ∃ k, rdE s = k := ⟨_, rfl⟩
  rw [hS] at HTR HIS HE ⊢
  rw [hk] at HE ⊢
  clear hS hk
  have HZ2 := Lib.hid (Lies.made w2 26 stZ2)
  go_upto_region 4 with (first | fail | refine wpList_store_row rfl 26 _ _ rfl w2.heap.size (stC (.slice T1 S.th.length T2) (.slice U1 S.rg.length U2) S.now S.rds S.en) rfl rfl 26 stZ2 HZ2.out infoSt2 rfl (stC_one2 rfl rfl) ?_)
  have hb3 := st_put w2 (stC (.slice T1 S.th.length T2) (.slice U1 S.rg.length U2) S.now S.rds S.en)
  have HB3 := Lib.hid (HB2.out.trans (hb3.mono HB2.out.size))
  have HZ3 := Lib.hid (lies_row2 HZ2.out (stC (.slice T1 S.th.length T2) (.slice U1 S.rg.length U2) S.now S.rds S.en))
  have HTR3 : Hid (ThsR ((w2.alloc (.cells stZ2 26)).setRow w2.heap.size (stC (.slice T1 S.th.length T2) (.slice U1 S.rg.length U2) S.now S.rds S.en)) (.slice T1 S.th.length T2) S.th ∧ RgsR ((w2.alloc (.cells stZ2 26)).setRow w2.heap.size (stC (.slice T1 S.th.length T2) (.slice U1 S.rg.length U2) S.now S.rds S.en)) (.slice U1 S.rg.length U2) S.rg) := ⟨HTR.out.1.later hb3, HTR.out.2.later hb3⟩
  clear hb3 HB2 HZ2 HTR
  generalize (w2.alloc (.cells stZ2 26)).setRow w2.heap.size (stC (.slice T1 S.th.length T2) (.slice U1 S.rg.length U2) S.now S.rds S.en) = w3 at *
  generalize w2.heap.size = g at *
  cases hy : rdYes s
  ·rw [hy] at HE
   have hk := HE.out
   simp only [Bool.false_eq_true, if_false] at hk
   obtain ⟨rfl, rfl⟩ := hk
   have HS := Lib.hid (fun (q : World) => (refSameO T1 U1 T2 U2 q hT2 hU2 : Calls Try.prog 9 #[.agg (stL0 T1 T2 U1 U2), .agg stZ2] q fun e w' => e = .returned (.bool true) ∧ Below q.heap.size q w'))
   have MB := fun q => run_build_st q
   have hld : (loadVar 26 ⟨g, 0, none⟩).run Try.prog w3 = .ok (.agg (st0 T1 T2 U1 U2)) w3 := st_loadL2 (n := 0) (r := 0) (e := false) HZ3.out
   have c0 := (HZ3.out.cell 0).trans (show _ = some (Value.slice T1 0 T2) from rfl)
   have c1 := (HZ3.out.cell 1).trans (show _ = some (Value.slice U1 0 U2) from rfl)
   have c2 := (HZ3.out.cell 2).trans (show _ = some (Value.int .u64 0) from rfl)
   have c3 := (HZ3.out.cell 3).trans (show _ = some (Value.int .u64 0) from rfl)
   have c4 := (HZ3.out.cell 4).trans (show _ = some (Value.bool false) from rfl)
   have cl := HZ3.out.lt
   clear HE hy HIS HTR3 HZ3 hld
   go_wp2_with fail
   refine (HS.out _).mono ?_
   rintro e w4 ⟨rfl, hb4⟩
   have HB4 := Lib.hid (HB3.out.trans (hb4.mono HB3.out.size))
   clear hb4 HB3 HS MB c0 c1 c2 c3 c4 cl
   go_wp2_with fail
   go_ret
   exact ⟨rfl, HB4.out⟩
  ·have hi := HIS.out hy
   rw [hy] at HE
   have hk := HE.out.2
   simp only [if_true] at hk
   subst hk
   obtain ⟨ok, en⟩ := stW_ok hi.2
   have HWR : Hid (∀ q, Below w3.heap.size w3 q → Calls Try.prog 10 #[.agg (stC (.slice T1 S.th.length T2) (.slice U1 S.rg.length U2) S.now S.rds S.en)] q fun e w' => e = .returned (.bool true) ∧ Below q.heap.size q w') := fun q hq => by
    have := refWritten S T1 U1 T2 U2 q (HTR3.out.1.later hq) (HTR3.out.2.later hq)
    rwa [en] at this
   have HPR : Hid (∀ q, Below w3.heap.size w3 q → Calls Try.prog 11 #[.agg (stC (.slice T1 S.th.length T2) (.slice U1 S.rg.length U2) S.now S.rds S.en)] q fun e w' => e = .returned (.string s) ∧ Below q.heap.size q w') := fun q hq => by
    have := refPrintS S T1 U1 T2 U2 q (HTR3.out.1.later hq) (HTR3.out.2.later hq) ok en
    rwa [hi.1] at this
   clear HE hy HIS HTR3 hi ok en
   have c0 := (HZ3.out.cell 0).trans (show _ = some (Value.slice T1 S.th.length T2) from rfl)
   have c1 := (HZ3.out.cell 1).trans (show _ = some (Value.slice U1 S.rg.length U2) from rfl)
   have c2 := (HZ3.out.cell 2).trans (show _ = some (Value.int .u64 S.now) from rfl)
   have c3 := (HZ3.out.cell 3).trans (show _ = some (Value.int .u64 S.rds) from rfl)
   have c4 := (HZ3.out.cell 4).trans (show _ = some (Value.bool S.en) from rfl)
   have cl := HZ3.out.lt
   go_wp2_with fail
   refine (HWR.out _ (Below.refl _ _)).mono ?_
   rintro e w4 ⟨rfl, hb4⟩
   have HB4 := Lib.hid (HB3.out.trans (hb4.mono HB3.out.size))
   have HZ4 := Lib.hid (HZ3.out.below hb4 HZ3.out.lt)
   have HP4 := Lib.hid (HPR.out w4 hb4)
   clear hb4 HB3 HZ3 HWR HPR c0 c1 c2 c3 c4 cl
   have c0 := (HZ4.out.cell 0).trans (show _ = some (Value.slice T1 S.th.length T2) from rfl)
   have c1 := (HZ4.out.cell 1).trans (show _ = some (Value.slice U1 S.rg.length U2) from rfl)
   have c2 := (HZ4.out.cell 2).trans (show _ = some (Value.int .u64 S.now) from rfl)
   have c3 := (HZ4.out.cell 3).trans (show _ = some (Value.int .u64 S.rds) from rfl)
   have c4 := (HZ4.out.cell 4).trans (show _ = some (Value.bool S.en) from rfl)
   have cl := HZ4.out.lt
   clear HZ4
   go_wp2_with fail
   refine HP4.out.mono ?_
   rintro e w5 ⟨rfl, hb5⟩
   have HB5 := Lib.hid (HB4.out.trans (hb5.mono HB4.out.size))
   clear hb5 HB4 HP4 c0 c1 c2 c3 c4 cl
   go_wp2_with fail
   go_ret
   exact ⟨rfl, HB5.out⟩
end Go.Proofs.Ytakggmfpgopcgaa
