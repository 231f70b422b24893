import Derived.WalkKit
import Derived.ProofKit
import Derived.Lib.Hide
import Derived.Lib.AppendStr
import Derived.Lib.SlBytesRow
import Derived.Laws.AppendOwnNone
import Derived.Deep.AppendLies
import Derived.Deep.Draws
import Derived.BigQuiet
import Derived.Deep.QuietTactic
import Derived.Deep.RegionWith
import Derived.OpenShut
import Derived.Outline
import Derived.Deep.Slices
import Derived.ChangeSame
import Derived.Laws.IdiomStrings
import Derived.SliceStrings
import Derived.Laws.DeepStrings4
import Derived.SizedLaws
import Derived.Laws.OwnMore
import Derived.Test.YtmadgdmiipgjoaaRows
import Derived.Deep.OwnRows
import Derived.Laws.StructEq
import Derived.Deep.DeepCutAuto
import Derived.IntWalk
import Derived.Lib.BufferRead
import Derived.Laws.BitsAllLaws
import Derived.Laws.Bits64
import Derived.Laws.Bits64b
import Derived.Deep.RegionHeld3
import Derived.Laws.DeepNot64
import Derived.Deep.MidRow
import Derived.RegionTactic
import Derived.StillTailTactics
import Derived.Deep.RegionLaw
import Derived.Laws.CopyOwn
import Derived.ShutString
import Derived.ChangeOld
import Derived.Below
import Derived.Test.YtmadgdmiipgjoaaZb1
namespace Go.Proofs.Ytmadgdmiipgjoaa
open Go.RowKit
set_option linter.unusedVariables false
set_option linter.unusedSimpArgs false
theorem prV_same {a b : List Ev} (ha : (chE a).2 = 0) (hb : (chE b).2 = 0) (h1 : ¬ 120 < a.length) (h2 : ¬ 120 < b.length) (oa : ∀ x ∈ a, evOk x) (ob : ∀ x ∈ b, evOk x) : ((textB (prV a)).toList == (textB (prV b)).toList) = decide (a = b) := by
 by_cases e : a = b
 ·subst e; simp
 ·rw [decide_eq_false e]
  refine text_ne (fun h' => ?_)
  have ra := rdC_back a 120 ha (by omega) (by omega) (by omega) oa
  have rb := rdC_back b 120 hb (by omega) (by omega) (by omega) ob
  rw [h', rb] at ra
  exact e (Prod.mk.inj ra).2.symm
set_option maxHeartbeats 8000000 in
set_option maxRecDepth 100000 in
theorem one_walk (a : Option Addr) (len cap : Nat) (z : List Ev) (a2 : Option Addr) (len2 cap2 : Nat) (y : List Ev) (W : World) (h : EvArg W a len cap z) (k : EvArg W a2 len2 cap2 y) :
  Calls Try.prog 4 #[.slice a len cap, .slice a2 len2 cap2] W fun e w' => e = .returned (.bool true) ∧ Below W.heap.size W w' := by
 obtain ⟨rfl, hz, hoz⟩ := h
 obtain ⟨rfl, hy, hoy⟩ := k
 obtain ⟨A', c', e', h1, h2, _⟩ := hz.form
 simp only [Value.slice.injEq, true_and] at e'
 obtain ⟨rfl, rfl⟩ := e'
 obtain ⟨B', d', e', k1, k2, _⟩ := hy.form
 simp only [Value.slice.injEq, true_and] at e'
 obtain ⟨rfl, rfl⟩ := e'
 unfold maxLen at h2 k2
 have HZ := Lib.hid (fun (q : World) (hq : Below W.heap.size W q) => SeqS.later hz hq)
 have HY := Lib.hid (fun (q : World) (hq : Below W.heap.size W q) => SeqS.later hy hq)
 have HB := Lib.hid (Below.refl W.heap.size W)
 have HRZ := Lib.hid (fun A c w h => rfCheck15 z A c w h)
 have HRY := Lib.hid (fun A c w h => rfCheck15 y A c w h)
 have HPZ := Lib.hid (fun A c w h => chunkPrint z A c w h hoz)
 have HPY := Lib.hid (fun A c w h => chunkPrint y A c w h hoy)
 have HSM := Lib.hid (fun w h k => rfSame15 z y a cap a2 cap2 w h k)
 have hsm := fun ha hb h1 h2 => prV_same (a := z) (b := y) ha hb h1 h2 hoz hoy
 obtain ⟨p, kz, hpk⟩ : ∃ p k, chE z = (p, k) := ⟨_, _, rfl⟩
 obtain ⟨q, ky, hqk⟩ : ∃ p k, chE y = (p, k) := ⟨_, _, rfl⟩
 rw [hpk] at HRZ HPZ hsm
 rw [hqk] at HRY HPY hsm
 simp only at HRZ HRY HPZ HPY hsm
 generalize textB (prV z) = P at *
 generalize textB (prV y) = Q at *
 obtain ⟨D, hD⟩ : ∃ D, D = decide (z = y) := ⟨_, rfl⟩
 rw [← hD] at HSM hsm
 clear hpk hqk hz hoz hy hoy hD
 by_cases hl : 120 < z.length
 ·have e1 : decide (120 < z.length) = true := decide_eq_true hl
  have e2 : decide ((120 : Int) < (z.length : Int)) = true := decide_eq_true (by omega)
  clear HRZ HPZ HSM HRY HPY hsm
  go_enter Try.func4, Try.ntmps4
  go_wp2_with fail
  refine (awake21 W).mono ?_
  rintro e w1 ⟨rfl, hb1⟩
  replace HB := Lib.hid (HB.out.trans (hb1.mono HB.out.size))
  clear hb1
  go_wp2_with fail
  refine (awake21 w1).mono ?_
  rintro e w2 ⟨rfl, hb2⟩
  replace HB := Lib.hid (HB.out.trans (hb2.mono HB.out.size))
  clear hb2
  go_wp2
  go_ret
  exact ⟨rfl, HB.out⟩
 have e1 : decide (120 < z.length) = false := decide_eq_false hl
 have e2 : decide ((120 : Int) < (z.length : Int)) = false := decide_eq_false (by omega)
 by_cases hl2 : 120 < y.length
 ·have e3 : decide (120 < y.length) = true := decide_eq_true hl2
  have e4 : decide ((120 : Int) < (y.length : Int)) = true := decide_eq_true (by omega)
  clear HRZ HPZ HSM HRY HPY hsm
  go_enter Try.func4, Try.ntmps4
  go_wp2_with fail
  refine (awake21 W).mono ?_
  rintro e w1 ⟨rfl, hb1⟩
  replace HB := Lib.hid (HB.out.trans (hb1.mono HB.out.size))
  clear hb1
  go_wp2_with fail
  refine (awake21 w1).mono ?_
  rintro e w2 ⟨rfl, hb2⟩
  replace HB := Lib.hid (HB.out.trans (hb2.mono HB.out.size))
  clear hb2
  go_wp2
  go_ret
  exact ⟨rfl, HB.out⟩
 have e3 : decide (120 < y.length) = false := decide_eq_false hl2
 have e4 : decide ((120 : Int) < (y.length : Int)) = false := decide_eq_false (by omega)
 have HSD := Lib.hid (fun ha hb => hsm ha hb hl hl2)
 clear hsm
 go_enter Try.func4, Try.ntmps4
 go_wp2_with fail
 refine (awake21 W).mono ?_
 rintro e w1 ⟨rfl, hb1⟩
 replace HB := Lib.hid (HB.out.trans (hb1.mono HB.out.size))
 clear hb1
 go_wp2_with fail
 refine (HRZ.out _ _ _ (HZ.out _ HB.out)).mono ?_
 rintro e w2 ⟨rfl, hb2⟩
 replace HB := Lib.hid (HB.out.trans (hb2.mono HB.out.size))
 clear hb2 HRZ
 by_cases hk : kz = 0
 case neg =>
  have e3 : ((kz : Int) != 0) = true := by rw [bne_iff_ne]; omega
  have e4 : (kz != 0) = true := by rw [bne_iff_ne]; exact hk
  clear hk HPZ HSM HRY HPY HSD
  go_wp2
  go_ret
  exact ⟨rfl, HB.out⟩
 subst hk
 go_wp2_with fail
 refine (HRY.out _ _ _ (HY.out _ HB.out)).mono ?_
 rintro e w3 ⟨rfl, hb3⟩
 replace HB := Lib.hid (HB.out.trans (hb3.mono HB.out.size))
 clear hb3 HRY
 by_cases hk : ky = 0
 case neg =>
  have e3 : ((ky : Int) != 0) = true := by rw [bne_iff_ne]; omega
  have e4 : (ky != 0) = true := by rw [bne_iff_ne]; exact hk
  clear hk HPZ HSM HPY HSD
  go_wp2
  go_ret
  exact ⟨rfl, HB.out⟩
 subst hk
 replace HSD := Lib.hid (HSD.out (by trivial) (by trivial))
 go_wp2_with fail
 refine (HPZ.out _ _ _ (HZ.out _ HB.out)).mono ?_
 rintro e w4 ⟨rfl, hb4⟩
 replace HB := Lib.hid (HB.out.trans (hb4.mono HB.out.size))
 clear hb4 HPZ
 go_wp2_with fail
 refine (HPY.out _ _ _ (HY.out _ HB.out)).mono ?_
 rintro e w5 ⟨rfl, hb5⟩
 replace HB := Lib.hid (HB.out.trans (hb5.mono HB.out.size))
 clear hb5 HPY
 go_wp2_with fail
 refine (HSM.out _ (HZ.out _ HB.out) (HY.out _ HB.out)).mono ?_
 rintro e w6 ⟨rfl, hb6⟩
 replace HB := Lib.hid (HB.out.trans (hb6.mono HB.out.size))
 have hs := HSD.out
 clear hb6 HSM HSD HZ HY
 have hdd : (D == D) = true := by cases D <;> rfl
 go_wp2
 go_ret
 exact ⟨rfl, HB.out⟩
end Go.Proofs.Ytmadgdmiipgjoaa
