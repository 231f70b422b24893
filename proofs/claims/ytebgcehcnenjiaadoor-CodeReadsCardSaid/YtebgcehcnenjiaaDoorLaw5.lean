/-
  CodeReads: its walk.
-/
import Derived.Test.YtebgcehcnenjiaaDoorLaw3
import Derived.Test.YtebgcehcnenjiaaDoorRfrd2
namespace Go.Proofs.YtebgcehcnenjiaaDoor
open Go.RowKit
set_option linter.unusedVariables false
set_option linter.unusedSimpArgs false
set_option maxHeartbeats 16000000 in
set_option maxRecDepth 100000 in
theorem reads_walk (s : ByteArray) (W : World) (hs : s.size ≤ maxLen) (hN : NamesAt W) :
    Calls Tryd.prog 6 #[.string s] W fun e w' => e = .returned (.bool true) ∧ Below W.heap.size W w' := by
  have hml := hs
  unfold maxLen at hs
  have HB := Lib.hid (Below.refl W.heap.size W)
  have HN := Lib.hid hN
  have hgl := hN.lt
  clear hN
  go_enter Tryd.func6, Tryd.ntmps6
  go_wp2_with fail
  refine (awake_any _ HN.out).mono ?_
  rintro e w2 ⟨rfl, hbm⟩
  replace HB := Lib.hid (HB.out.trans (hbm.mono HB.out.size))
  clear hbm
  by_cases hlen : 1500 < s.size
  · have e1 : decide (1500 < s.size) = true := decide_eq_true hlen
    have e2 : decide ((1500 : Int) < (s.size : Int)) = true := decide_eq_true (by omega)
    go_wp2_with fail
    refine (awake_any _ (HN.out.later HB.out hgl)).mono ?_
    rintro e wz ⟨rfl, hbz⟩
    have hbz := HB.out.trans (hbz.mono HB.out.size)
    go_wp2
    go_ret
    exact ⟨rfl, hbz⟩
  have e1 : decide (1500 < s.size) = false := decide_eq_false hlen
  have e2 : decide ((1500 : Int) < (s.size : Int)) = false := decide_eq_false (by omega)
  go_wp2_with fail
  refine (codeRead s _ hml).mono ?_
  rintro e w3 ⟨A, c, B, d, rfl, hp, hbm⟩
  replace HB := Lib.hid (HB.out.trans (hbm.mono HB.out.size))
  clear hbm
  have hbm : Below w3.heap.size w3 (w3.alloc (.cells (pgC A c B d (rdP s)) 35)) := (Below.refl _ _).alloc (Nat.le_refl _) _
  have HP := Lib.hid (hp.later hbm)
  have HL := Lib.hid (Lies.made w3 35 (pgC A c B d (rdP s)))
  replace HB := Lib.hid (HB.out.trans (hbm.mono HB.out.size))
  have hcd : rdB s = true → rdC s = 0 ∧ prE (rdP s) = s ∧ prC (rdP s) = 0 := fun h => by
    obtain ⟨h1, h2⟩ := rdB_text h
    exact ⟨by unfold rdC; rw [h]; rfl, (prE_yes h1).trans h2, prC_yes h1⟩
  have hcn : rdB s = false → rdC s = 3 ∧ rdP s = ⟨[], []⟩ := fun h => ⟨by unfold rdC; rw [h]; rfl, rdP_no h⟩
  have HCD := Lib.hid hcd
  have HCN := Lib.hid hcn
  have HR := Lib.hid (fun w => rfRead s w (by omega))
  clear hp hbm hcd hcn e1 e2
  generalize rdP s = p at *
  generalize rdC s = rc at *
  generalize rdB s = rb at *
  go_wp2_with fail
  generalize w3.alloc (.cells (pgC A c B d p) 35) = w4 at *
  generalize w3.heap.size = n3 at *
  refine (HR.out _).mono ?_
  rintro e w5 ⟨A', c', B', d', rfl, hq, hbm⟩
  replace HP := Lib.hid (HP.out.later hbm)
  replace HL := Lib.hid (HL.out.below hbm HL.out.lt)
  replace HB := Lib.hid (HB.out.trans (hbm.mono HB.out.size))
  clear hbm HR
  have hbm : Below w5.heap.size w5 (w5.alloc (.cells (pgC A' c' B' d' p) 35)) := (Below.refl _ _).alloc (Nat.le_refl _) _
  have KP := Lib.hid (hq.later hbm)
  have KL := Lib.hid (Lies.made w5 35 (pgC A' c' B' d' p))
  replace HP := Lib.hid (HP.out.later hbm)
  replace HL := Lib.hid (HL.out.below hbm HL.out.lt)
  replace HB := Lib.hid (HB.out.trans (hbm.mono HB.out.size))
  clear hbm hq
  go_upto_region 5 with (fail)
  generalize w5.alloc (.cells (pgC A' c' B' d' p) 35) = w6 at *
  generalize w5.heap.size = n5 at *
  have c0 := (HL.out.cell 0).trans (show _ = some (Value.slice A p.rs.length c) from rfl)
  have c1 := (HL.out.cell 1).trans (show _ = some (Value.slice B p.ts.length d) from rfl)
  have cl := HL.out.lt
  have d0 := (KL.out.cell 0).trans (show _ = some (Value.slice A' p.rs.length c') from rfl)
  have d1 := (KL.out.cell 1).trans (show _ = some (Value.slice B' p.ts.length d') from rfl)
  have dl := KL.out.lt
  cases rb with
  | false =>
    obtain ⟨rfl, hpp⟩ := HCN.out rfl
    subst hpp
    clear HCD HCN
    have HS := Lib.hid (rfSame ⟨[], []⟩ ⟨[], []⟩ A c B d none 0 none 0 w6 HP.out (pg_none w6))
    rw [show sameB ⟨[], []⟩ ⟨[], []⟩ = true from decide_eq_true ⟨rfl, rfl⟩] at HS
    go_wp2_with fail
    refine HS.out.mono ?_
    rintro e w7 ⟨rfl, hbm⟩
    have HB7 := Lib.hid (HB.out.trans (hbm.mono HB.out.size))
    clear hbm
    go_wp2
    go_ret
    exact ⟨rfl, HB7.out⟩
  | true =>
    obtain ⟨rfl, h2, h3⟩ := HCD.out rfl
    clear HCD HCN
    have HC := Lib.hid (cprint_any p A c B d w6 HP.out)
    rw [h2, h3] at HC
    clear h2 h3
    go_wp2_with fail
    refine HC.out.mono ?_
    rintro e w7 ⟨rfl, hbm⟩
    replace HP := Lib.hid (HP.out.later hbm)
    replace HL := Lib.hid (HL.out.below hbm HL.out.lt)
    replace KP := Lib.hid (KP.out.later hbm)
    replace KL := Lib.hid (KL.out.below hbm KL.out.lt)
    replace HB := Lib.hid (HB.out.trans (hbm.mono HB.out.size))
    clear hbm HC c0 c1 cl d0 d1 dl
    have c0 := (HL.out.cell 0).trans (show _ = some (Value.slice A p.rs.length c) from rfl)
    have c1 := (HL.out.cell 1).trans (show _ = some (Value.slice B p.ts.length d) from rfl)
    have cl := HL.out.lt
    have d0 := (KL.out.cell 0).trans (show _ = some (Value.slice A' p.rs.length c') from rfl)
    have d1 := (KL.out.cell 1).trans (show _ = some (Value.slice B' p.ts.length d') from rfl)
    have dl := KL.out.lt
    have HS := Lib.hid (rfSame p p A c B d A' c' B' d' w7 HP.out KP.out)
    rw [show sameB p p = true from decide_eq_true ⟨rfl, rfl⟩] at HS
    go_wp2_with fail
    refine HS.out.mono ?_
    rintro e w8 ⟨rfl, hbm⟩
    have HB7 := Lib.hid (HB.out.trans (hbm.mono HB.out.size))
    clear hbm
    go_wp2
    go_ret
    exact ⟨rfl, HB7.out⟩
end Go.Proofs.YtebgcehcnenjiaaDoor
