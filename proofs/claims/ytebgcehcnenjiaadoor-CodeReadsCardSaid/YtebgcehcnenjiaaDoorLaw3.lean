/-
  CodeBack: its walk.
-/
import Derived.Test.YtebgcehcnenjiaaDoorLaw2
import Derived.Test.YtebgcehcnenjiaaDoorRfrd2
namespace Go.Proofs.YtebgcehcnenjiaaDoor
open Go.RowKit
set_option linter.unusedVariables false
set_option linter.unusedSimpArgs false
set_option maxHeartbeats 16000000 in
set_option maxRecDepth 100000 in
theorem back_walk (y z : Pa) (W : World) (h : PaAt W y) (k : PaAt W z) (hN : NamesAt W) :
    Calls Tryd.prog 7 #[.agg (pgC y.A y.c y.B y.d y.p), .agg (pgC z.A z.c z.B z.d z.p)] W fun e w' => e = .returned (.bool true) ∧ Below W.heap.size W w' := by
  obtain ⟨A, c, B, d, p⟩ := y
  obtain ⟨hp, hok⟩ := h
  replace hp : PgAt W A c B d p := hp
  replace hok : pgOk p := hok
  obtain ⟨A', c', B', d', q⟩ := z
  obtain ⟨kp, kok⟩ := k
  replace kp : PgAt W A' c' B' d' q := kp
  replace kok : pgOk q := kok
  obtain ⟨hc1, hc2⟩ := seq_form hp.1
  obtain ⟨hd1, hd2⟩ := hp.2.form
  obtain ⟨kc1, kc2⟩ := seq_form kp.1
  obtain ⟨kd1, kd2⟩ := kp.2.form
  have hb0 : Below W.heap.size W ((W.alloc (.cells (pgC A c B d p) 35)).alloc (.cells (pgC A' c' B' d' q) 35)) := ((Below.refl _ _).alloc (Nat.le_refl _) _).alloc (by simp) _
  have l0 := (Lies.made W 35 (pgC A c B d p)).alloc (.cells (pgC A' c' B' d' q) 35)
  have l1 := Lies.made (W.alloc (.cells (pgC A c B d p) 35)) 35 (pgC A' c' B' d' q)
  rw [World.size_alloc] at l1
  have HP := Lib.hid hp
  have HOK := Lib.hid hok
  have KP := Lib.hid kp
  have KOK := Lib.hid kok
  have HB := Lib.hid hb0
  have HL := Lib.hid l0
  have HQ := Lib.hid l1
  have HN := Lib.hid hN
  have hgl := hN.lt
  clear hp hok hb0 l0 hN kp kok l1
  go_enter Tryd.func7, Tryd.ntmps7
  go_wp2_with fail
  generalize (W.alloc (.cells (pgC A c B d p) 35)).alloc (.cells (pgC A' c' B' d' q) 35) = w1 at *
  have c0 := (HL.out.cell 0).trans (show _ = some (Value.slice A p.rs.length c) from rfl)
  have c1 := (HL.out.cell 1).trans (show _ = some (Value.slice B p.ts.length d) from rfl)
  have cl := HL.out.lt
  have d0 := (HQ.out.cell 0).trans (show _ = some (Value.slice A' q.rs.length c') from rfl)
  have d1 := (HQ.out.cell 1).trans (show _ = some (Value.slice B' q.ts.length d') from rfl)
  have dl := HQ.out.lt
  refine (awake_any _ (HN.out.later HB.out hgl)).mono ?_
  rintro e w2 ⟨rfl, hbm⟩
  replace HB := Lib.hid (HB.out.trans ((hbm).mono HB.out.size))
  replace HL := Lib.hid (HL.out.below hbm HL.out.lt)
  replace HQ := Lib.hid (HQ.out.below hbm HQ.out.lt)
  clear hbm c0 c1 cl d0 d1 dl
  have c0 := (HL.out.cell 0).trans (show _ = some (Value.slice A p.rs.length c) from rfl)
  have c1 := (HL.out.cell 1).trans (show _ = some (Value.slice B p.ts.length d) from rfl)
  have cl := HL.out.lt
  have d0 := (HQ.out.cell 0).trans (show _ = some (Value.slice A' q.rs.length c') from rfl)
  have d1 := (HQ.out.cell 1).trans (show _ = some (Value.slice B' q.ts.length d') from rfl)
  have dl := HQ.out.lt
  go_wp2_with fail
  have HF := Lib.hid (fun w (hw : Below W.heap.size W w) => rfFew p 100 A c B d w (HP.out.later hw) (by omega))
  refine (HF.out _ HB.out).mono ?_
  rintro e wf ⟨rfl, hbm⟩
  clear HF
  replace HB := Lib.hid (HB.out.trans ((hbm).mono HB.out.size))
  replace HL := Lib.hid (HL.out.below hbm HL.out.lt)
  replace HQ := Lib.hid (HQ.out.below hbm HQ.out.lt)
  clear hbm c0 c1 cl d0 d1 dl
  have c0 := (HL.out.cell 0).trans (show _ = some (Value.slice A p.rs.length c) from rfl)
  have c1 := (HL.out.cell 1).trans (show _ = some (Value.slice B p.ts.length d) from rfl)
  have cl := HL.out.lt
  have d0 := (HQ.out.cell 0).trans (show _ = some (Value.slice A' q.rs.length c') from rfl)
  have d1 := (HQ.out.cell 1).trans (show _ = some (Value.slice B' q.ts.length d') from rfl)
  have dl := HQ.out.lt
  cases hfb : fewB p 100 with
  | false => 
    clear hfb
    go_wp2_with fail
    refine (awake_any _ (HN.out.later HB.out hgl)).mono ?_
    rintro e wz ⟨rfl, hbz⟩
    have hbz := HB.out.trans (hbz.mono HB.out.size)
    go_wp2
    go_ret
    exact ⟨rfl, hbz⟩
  | true =>
  clear hfb
  go_wp2_with fail
  have HF := Lib.hid (fun w (hw : Below W.heap.size W w) => rfFew q 100 A' c' B' d' w (KP.out.later hw) (by omega))
  refine (HF.out _ HB.out).mono ?_
  rintro e wf ⟨rfl, hbm⟩
  clear HF
  replace HB := Lib.hid (HB.out.trans ((hbm).mono HB.out.size))
  replace HL := Lib.hid (HL.out.below hbm HL.out.lt)
  replace HQ := Lib.hid (HQ.out.below hbm HQ.out.lt)
  clear hbm c0 c1 cl d0 d1 dl
  have c0 := (HL.out.cell 0).trans (show _ = some (Value.slice A p.rs.length c) from rfl)
  have c1 := (HL.out.cell 1).trans (show _ = some (Value.slice B p.ts.length d) from rfl)
  have cl := HL.out.lt
  have d0 := (HQ.out.cell 0).trans (show _ = some (Value.slice A' q.rs.length c') from rfl)
  have d1 := (HQ.out.cell 1).trans (show _ = some (Value.slice B' q.ts.length d') from rfl)
  have dl := HQ.out.lt
  cases hfb : fewB q 100 with
  | false => 
    clear hfb
    go_wp2_with fail
    refine (awake_any _ (HN.out.later HB.out hgl)).mono ?_
    rintro e wz ⟨rfl, hbz⟩
    have hbz := HB.out.trans (hbz.mono HB.out.size)
    go_wp2
    go_ret
    exact ⟨rfl, hbz⟩
  | true =>
  clear hfb
  go_wp2_with fail
  have HF := Lib.hid (fun w (hw : Below W.heap.size W w) => rfWritten p A c B d w (HP.out.later hw) HOK.out)
  refine (HF.out _ HB.out).mono ?_
  rintro e wf ⟨rfl, hbm⟩
  clear HF
  replace HB := Lib.hid (HB.out.trans ((hbm).mono HB.out.size))
  replace HL := Lib.hid (HL.out.below hbm HL.out.lt)
  replace HQ := Lib.hid (HQ.out.below hbm HQ.out.lt)
  clear hbm c0 c1 cl d0 d1 dl
  have c0 := (HL.out.cell 0).trans (show _ = some (Value.slice A p.rs.length c) from rfl)
  have c1 := (HL.out.cell 1).trans (show _ = some (Value.slice B p.ts.length d) from rfl)
  have cl := HL.out.lt
  have d0 := (HQ.out.cell 0).trans (show _ = some (Value.slice A' q.rs.length c') from rfl)
  have d1 := (HQ.out.cell 1).trans (show _ = some (Value.slice B' q.ts.length d') from rfl)
  have dl := HQ.out.lt
  cases hep : encB p with
  | false => 
    clear hep
    go_wp2_with fail
    refine (awake_any _ (HN.out.later HB.out hgl)).mono ?_
    rintro e wz ⟨rfl, hbz⟩
    have hbz := HB.out.trans (hbz.mono HB.out.size)
    go_wp2
    go_ret
    exact ⟨rfl, hbz⟩
  | true =>
  have HEP := Lib.hid hep
  clear hep
  go_wp2_with fail
  have HF := Lib.hid (fun w (hw : Below W.heap.size W w) => rfWritten q A' c' B' d' w (KP.out.later hw) KOK.out)
  refine (HF.out _ HB.out).mono ?_
  rintro e wf ⟨rfl, hbm⟩
  clear HF
  replace HB := Lib.hid (HB.out.trans ((hbm).mono HB.out.size))
  replace HL := Lib.hid (HL.out.below hbm HL.out.lt)
  replace HQ := Lib.hid (HQ.out.below hbm HQ.out.lt)
  clear hbm c0 c1 cl d0 d1 dl
  have c0 := (HL.out.cell 0).trans (show _ = some (Value.slice A p.rs.length c) from rfl)
  have c1 := (HL.out.cell 1).trans (show _ = some (Value.slice B p.ts.length d) from rfl)
  have cl := HL.out.lt
  have d0 := (HQ.out.cell 0).trans (show _ = some (Value.slice A' q.rs.length c') from rfl)
  have d1 := (HQ.out.cell 1).trans (show _ = some (Value.slice B' q.ts.length d') from rfl)
  have dl := HQ.out.lt
  cases heq : encB q with
  | false => 
    clear heq
    go_wp2_with fail
    refine (awake_any _ (HN.out.later HB.out hgl)).mono ?_
    rintro e wz ⟨rfl, hbz⟩
    have hbz := HB.out.trans (hbz.mono HB.out.size)
    go_wp2
    go_ret
    exact ⟨rfl, hbz⟩
  | true =>
  have HEQ := Lib.hid heq
  clear heq
  have HC := Lib.hid (fun w (hw : Below W.heap.size W w) => cprint_any p A c B d w (HP.out.later hw))
  rw [prE_yes HEP.out, prC_yes HEP.out] at HC
  have HD := Lib.hid (fun w (hw : Below W.heap.size W w) => cprint_any q A' c' B' d' w (KP.out.later hw))
  rw [prE_yes HEQ.out, prC_yes HEQ.out] at HD
  have hsz := prE_size p
  rw [prE_yes HEP.out] at hsz
  have HR := Lib.hid (fun w => codeRead (textB (pgE p)) w hsz)
  have hrb := rdB_of HEP.out
  have hrp : rdP (textB (pgE p)) = p := by
    unfold rdP
    rw [hrb, if_pos rfl, prRd_of HEP.out]
  rw [hrp, show rdC (textB (pgE p)) = 0 by unfold rdC; rw [hrb]; rfl] at HR
  have HS1 := Lib.hid (fun X c2 Y d2 w (hw : Below W.heap.size W w) hp2 => rfSame p p X c2 Y d2 A c B d w hp2 (HP.out.later hw))
  rw [show sameB p p = true from decide_eq_true ⟨rfl, rfl⟩] at HS1
  have HS2 := Lib.hid (fun w (hw : Below W.heap.size W w) => rfSame p q A c B d A' c' B' d' w (HP.out.later hw) (KP.out.later hw))
  have htx : Hid ((textB (pgE p)).toList = (textB (pgE q)).toList ↔ sameB p q = true) := by
    constructor
    · intro h
      have h : textB (pgE p) = textB (pgE q) := by
        apply Classical.byContradiction
        intro hne
        have := text_ne hne
        rw [h] at this
        simp at this
      have := pgE_inj HEP.out HEQ.out h
      subst this
      exact decide_eq_true ⟨rfl, rfl⟩
    · intro h
      have h := of_decide_eq_true h
      obtain ⟨rs, ts⟩ := p
      obtain ⟨rs2, ts2⟩ := q
      obtain ⟨h1, h2⟩ := h
      simp only at h1 h2
      subst h1 h2
      rfl
  clear hsz hrb hrp
  generalize textB (pgE p) = tp at *
  generalize textB (pgE q) = tq at *
  generalize sameB p q = sb at *
  have htb : ((tp.toList == tq.toList) = sb) := by
    have h := htx.out
    rw [Bool.eq_iff_iff, beq_iff_eq]
    exact h
  have HTB := Lib.hid htb
  clear htb htx
  go_wp2_with fail
  refine (HC.out _ HB.out).mono ?_
  rintro e wf ⟨rfl, hbm⟩
  clear HC
  replace HB := Lib.hid (HB.out.trans ((hbm).mono HB.out.size))
  replace HL := Lib.hid (HL.out.below hbm HL.out.lt)
  replace HQ := Lib.hid (HQ.out.below hbm HQ.out.lt)
  clear hbm c0 c1 cl d0 d1 dl
  have c0 := (HL.out.cell 0).trans (show _ = some (Value.slice A p.rs.length c) from rfl)
  have c1 := (HL.out.cell 1).trans (show _ = some (Value.slice B p.ts.length d) from rfl)
  have cl := HL.out.lt
  have d0 := (HQ.out.cell 0).trans (show _ = some (Value.slice A' q.rs.length c') from rfl)
  have d1 := (HQ.out.cell 1).trans (show _ = some (Value.slice B' q.ts.length d') from rfl)
  have dl := HQ.out.lt
  go_wp2_with fail
  refine (HD.out _ HB.out).mono ?_
  rintro e wf ⟨rfl, hbm⟩
  clear HD
  replace HB := Lib.hid (HB.out.trans ((hbm).mono HB.out.size))
  replace HL := Lib.hid (HL.out.below hbm HL.out.lt)
  replace HQ := Lib.hid (HQ.out.below hbm HQ.out.lt)
  clear hbm c0 c1 cl d0 d1 dl
  have c0 := (HL.out.cell 0).trans (show _ = some (Value.slice A p.rs.length c) from rfl)
  have c1 := (HL.out.cell 1).trans (show _ = some (Value.slice B p.ts.length d) from rfl)
  have cl := HL.out.lt
  have d0 := (HQ.out.cell 0).trans (show _ = some (Value.slice A' q.rs.length c') from rfl)
  have d1 := (HQ.out.cell 1).trans (show _ = some (Value.slice B' q.ts.length d') from rfl)
  have dl := HQ.out.lt
  go_wp2_with fail
  refine (HR.out _).mono ?_
  rintro e w9 ⟨X, c2, Y, d2, rfl, hp2, hbm⟩
  clear HR
  replace HB := Lib.hid (HB.out.trans ((hbm).mono HB.out.size))
  replace HL := Lib.hid (HL.out.below hbm HL.out.lt)
  replace HQ := Lib.hid (HQ.out.below hbm HQ.out.lt)
  clear hbm c0 c1 cl d0 d1 dl
  have c0 := (HL.out.cell 0).trans (show _ = some (Value.slice A p.rs.length c) from rfl)
  have c1 := (HL.out.cell 1).trans (show _ = some (Value.slice B p.ts.length d) from rfl)
  have cl := HL.out.lt
  have d0 := (HQ.out.cell 0).trans (show _ = some (Value.slice A' q.rs.length c') from rfl)
  have d1 := (HQ.out.cell 1).trans (show _ = some (Value.slice B' q.ts.length d') from rfl)
  have dl := HQ.out.lt
  have hbm : Below w9.heap.size w9 (w9.alloc (.cells (pgC X c2 Y d2 p) 35)) := (Below.refl _ _).alloc (Nat.le_refl _) _
  have HO := Lib.hid (Lies.made w9 35 (pgC X c2 Y d2 p))
  have HO2 := Lib.hid (hp2.later hbm)
  clear hp2
  replace HB := Lib.hid (HB.out.trans ((hbm).mono HB.out.size))
  replace HL := Lib.hid (HL.out.below hbm HL.out.lt)
  replace HQ := Lib.hid (HQ.out.below hbm HQ.out.lt)
  clear hbm c0 c1 cl d0 d1 dl
  have c0 := (HL.out.cell 0).trans (show _ = some (Value.slice A p.rs.length c) from rfl)
  have c1 := (HL.out.cell 1).trans (show _ = some (Value.slice B p.ts.length d) from rfl)
  have cl := HL.out.lt
  have d0 := (HQ.out.cell 0).trans (show _ = some (Value.slice A' q.rs.length c') from rfl)
  have d1 := (HQ.out.cell 1).trans (show _ = some (Value.slice B' q.ts.length d') from rfl)
  have dl := HQ.out.lt
  go_upto_region 6 with (fail)
  generalize w9.alloc (.cells (pgC X c2 Y d2 p) 35) = w10 at *
  generalize w9.heap.size = n9 at *
  have o0 := (HO.out.cell 0).trans (show _ = some (Value.slice X p.rs.length c2) from rfl)
  have o1 := (HO.out.cell 1).trans (show _ = some (Value.slice Y p.ts.length d2) from rfl)
  have ol := HO.out.lt
  go_wp2_with fail
  refine (HS1.out X c2 Y d2 _ HB.out HO2.out).mono ?_
  rintro e wf ⟨rfl, hbm⟩
  clear HS1 o0 o1 ol HO HO2
  replace HB := Lib.hid (HB.out.trans ((hbm).mono HB.out.size))
  replace HL := Lib.hid (HL.out.below hbm HL.out.lt)
  replace HQ := Lib.hid (HQ.out.below hbm HQ.out.lt)
  clear hbm c0 c1 cl d0 d1 dl
  have c0 := (HL.out.cell 0).trans (show _ = some (Value.slice A p.rs.length c) from rfl)
  have c1 := (HL.out.cell 1).trans (show _ = some (Value.slice B p.ts.length d) from rfl)
  have cl := HL.out.lt
  have d0 := (HQ.out.cell 0).trans (show _ = some (Value.slice A' q.rs.length c') from rfl)
  have d1 := (HQ.out.cell 1).trans (show _ = some (Value.slice B' q.ts.length d') from rfl)
  have dl := HQ.out.lt
  go_wp2_with fail
  refine (HS2.out _ HB.out).mono ?_
  rintro e wf ⟨rfl, hbm⟩
  clear HS2
  replace HB := Lib.hid (HB.out.trans ((hbm).mono HB.out.size))
  replace HL := Lib.hid (HL.out.below hbm HL.out.lt)
  replace HQ := Lib.hid (HQ.out.below hbm HQ.out.lt)
  clear hbm c0 c1 cl d0 d1 dl
  have c0 := (HL.out.cell 0).trans (show _ = some (Value.slice A p.rs.length c) from rfl)
  have c1 := (HL.out.cell 1).trans (show _ = some (Value.slice B p.ts.length d) from rfl)
  have cl := HL.out.lt
  have d0 := (HQ.out.cell 0).trans (show _ = some (Value.slice A' q.rs.length c') from rfl)
  have d1 := (HQ.out.cell 1).trans (show _ = some (Value.slice B' q.ts.length d') from rfl)
  have dl := HQ.out.lt
  have htb := HTB.out
  clear HTB
  cases sb
  all_goals
    go_wp2
    go_ret
    exact ⟨rfl, HB.out⟩
end Go.Proofs.YtebgcehcnenjiaaDoor
