/-
  EventPrints and EventBack: their walks.
-/
import Derived.Test.YtndcnflboikodaaDoorEvaw
import Derived.Test.YtndcnflboikodaaDoorEvlr
import Derived.Test.YtndcnflboikodaaDoorEvop
namespace Go.Proofs.YtndcnflboikodaaDoor
open Go.RowKit
set_option linter.unusedVariables false
set_option linter.unusedSimpArgs false
theorem evFs_one (l : List Ev) : ∀ u ∈ rowsOf evF l, u.oneCell' = true := fun u hu => by
  obtain ⟨x, _, h⟩ := rowsOf_mem hu
  exact evF_one x u h
set_option maxHeartbeats 8000000 in
set_option maxRecDepth 100000 in
theorem prints_walk (a : Option Addr) (len cap : Nat) (z : List Ev) (W : World) (h : EvArg W a len cap z) (hN : EvnAt W) :
    Calls Tryd.prog 4 #[.slice a len cap] W fun e w' => e = .returned (.bool true) ∧ Below W.heap.size W w' := by
  obtain ⟨rfl, hz, hok⟩ := h
  obtain ⟨A', c', e', h1, h2, _⟩ := hz.form
  simp only [Value.slice.injEq, true_and] at e'
  obtain ⟨rfl, rfl⟩ := e'
  unfold maxLen at h2
  have hgl := hN.lt
  have HEN := Lib.hid (fun (q : World) (hq : Below W.heap.size W q) => hN.later hq hgl)
  have HZ := Lib.hid (fun (q : World) (hq : Below W.heap.size W q) => SeqS.later hz hq)
  have HOK := Lib.hid hok
  have HB := Lib.hid (Below.refl W.heap.size W)
  clear hz hok hN
  by_cases hl : 200 < z.length
  · have e1 : decide (200 < z.length) = true := decide_eq_true hl
    have e2 : decide ((200 : Int) < (z.length : Int)) = true := decide_eq_true (by omega)
    go_enter Tryd.func4, Tryd.ntmps4
    go_wp2_with fail
    refine (awake_any _ (HEN.out _ HB.out)).mono ?_
    rintro e wn ⟨rfl, hbm⟩
    replace HB := Lib.hid (HB.out.trans (hbm.mono HB.out.size))
    clear hbm
    go_wp2_with fail
    refine (awake_any _ (HEN.out _ HB.out)).mono ?_
    rintro e wn ⟨rfl, hbm⟩
    replace HB := Lib.hid (HB.out.trans (hbm.mono HB.out.size))
    clear hbm
    go_wp2
    go_ret
    exact ⟨rfl, HB.out⟩
  have e1 : decide (200 < z.length) = false := decide_eq_false hl
  have e2 : decide ((200 : Int) < (z.length : Int)) = false := decide_eq_false (by omega)
  have HCP := Lib.hid (fun A c w h1 h2 => print15 z A c w h1 h2 HOK.out)
  have HCC := Lib.hid (fun A c w h => check15 z A c w h)
  have HRC := Lib.hid (fun A c w h => rfCheck15 z A c w h)
  have HPS : Hid (prS z = if (chE z).2 = 0 then textB (printE z) else ⟨#[]⟩) := rfl
  have HCZ := Lib.hid (@chE_zero z)
  obtain ⟨p, k, hpk⟩ : ∃ p k, chE z = (p, k) := ⟨_, _, rfl⟩
  rw [hpk] at HCP HCC HRC HPS HCZ
  simp only at HCP HCC HRC HPS HCZ
  clear hpk
  generalize prS z = ps at *
  go_enter Tryd.func4, Tryd.ntmps4
  go_wp2_with fail
  refine (awake_any _ (HEN.out _ HB.out)).mono ?_
  rintro e wn ⟨rfl, hbm⟩
  replace HB := Lib.hid (HB.out.trans (hbm.mono HB.out.size))
  clear hbm
  have HRS := Lib.hid ((HZ.out wn HB.out).later ((Below.refl (wn).heap.size wn).alloc (Nat.le_refl _) (.cells #[] 24)))
  have HE := Lib.hid (owned_empty (w := wn) (B := (wn).heap.size) 24 5 (Nat.le_refl _))
  go_wp2_with (at_builtin; refine append_argS (World.alloc wn (.cells #[] 24)) 5 rfl (.tmp 18) (.tmp 19) 36 rfl (wn).heap.size 24 _ 40 Tryd.underlying36 Tryd.infoEv rfl (by decide) _ 0 [] rfl HE.out a z.length cap rfl (rowsOf evF z) HRS.out (evFs_one _) (by unfold maxLen; omega) (by omega) (by simp) ?_)
  intro vc wc ho hb _
  try simp only [List.nil_append, Nat.zero_add] at ho
  have hbm := ((Below.refl (wn).heap.size wn).alloc (Nat.le_refl _) (.cells #[] 24)).trans hb
  replace HB := Lib.hid (HB.out.trans (hbm.mono HB.out.size))
  have HV := Lib.hid (SeqS.of_owns ho)
  obtain ⟨A9, c9, rfl⟩ := own_sliceD ho
  clear ho hb hbm HRS HE
  go_wp2_with fail
  refine (HCP.out _ _ _ (HEN.out _ HB.out) HV.out).mono ?_
  rintro e wq ⟨rfl, hbm⟩
  replace HB := Lib.hid (HB.out.trans (hbm.mono HB.out.size))
  clear hbm HV
  have HRS := Lib.hid ((HZ.out wq HB.out).later ((Below.refl (wq).heap.size wq).alloc (Nat.le_refl _) (.cells #[] 24)))
  have HE := Lib.hid (owned_empty (w := wq) (B := (wq).heap.size) 24 5 (Nat.le_refl _))
  go_wp2_with (at_builtin; refine append_argS (World.alloc wq (.cells #[] 24)) 5 rfl (.tmp 25) (.tmp 26) 36 rfl (wq).heap.size 24 _ 40 Tryd.underlying36 Tryd.infoEv rfl (by decide) _ 0 [] rfl HE.out a z.length cap rfl (rowsOf evF z) HRS.out (evFs_one _) (by unfold maxLen; omega) (by omega) (by simp) ?_)
  intro vc wc ho hb _
  try simp only [List.nil_append, Nat.zero_add] at ho
  have hbm := ((Below.refl (wq).heap.size wq).alloc (Nat.le_refl _) (.cells #[] 24)).trans hb
  replace HB := Lib.hid (HB.out.trans (hbm.mono HB.out.size))
  have HV := Lib.hid (SeqS.of_owns ho)
  obtain ⟨A9, c9, rfl⟩ := own_sliceD ho
  clear ho hb hbm HRS HE
  go_wp2_with fail
  refine (HCC.out _ _ _ HV.out).mono ?_
  rintro e wr ⟨rfl, hbm⟩
  replace HB := Lib.hid (HB.out.trans (hbm.mono HB.out.size))
  clear hbm HV
  go_wp2_with fail
  refine (HRC.out _ _ _ (HZ.out _ HB.out)).mono ?_
  rintro e ws ⟨rfl, hbm⟩
  replace HB := Lib.hid (HB.out.trans (hbm.mono HB.out.size))
  clear hbm HCP HCC HRC
  by_cases hk : k = 0
  case neg =>
    have e3 : ((k : Int) == 0) = false := by rw [beq_eq_false_iff_ne]; omega
    have e4 : (k == 0) = false := by rw [beq_eq_false_iff_ne]; exact hk
    rw [if_neg hk] at HPS
    rw [HPS.out]
    clear hk HPS HCZ
    go_wp2
    go_ret
    exact ⟨ret_bool (by decide +kernel), HB.out⟩
  subst hk
  rw [if_pos rfl] at HPS
  rw [HPS.out]
  obtain ⟨hl6, hall⟩ := HCZ.out rfl
  have HRP := Lib.hid (fun w h => rfPrint15 z a cap w h HOK.out hall hl6)
  clear HPS HCZ hall hl6
  go_wp2_with fail
  refine (HRP.out _ (HZ.out _ HB.out)).mono ?_
  rintro e wt ⟨rfl, hbm⟩
  replace HB := Lib.hid (HB.out.trans (hbm.mono HB.out.size))
  clear hbm HRP
  go_wp2
  go_ret
  exact ⟨ret_bool (by simp), HB.out⟩
set_option maxHeartbeats 8000000 in
set_option maxRecDepth 100000 in
theorem back_walk (a : Option Addr) (len cap : Nat) (z : List Ev) (W : World) (h : EvArg W a len cap z) (hN : EvnAt W) :
    Calls Tryd.prog 6 #[.slice a len cap] W fun e w' => e = .returned (.bool true) ∧ Below W.heap.size W w' := by
  obtain ⟨rfl, hz, hok⟩ := h
  obtain ⟨A', c', e', h1, h2, _⟩ := hz.form
  simp only [Value.slice.injEq, true_and] at e'
  obtain ⟨rfl, rfl⟩ := e'
  unfold maxLen at h2
  have hgl := hN.lt
  have HEN := Lib.hid (fun (q : World) (hq : Below W.heap.size W q) => hN.later hq hgl)
  have HZ := Lib.hid (fun (q : World) (hq : Below W.heap.size W q) => SeqS.later hz hq)
  have HOK := Lib.hid hok
  have HB := Lib.hid (Below.refl W.heap.size W)
  clear hz hok hN
  by_cases hl : 200 < z.length
  · have e1 : decide (200 < z.length) = true := decide_eq_true hl
    have e2 : decide ((200 : Int) < (z.length : Int)) = true := decide_eq_true (by omega)
    go_enter Tryd.func6, Tryd.ntmps6
    go_wp2_with fail
    refine (awake_any _ (HEN.out _ HB.out)).mono ?_
    rintro e wn ⟨rfl, hbm⟩
    replace HB := Lib.hid (HB.out.trans (hbm.mono HB.out.size))
    clear hbm
    go_wp2_with fail
    refine (awake_any _ (HEN.out _ HB.out)).mono ?_
    rintro e wn ⟨rfl, hbm⟩
    replace HB := Lib.hid (HB.out.trans (hbm.mono HB.out.size))
    clear hbm
    go_wp2
    go_ret
    exact ⟨rfl, HB.out⟩
  have e1 : decide (200 < z.length) = false := decide_eq_false hl
  have e2 : decide ((200 : Int) < (z.length : Int)) = false := decide_eq_false (by omega)
  have HCP := Lib.hid (fun A c w h1 h2 => print15 z A c w h1 h2 HOK.out)
  have HRC := Lib.hid (fun A c w h => rfCheck15 z A c w h)
  have HPS : Hid (prS z = if (chE z).2 = 0 then textB (printE z) else ⟨#[]⟩) := rfl
  have HCZ := Lib.hid (@chE_zero z)
  obtain ⟨p, k, hpk⟩ : ∃ p k, chE z = (p, k) := ⟨_, _, rfl⟩
  rw [hpk] at HCP HRC HPS HCZ
  simp only at HCP HRC HPS HCZ
  clear hpk
  generalize prS z = ps at *
  go_enter Tryd.func6, Tryd.ntmps6
  go_wp2_with fail
  refine (awake_any _ (HEN.out _ HB.out)).mono ?_
  rintro e wn ⟨rfl, hbm⟩
  replace HB := Lib.hid (HB.out.trans (hbm.mono HB.out.size))
  clear hbm
  go_wp2_with fail
  refine (HRC.out _ _ _ (HZ.out _ HB.out)).mono ?_
  rintro e ws ⟨rfl, hbm⟩
  replace HB := Lib.hid (HB.out.trans (hbm.mono HB.out.size))
  clear hbm HRC
  by_cases hk : k = 0
  case neg =>
    have e3 : ((k : Int) == 0) = false := by rw [beq_eq_false_iff_ne]; omega
    have e4 : (k == 0) = false := by rw [beq_eq_false_iff_ne]; exact hk
    clear hk HPS HCZ
    go_wp2
    go_ret
    exact ⟨rfl, HB.out⟩
  subst hk
  rw [if_pos rfl] at HPS
  obtain ⟨hl6, hall⟩ := HCZ.out rfl
  have hrd : rdE (printE z) = (z, 0) := rdE_print (fun x hx => ⟨hall x hx, (HOK.out x hx).2.2.2.2⟩) hl6
  have HRD := Lib.hid (fun w h => read15 (printE z) w h (by have := printE_length z; omega))
  unfold RdPost at HRD
  rw [hrd] at HRD
  have HSM := Lib.hid (fun A c w h k => rfSame15 z z a cap A c w h k)
  rw [decide_eq_true (rfl : z = z)] at HSM
  clear HCZ hall hl6 hrd
  go_wp2_with fail
  refine (HCP.out _ _ _ (HEN.out _ HB.out) (HZ.out _ HB.out)).mono ?_
  rintro e wt ⟨rfl, hbm⟩
  replace HB := Lib.hid (HB.out.trans (hbm.mono HB.out.size))
  clear hbm HCP
  rw [HPS.out]
  clear HPS
  go_wp2_with fail
  refine (HRD.out _ (HEN.out _ HB.out)).mono ?_
  rintro e wu ⟨v, rfl, ho, hbm⟩
  replace HB := Lib.hid (HB.out.trans (hbm.mono HB.out.size))
  have HV := Lib.hid (SeqS.of_owns ho)
  obtain ⟨A9, c9, rfl⟩ := own_sliceD ho
  clear hbm ho HRD
  go_wp2_with fail
  refine (HSM.out _ _ _ (HZ.out _ HB.out) HV.out).mono ?_
  rintro e wv ⟨rfl, hbm⟩
  replace HB := Lib.hid (HB.out.trans (hbm.mono HB.out.size))
  clear hbm HSM HV
  go_wp2
  go_ret
  exact ⟨rfl, HB.out⟩
end Go.Proofs.YtndcnflboikodaaDoor
