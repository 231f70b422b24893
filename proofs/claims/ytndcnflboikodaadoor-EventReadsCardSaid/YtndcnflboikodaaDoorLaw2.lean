/-
  EventReads: its walk.
-/
import Derived.Test.YtndcnflboikodaaDoorLaw1
import Derived.Test.YtndcnflboikodaaDoorEvrd
namespace Go.Proofs.YtndcnflboikodaaDoor
open Go.RowKit
set_option linter.unusedVariables false
set_option linter.unusedSimpArgs false
theorem ok_of_right {x : Ev} (h : rightE x = true) (hv : x.vl ≤ 18446744073709551615) : evOk x := by
  obtain ⟨k1, ⟨r1, r2, r3, r4, r5⟩, _⟩ := right_parts h
  have hk := kindB_iff.1 k1
  exact ⟨⟨by omega, by omega⟩, ⟨by omega, by omega⟩, ⟨by omega, by omega⟩, by omega, hv⟩
theorem rdF_sound : ∀ (f : Nat) (bs : List UInt8) (acc : List Ev), bs.length < f → acc.length ≤ 65536 →
    ((rdF f bs acc).2 = 0 ∧ ∃ l, (rdF f bs acc).1 = acc ++ l ∧ printE l = bs ∧ (∀ x ∈ l, rightE x = true ∧ x.vl ≤ 18446744073709551615) ∧ (acc ++ l).length ≤ 65536) ∨ ((rdF f bs acc).2 ≠ 0 ∧ (rdF f bs acc).1 = [])
  | 0, bs, acc, h, _ => by omega
  | f + 1, bs, acc, h, ha => by
    by_cases hne : bs = []
    · subst hne
      rw [rdF_nil]
      exact .inl ⟨rfl, [], by simp, rfl, by simp, by simpa using ha⟩
    · by_cases h10 : (10 : UInt8) ∈ bs
      · obtain ⟨p, q, rfl, hp⟩ := List.eq_append_cons_of_mem h10
        by_cases hb : lnO p = none ∨ acc.length = 65536
        · rw [rdF_bad h hp hb]
          exact .inr ⟨by simp, rfl⟩
        · cases hl : lnO p with
          | none => exact absurd (.inl hl) hb
          | some x =>
            have hx := lnO_get hl
            have hst : rdF (f + 1) (p ++ 10 :: q) acc = rdF f q (acc ++ [x]) := by
              conv => lhs; unfold rdF
              rw [if_neg (by simp), cutO_some hp]
              simp only
              rw [hl]
              simp only
              rw [if_neg (fun e => hb (.inr e))]
            rw [hst]
            have hq : q.length < f := by simp only [List.length_append, List.length_cons] at h; omega
            have ha2 : (acc ++ [x]).length ≤ 65536 := by
              have : acc.length ≠ 65536 := fun e => hb (.inr e)
              simp; omega
            rcases rdF_sound f q (acc ++ [x]) hq ha2 with ⟨h1, l, h2, h3, h4, h5⟩ | h1
            · refine .inl ⟨h1, x :: l, by rw [h2]; simp, ?_, ?_, by simpa using h5⟩
              · rw [← h3, ← hx.2.2]; simp [printE]
              · intro y hy
                rcases List.mem_cons.1 hy with rfl | hy
                · exact ⟨hx.1, hx.2.1⟩
                · exact h4 y hy
            · exact .inr h1
      · rw [rdF_open h hne h10]
        exact .inr ⟨by simp, rfl⟩
theorem rdE_sound (bs : List UInt8) : ((rdE bs).2 = 0 ∧ printE (rdE bs).1 = bs ∧ (∀ x ∈ (rdE bs).1, rightE x = true ∧ x.vl ≤ 18446744073709551615) ∧ (rdE bs).1.length ≤ 65536) ∨ ((rdE bs).2 ≠ 0 ∧ (rdE bs).1 = []) := by
  rcases rdF_sound (bs.length + 1) bs [] (by omega) (by simp) with ⟨h1, l, h2, h3, h4, h5⟩ | h1
  · refine .inl ⟨h1, ?_⟩
    unfold rdE
    rw [h2]
    simp only [List.nil_append] at h5 ⊢
    exact ⟨h3, h4, h5⟩
  · exact .inr h1
set_option maxHeartbeats 8000000 in
set_option maxRecDepth 100000 in
theorem reads_walk (s : ByteArray) (W : World) (hs : s.size ≤ maxLen) (hN : EvnAt W) :
    Calls Tryd.prog 5 #[.string s] W fun e w' => e = .returned (.bool true) ∧ Below W.heap.size W w' := by
  have hgl := hN.lt
  have HEN := Lib.hid (fun (q : World) (hq : Below W.heap.size W q) => hN.later hq hgl)
  have HB := Lib.hid (Below.refl W.heap.size W)
  unfold maxLen at hs
  clear hN
  by_cases hl : 2000 < s.size
  · have e1 : decide (2000 < s.size) = true := decide_eq_true hl
    have e2 : decide ((2000 : Int) < (s.size : Int)) = true := decide_eq_true (by omega)
    go_enter Tryd.func5, Tryd.ntmps5
    go_wp2_with fail
    refine (awake_any _ (HEN.out _ HB.out)).mono ?_
    rintro e wn ⟨rfl, hbm⟩
    replace HB := Lib.hid (HB.out.trans (hbm.mono HB.out.size))
    clear hbm
    go_wp2_with fail
    refine (awake_any _ (HEN.out _ HB.out)).mono ?_
    rintro e wn ⟨rfl, hbm⟩
    replace HB := Lib.hid (HB.out.trans (hbm.mono HB.out.size))
    clear hbm
    go_wp2
    go_ret
    exact ⟨rfl, HB.out⟩
  have e1 : decide (2000 < s.size) = false := decide_eq_false hl
  have e2 : decide ((2000 : Int) < (s.size : Int)) = false := decide_eq_false (by omega)
  obtain ⟨bs, rfl⟩ : ∃ bs, s = textB bs := ⟨_, text_of s⟩
  have hbl : bs.length ≤ 2000 := by rw [textB_size] at hl; omega
  have HR := Lib.hid (fun w h => read15 bs w h (by omega))
  have HX := Lib.hid (fun w => rfRead15 bs w (by omega))
  have HSD := Lib.hid (rdE_sound bs)
  unfold RdPost at HR
  unfold RxPost at HX
  obtain ⟨l, n, hln⟩ : ∃ l n, rdE bs = (l, n) := ⟨_, _, rfl⟩
  rw [hln] at HR HX HSD
  simp only at HR HX HSD
  clear hln
  obtain ⟨rn, hrn⟩ : ∃ rn, rdN (l, n) = rn := ⟨_, rfl⟩
  have HRN : Hid (rn = if n = 0 then 0 else 3) := hrn.symm
  rw [hrn] at HR
  clear hrn
  go_enter Tryd.func5, Tryd.ntmps5
  go_wp2_with fail
  refine (awake_any _ (HEN.out _ HB.out)).mono ?_
  rintro e wn ⟨rfl, hbm⟩
  replace HB := Lib.hid (HB.out.trans (hbm.mono HB.out.size))
  clear hbm
  go_wp2_with fail
  refine (HR.out _ (HEN.out _ HB.out)).mono ?_
  rintro e wq ⟨v, rfl, ho, hbm⟩
  have HV := Lib.hid (SeqS.of_owns ho)
  obtain ⟨A9, c9, rfl⟩ := own_sliceD ho
  replace HB := Lib.hid (HB.out.trans (hbm.mono HB.out.size))
  clear hbm ho HR
  go_wp2_with fail
  refine (HX.out _).mono ?_
  rintro e wr ⟨v2, rfl, ho, hbm⟩
  have HV2 := Lib.hid (SeqS.of_owns ho)
  obtain ⟨A8, c8, rfl⟩ := own_sliceD ho
  replace HV := Lib.hid (HV.out.later hbm)
  replace HB := Lib.hid (HB.out.trans (hbm.mono HB.out.size))
  clear hbm ho HX
  by_cases hn : n = 0
  case neg =>
    rw [if_neg hn] at HRN
    have hl0 : l = [] := by
      rcases HSD.out with h | h
      · exact absurd h.1 hn
      · exact h.2
    subst hl0
    have e3 : ((n : Int) == 0) = false := by rw [beq_eq_false_iff_ne]; omega
    have e4 : (n == 0) = false := by rw [beq_eq_false_iff_ne]; exact hn
    rw [HRN.out]
    clear hn HSD HRN
    go_wp2
    go_ret
    exact ⟨ret_bool (by simp), HB.out⟩
  subst hn
  rw [if_pos rfl] at HRN
  rw [HRN.out]
  obtain ⟨hpr, hall, hl6⟩ : printE l = bs ∧ (∀ x ∈ l, rightE x = true ∧ x.vl ≤ 18446744073709551615) ∧ l.length ≤ 65536 := by
    rcases HSD.out with h | h
    · exact h.2
    · exact absurd rfl h.1
  have hce : chE l = (0, 0) := chE_ok (by omega) (fun x hx => (hall x hx).1)
  have HCP := Lib.hid (fun A c w h1 h2 => print15 l A c w h1 h2 (fun x hx => ok_of_right (hall x hx).1 (hall x hx).2))
  have hps : prS l = textB bs := by
    unfold prS
    rw [hce, if_pos rfl, hpr]
  rw [hps, hce] at HCP
  have HSM := Lib.hid (fun A c B d w h k => rfSame15 l l A c B d w h k)
  rw [decide_eq_true (rfl : l = l)] at HSM
  clear HSD HRN hpr hall hce hps
  go_wp2_with fail
  refine (HCP.out _ _ _ (HEN.out _ HB.out) HV.out).mono ?_
  rintro e wt ⟨rfl, hbm⟩
  replace HB := Lib.hid (HB.out.trans (hbm.mono HB.out.size))
  replace HV := Lib.hid (HV.out.later hbm)
  replace HV2 := Lib.hid (HV2.out.later hbm)
  clear hbm HCP
  go_wp2_with fail
  refine (HSM.out _ _ _ _ _ HV.out HV2.out).mono ?_
  rintro e wv ⟨rfl, hbm⟩
  replace HB := Lib.hid (HB.out.trans (hbm.mono HB.out.size))
  clear hbm HSM HV HV2
  go_wp2
  go_ret
  exact ⟨ret_bool (by simp), HB.out⟩
end Go.Proofs.YtndcnflboikodaaDoor
