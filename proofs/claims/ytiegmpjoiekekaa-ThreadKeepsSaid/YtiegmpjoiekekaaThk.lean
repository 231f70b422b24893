/-
  What is kept behind an event (layer 16): a thread may stand so; only named registers have changed.
-/
import Derived.Test.YtiegmpjoiekekaaThz
namespace Go.Proofs.Ytiegmpjoiekekaa
open Go.RowKit
set_option linter.unusedVariables false
set_option linter.unusedSimpArgs false
/-- What a thread asks for, read back. -/
theorem reqA_kd {l : List In} {y : Th} (h8 : (reqA l y).kd = 1 ∨ (reqA l y).kd = 2) : y.st = 0 ∧ y.at_ ≠ (l.length : Int) ∧ y.ph ≠ 1 ∧ y.ph ≠ 2 ∧ (atT l y).op = 17 + (reqA l y).kd ∧ (reqA l y).rg = (atT l y).c := by
  by_cases hs : y.st = 0
  case neg => rw [reqA_st hs] at h8; simp [noneA] at h8
  by_cases ha : y.at_ = (l.length : Int)
  · rw [reqA_end hs ha] at h8; simp [noneA] at h8
  have hr := reqA_in (i := atT l y) hs ha rfl
  by_cases h1 : y.ph = 1
  · rw [if_pos h1] at hr; rw [hr] at h8; simp at h8
  rw [if_neg h1] at hr
  by_cases h2 : y.ph = 2
  · rw [if_pos h2] at hr; rw [hr] at h8; simp at h8
  rw [if_neg h2] at hr
  by_cases hp : (decide (1 ≤ (atT l y).op) && decide ((atT l y).op ≤ 17)) = true
  · rw [if_pos hp] at hr; rw [hr] at h8; simp [noneA] at h8
  rw [if_neg hp] at hr
  refine ⟨hs, ha, h1, h2, ?_⟩
  unfold visA at hr
  by_cases o18 : (atT l y).op = 18
  · rw [if_pos o18] at hr
    rw [hr]; simp [o18]
  rw [if_neg o18] at hr
  by_cases o19 : (atT l y).op = 19
  · rw [if_pos o19] at hr
    rw [hr]; simp [o19]
  rw [if_neg o19] at hr
  exfalso
  rw [hr] at h8
  revert h8
  split
  · simp
  split
  · simp [noneA]
  split
  · simp [noneA]
  split
  · simp [noneA]
  split
  · simp
  · simp [noneA]
theorem ph_nx {l : List In} {x : Th} (hr : thB l x = true) : phB l (nxT l x) = true := by
  have hp := (thB_parts hr).2.2
  by_cases hh : x.st = 0 ∧ x.ph = 0
  · obtain ⟨q1, q2, q3, q4, q5⟩ := nx_rest (l := l) (x := x)
    unfold phB at hp ⊢
    rw [if_pos hh.2] at hp
    rw [if_pos (by rw [q1]; exact hh.2), q2, q4]
    exact hp
  · rw [nxT_not hh]; exact hp
theorem reqA_ph0 {l : List In} {y : Th} (hp : phB l y = true) (h : (reqA l y).kd = 8 ∨ (reqA l y).kd = 9) : y.ph = 0 := by
  by_cases h1 : y.ph = 1
  · obtain ⟨a1, a2, _⟩ := hdB_parts (phB_1 hp h1)
    have hr := reqA_in (i := atT l y) a1 (by omega) rfl
    rw [if_pos h1] at hr
    rw [hr] at h; simp at h
  by_cases h2 : y.ph = 2
  · obtain ⟨a1, a2, _⟩ := hdB_parts (phB_2 hp h2)
    have hr := reqA_in (i := atT l y) a1 (by omega) rfl
    rw [if_neg h1, if_pos h2] at hr
    rw [hr] at h; simp at h
  by_cases h0 : y.ph = 0
  · exact h0
  · unfold phB at hp
    rw [if_neg h0, if_neg h1, if_neg h2] at hp
    cases hp
theorem ph0_zero {l : List In} {y : Th} (hp : phB l y = true) (h0 : y.ph = 0) : y.rg = 0 ∧ y.tk = 0 := by
  unfold phB at hp
  rw [if_pos h0, Bool.and_eq_true, beq_iff_eq, beq_iff_eq] at hp
  exact hp
theorem right_tk {e : Ev} (h : rightE e = true) (hk : ticketB e.kd = true) : e.tk < 4611686018427387904 := by
  unfold rightE at h
  simp only [Bool.and_eq_true] at h
  have := h.2.2.2.2.1
  rw [if_pos hk] at this
  exact of_decide_eq_true this
theorem thB_mk {l : List In} {z : Th} (hc : codeB l = true) (h1 : 0 ≤ z.at_ ∧ z.at_ ≤ (l.length : Int) ∧ 0 ≤ z.st ∧ z.st ≤ 2) (hp : phB l z = true) : thB l z = true := by
  unfold thB inTh
  rw [hc, hp, decide_eq_true h1]; rfl
theorem hdB_mk {l : List In} {z : Th} {op : Int} (h1 : z.st = 0) (h2 : z.at_ < (l.length : Int)) (h3 : (atT l z).op = op) (h4 : (atT l z).c = z.rg) (h5 : z.tk < 4611686018427387904) : hdB l z op = true := by
  unfold hdB
  simp only [Bool.and_eq_true, beq_iff_eq, decide_eq_true_eq]
  exact ⟨h1, h2, h3, h4, h5⟩
theorem thB_beh {l : List In} {x : Th} {e : Ev} {v : Nat} (hr : thB l x = true) (hx : thOk x) (hok : ∀ i ∈ l, inOk i) (he : rightE e = true) (hf : fitB (reqA l (nxT l x)) e = true) : thB l (behT (atT l (nxT l x)) (nxT l x) e v) = true := by
  obtain ⟨hc, hin, _⟩ := thB_parts hr
  obtain ⟨i0, i1, _⟩ := (nxT_facts hr hx hok).1
  have hp := ph_nx hr
  have hst : 0 ≤ (nxT l x).st ∧ (nxT l x).st ≤ 2 := by rw [(nx_rest (l := l) (x := x)).2.2.1]; exact ⟨hin.2.2.1, hin.2.2.2⟩
  have hkk := right_kind he
  generalize nxT l x = y at *
  unfold behT
  by_cases k1 : e.kd = 1
  · rw [if_pos k1]
    unfold fitB at hf
    rw [if_pos k1, Bool.and_eq_true, beq_iff_eq, beq_iff_eq] at hf
    obtain ⟨a1, a2, a3, a4, a5, a6⟩ := reqA_kd (.inl hf.1)
    refine thB_mk hc ⟨i0, i1, by show (0:Int) ≤ y.st; omega, by show y.st ≤ 2; omega⟩ ?_
    unfold phB
    rw [if_neg (by show ¬ (1:Int) = 0; omega), if_pos rfl]
    exact hdB_mk a1 (by show y.at_ < _; omega) (by show (atT l y).op = 18; rw [a5, hf.1]; rfl) (by show (atT l y).c = e.rg; rw [← a6]; exact hf.2) (right_tk he (by rw [k1]; decide))
  rw [if_neg k1]
  by_cases k3 : e.kd = 3
  · rw [if_pos k3]
    unfold fitB at hf
    rw [if_neg k1, if_pos k3, Bool.and_eq_true, beq_iff_eq, beq_iff_eq] at hf
    obtain ⟨a1, a2, a3, a4, a5, a6⟩ := reqA_kd (.inr hf.1)
    refine thB_mk hc ⟨i0, i1, by show (0:Int) ≤ y.st; omega, by show y.st ≤ 2; omega⟩ ?_
    unfold phB
    rw [if_neg (by show ¬ (2:Int) = 0; omega), if_neg (by show ¬ (2:Int) = 1; omega), if_pos rfl]
    exact hdB_mk a1 (by show y.at_ < _; omega) (by show (atT l y).op = 19; rw [a5, hf.1]; rfl) (by show (atT l y).c = e.rg; rw [← a6]; exact hf.2) (right_tk he (by rw [k3]; decide))
  rw [if_neg k3]
  by_cases k14 : e.kd = 14
  · rw [if_pos k14]
    have h8 : (reqA l y).kd = 8 := by
      have h := hf
      simp [fitB, k14] at h
      exact h
    have p0 := reqA_ph0 hp (.inl h8)
    obtain ⟨z1, z2⟩ := ph0_zero hp p0
    refine thB_mk hc ⟨i0, i1, by show (0:Int) ≤ 1; omega, by show (1:Int) ≤ 2; omega⟩ ?_
    unfold phB
    rw [if_pos (show y.ph = 0 from p0)]
    show ((y.rg == 0) && (y.tk == 0)) = true
    rw [z1, z2]; rfl
  rw [if_neg k14]
  by_cases k15 : e.kd = 15
  · rw [if_pos k15]
    have h8 : (reqA l y).kd = 9 := by
      have h := hf
      simp [fitB, k15] at h
      exact h
    have p0 := reqA_ph0 hp (.inr h8)
    obtain ⟨z1, z2⟩ := ph0_zero hp p0
    refine thB_mk hc ⟨i0, i1, by show (0:Int) ≤ 2; omega, by show (2:Int) ≤ 2; omega⟩ ?_
    unfold phB
    rw [if_pos (show y.ph = 0 from p0)]
    show ((y.rg == 0) && (y.tk == 0)) = true
    rw [z1, z2]; rfl
  rw [if_neg k15]
  obtain ⟨s0, ne⟩ := fit_at hf k14
  by_cases k12 : e.kd = 12
  · rw [if_pos k12]
    exact thB_mk hc ⟨by show 0 ≤ y.at_ + 1; omega, by show y.at_ + 1 ≤ _; omega, by show (0:Int) ≤ y.st; omega, by show y.st ≤ 2; omega⟩ rfl
  · rw [if_neg k12]
    obtain ⟨q1, q2⟩ := regT_at (i := atT l y) (y := y) (e := e) (v := v)
    exact thB_mk hc ⟨by show 0 ≤ (regT _ y e v).at_ + 1; rw [q1]; omega, by show (regT _ y e v).at_ + 1 ≤ _; rw [q1]; omega, by show (0:Int) ≤ (regT _ y e v).st; rw [q2]; omega, by show (regT _ y e v).st ≤ 2; rw [q2]; omega⟩ rfl
/-! ## Which registers are named -/
def nmB (l : List In) (j : Nat) : Bool := l.any fun i => (i.a == (j : Int)) || (i.b == (j : Int))
theorem nm_a {l : List In} {i : In} {j : Nat} (hi : i ∈ l) (h : nmB l j = false) (ha : 0 ≤ i.a) (hb : 0 ≤ i.b) : j ≠ i.a.toNat ∧ j ≠ i.b.toNat := by
  unfold nmB at h
  rw [List.any_eq_false] at h
  have := h i hi
  simp only [Bool.or_eq_true, beq_iff_eq, not_or] at this
  omega
theorem setR_ne {x : Th} {i u j : Nat} (h : j ≠ i) : (setR x i u).r j = x.r j := by
  show (if j = i then u else x.r j) = x.r j
  rw [if_neg h]
theorem step_r {i : In} {x : Th} {j : Nat} (h : j ≠ i.a.toNat) : (stepT i x).r j = x.r j := by
  unfold stepT
  repeat' split
  all_goals first | rfl | exact setR_ne h
theorem goT_r {l : List In} {j : Nat} (hj : nmB l j = false) (hc : codeB l = true) : ∀ (n : Nat) (x : Th), 0 ≤ x.at_ → InvT l x → (∀ i ∈ l, inOk i) → (goT l n x).r j = x.r j := by
  intro n
  induction n with
  | zero => intro x _ _ _; rfl
  | succ n ih =>
    intro x h0 hI hok
    cases hp : plT l x with
    | false => rw [goT_stop hp]
    | true =>
      rw [goT_step hp]
      unfold plT at hp
      simp only [Bool.and_eq_true, decide_eq_true_eq] at hp
      have hm := atT_mem h0 hp.1
      have hri := (codeB_parts hc).2 _ hm
      have hab := right_ab hri.1
      have hI2 := step_inv (i := atT l x) hI hp.1 (hok _ hm).2.2.2.2.2 hri.2
      rw [ih _ hI2.1 hI2 hok]
      exact step_r (nm_a hm hj hab.1.1 hab.2.1).1
theorem beh_r {l : List In} {x : Th} {e : Ev} {v j : Nat} (hj : nmB l j = false) (hr : thB l x = true) (hx : thOk x) (hok : ∀ i ∈ l, inOk i) (hf : fitB (reqA l (nxT l x)) e = true) : (behT (atT l (nxT l x)) (nxT l x) e v).r j = x.r j := by
  obtain ⟨hc, hin, _⟩ := thB_parts hr
  have hI := thB_inv hr hx
  obtain ⟨i0, i1, _⟩ := (nxT_facts hr hx hok).1
  have hy : (nxT l x).r j = x.r j := by
    by_cases hh : x.st = 0 ∧ x.ph = 0
    · rw [nxT_run hh.1 hh.2]; exact goT_r hj hc 256 x hI.1 hI hok
    · rw [nxT_not hh]
  rw [← hy]
  generalize nxT l x = y at *
  unfold behT
  split
  · rfl
  split
  · rfl
  split
  · rfl
  rename_i _ _ k14
  split
  · rfl
  split
  · rfl
  obtain ⟨s0, ne⟩ := fit_at hf k14
  have hm := atT_mem i0 (show y.at_ < (l.length : Int) by omega)
  have hab := right_ab ((codeB_parts hc).2 _ hm).1
  have hn := nm_a hm hj hab.1.1 hab.2.1
  show (regT (atT l y) y e v).r j = y.r j
  unfold regT
  repeat' split
  all_goals first
    | rfl
    | exact setR_ne hn.2
    | exact setR_ne hn.1
    | (rw [setR_ne hn.2]; exact setR_ne hn.1)
theorem beh_sn {i : In} {y : Th} {e : Ev} {v : Nat} : (behT i y e v).sn.length = y.sn.length + (if e.kd = 12 then 1 else 0) ∧ ∀ (k u : Nat), y.sn[k]? = some u → (behT i y e v).sn[k]? = some u := by
  by_cases k12 : e.kd = 12
  · have : behT i y e v = endT (seeT y e.vl) := by unfold behT; rw [k12]; simp
    rw [this, if_pos k12]
    refine ⟨by show (y.sn ++ [e.vl]).length = _; simp, fun k u hu => ?_⟩
    show (y.sn ++ [e.vl])[k]? = some u
    rw [List.getElem?_append_left (List.getElem?_eq_some_iff.1 hu).1]; exact hu
  · rw [behT_sn k12, if_neg k12]
    exact ⟨rfl, fun _ _ h => h⟩
end Go.Proofs.Ytiegmpjoiekekaa
