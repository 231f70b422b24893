/-
  What is read of bytes (layer 9): when it is a program, and that the program's bytes are those.
-/
import Derived.Test.YtebgcehcnenjiaaDoorRdc
namespace Go.Proofs.YtebgcehcnenjiaaDoor
open Go.RowKit
set_option linter.unusedVariables false
set_option linter.unusedSimpArgs false
section
variable {s : ByteArray} {i n : Nat} {f : Bool}
/-! ## A part that was read -/
theorem byF_false (h : byF s i f = false) : f = false ∧ i < s.size ∧ byI s i = i + 1 ∧ restOf s i = bI (byV s i : Nat) :: restOf s (i + 1) := by
  unfold byF at h
  rw [Bool.or_eq_false_iff, decide_eq_false_iff_not] at h
  obtain ⟨h1, h2⟩ := h
  have hi : i < s.size := by omega
  refine ⟨h1, hi, by unfold byI; rw [if_pos hi], ?_⟩
  rw [rest_cons s i hi]
  unfold byV bI
  rw [dif_pos hi, Int.toNat_natCast, UInt8.ofNat_toNat]
theorem nuF_false (h : nuF s i f = false) : f = false ∧ restOf s i = enc (nuV s i) ++ restOf s (nuI s i) := by
  unfold nuF at h
  rw [Bool.or_eq_false_iff, bne_eq_false_iff_eq] at h
  refine ⟨h.1, ?_⟩
  have h1 := rd_take _ h.2
  unfold nuV nuI
  rw [← h1]
  unfold restOf
  rw [← List.drop_drop, List.take_append_drop]
theorem inRd_false (h : (inRd s i f).2.2 = false) : f = false ∧ restOf s i = inE (inRd s i f).1 ++ restOf s (inRd s i f).2.1 := by
  unfold inRd at h
  obtain ⟨h1, e5⟩ := nuF_false h
  obtain ⟨h1, _, b4, e4⟩ := byF_false h1
  obtain ⟨h1, _, b3, e3⟩ := byF_false h1
  obtain ⟨h1, _, b2, e2⟩ := byF_false h1
  obtain ⟨h1, _, b1, e1⟩ := byF_false h1
  obtain ⟨h1, _, b0, e0⟩ := byF_false h1
  refine ⟨h1, ?_⟩
  unfold inE inRd
  simp only
  rw [e0, ← b0, e1, ← b1, e2, ← b2, e3, ← b3, e4, ← b4, e5]
  rfl
theorem riRd_false (h : (riRd s i f).2.2 = false) : f = false ∧ i + 3 ≤ s.size ∧ (riRd s i f).2.1 = i + 3 ∧ restOf s i = riE (riRd s i f).1 ++ restOf s (riRd s i f).2.1 := by
  unfold riRd at h
  obtain ⟨h1, l2, b2, e2⟩ := byF_false h
  obtain ⟨h1, l1, b1, e1⟩ := byF_false h1
  obtain ⟨h1, l0, b0, e0⟩ := byF_false h1
  refine ⟨h1, by omega, ?_, ?_⟩
  · unfold riRd; simp only; omega
  · unfold riE riRd
    simp only
    rw [e0, ← b0, e1, ← b1, e2, ← b2]
    rfl
theorem insRd_false : ∀ {n : Nat}, (insRd s i f n).2.2 = false → f = false ∧ restOf s i = (insRd s i f n).1.flatMap inE ++ restOf s (insRd s i f n).2.1
  | 0, h => ⟨h, rfl⟩
  | n + 1, h => by
    have h1 : (inRd s (insRd s i f n).2.1 (insRd s i f n).2.2).2.2 = false := h
    obtain ⟨h2, e2⟩ := inRd_false h1
    obtain ⟨h3, e3⟩ := insRd_false h2
    refine ⟨h3, ?_⟩
    show _ = ((insRd s i f n).1 ++ [_]).flatMap inE ++ restOf s (inRd s (insRd s i f n).2.1 (insRd s i f n).2.2).2.1
    rw [List.flatMap_append, List.append_assoc]
    simp only [List.flatMap_cons, List.flatMap_nil, List.append_nil]
    rw [← e2]; exact e3
theorem risRd_false (hi : i ≤ s.size) : ∀ {n : Nat}, (risRd s i f n).2.2 = false → f = false ∧ i + 3 * n ≤ s.size ∧ (risRd s i f n).2.1 = i + 3 * n ∧ restOf s i = (risRd s i f n).1.flatMap riE ++ restOf s (risRd s i f n).2.1
  | 0, h => ⟨h, by omega, by simp [risRd], rfl⟩
  | n + 1, h => by
    have h1 : (riRd s (risRd s i f n).2.1 (risRd s i f n).2.2).2.2 = false := h
    obtain ⟨h2, l2, q2, e2⟩ := riRd_false h1
    obtain ⟨h3, l3, q3, e3⟩ := risRd_false hi h2
    refine ⟨h3, by omega, ?_, ?_⟩
    · show (riRd s (risRd s i f n).2.1 (risRd s i f n).2.2).2.1 = _
      rw [q2, q3]; omega
    · show _ = ((risRd s i f n).1 ++ [_]).flatMap riE ++ restOf s (riRd s (risRd s i f n).2.1 (risRd s i f n).2.2).2.1
      rw [List.flatMap_append, List.append_assoc]
      simp only [List.flatMap_cons, List.flatMap_nil, List.append_nil]
      rw [← e2]; exact e3
theorem thRd_false (h : (thRd s i f).2.2 = false) : f = false ∧ nuF s i f = false ∧ nuV s i ≤ 256 ∧ thRd s i f = insRd s (nuI s i) false (nuV s i) ∧ restOf s i = thE (thRd s i f).1 ++ restOf s (thRd s i f).2.1 := by
  unfold thRd at h
  obtain ⟨h1, e1⟩ := insRd_false h
  rw [Bool.or_eq_false_iff, decide_eq_false_iff_not] at h1
  obtain ⟨h2, h3⟩ := h1
  obtain ⟨h4, e4⟩ := nuF_false h2
  have hc : coV (nuV s i) 256 (nuF s i f) = nuV s i := by rw [h2]; exact coV_same (by omega)
  have ht : thRd s i f = insRd s (nuI s i) false (nuV s i) := by
    unfold thRd
    rw [hc, h2, decide_eq_false h3]; rfl
  refine ⟨h4, h2, by omega, ht, ?_⟩
  rw [ht]
  rw [hc, h2, decide_eq_false h3] at e1
  simp only [Bool.or_self] at e1
  rw [e4]
  unfold thE
  rw [insRd_length, List.append_assoc, ← e1]
theorem thsRd_false : ∀ {n : Nat}, (thsRd s i f n).2.2 = false → f = false ∧ restOf s i = (thsRd s i f n).1.flatMap thE ++ restOf s (thsRd s i f n).2.1
  | 0, h => ⟨h, rfl⟩
  | n + 1, h => by
    have h1 : (thRd s (thsRd s i f n).2.1 (thsRd s i f n).2.2).2.2 = false := h
    obtain ⟨h2, _, _, _, e2⟩ := thRd_false h1
    obtain ⟨h3, e3⟩ := thsRd_false h2
    refine ⟨h3, ?_⟩
    show _ = ((thsRd s i f n).1 ++ [_]).flatMap thE ++ restOf s (thRd s (thsRd s i f n).2.1 (thsRd s i f n).2.2).2.1
    rw [List.flatMap_append, List.append_assoc]
    simp only [List.flatMap_cons, List.flatMap_nil, List.append_nil]
    rw [← e2]; exact e3
end
/-! ## The whole -/
/-- The parts as they lie: n rings, then the threads. -/
def rgL (s : ByteArray) : List Ri := (risRd s 1 false (byV s 0)).1
def thT (s : ByteArray) : List (List In) × Nat × Bool := thsRd s (2 + 3 * byV s 0) false (byV s (1 + 3 * byV s 0))
theorem risRd_in {s : ByteArray} : ∀ {n : Nat}, 1 + 3 * n ≤ s.size → (risRd s 1 false n).2 = (1 + 3 * n, false)
  | 0, _ => rfl
  | n + 1, h => by
    have h1 := risRd_in (s := s) (n := n) (by omega)
    show (riRd s (risRd s 1 false n).2.1 (risRd s 1 false n).2.2).2 = _
    rw [h1]
    unfold riRd byF byI
    simp only
    rw [if_pos (show 1 + 3 * n < s.size by omega), if_pos (show 1 + 3 * n + 1 < s.size by omega), if_pos (show 1 + 3 * n + 1 + 1 < s.size by omega), decide_eq_false (by omega), decide_eq_false (by omega), decide_eq_false (by omega)]
    rfl
theorem rdB_parts {s : ByteArray} (h : rdB s = true) : byV s 0 ≤ 8 ∧ byV s (1 + 3 * byV s 0) ≤ 8 ∧ 2 + 3 * byV s 0 ≤ s.size ∧ (thT s).2.2 = false ∧ s.size ≤ (thT s).2.1 ∧ encB ⟨rgL s, (thT s).1⟩ = true ∧ (prRd s 0 false).1 = ⟨rgL s, (thT s).1⟩ := by
  unfold rdB at h
  simp only [Bool.and_eq_true, Bool.not_eq_true', decide_eq_true_eq] at h
  obtain ⟨h1, h2, h3⟩ := h
  have h1 : (rdT s (rdR s 0 false).2.1 (rdR s 0 false).2.2).2.2 = false := h1
  have h2 : s.size ≤ (rdT s (rdR s 0 false).2.1 (rdR s 0 false).2.2).2.1 := h2
  obtain ⟨p, hp⟩ : ∃ p, (prRd s 0 false).1 = p := ⟨_, rfl⟩
  have hp2 : (⟨(rdR s 0 false).1, (rdT s (rdR s 0 false).2.1 (rdR s 0 false).2.2).1⟩ : Pg) = p := hp
  rw [hp] at h3 ⊢
  clear hp
  obtain ⟨R, hR⟩ : ∃ R, rdR s 0 false = R := ⟨_, rfl⟩
  rw [hR] at h1 h2 hp2
  have h4 := h1
  unfold rdT at h4
  obtain ⟨h5, _⟩ := thsRd_false h4
  rw [Bool.or_eq_false_iff, decide_eq_false_iff_not] at h5
  obtain ⟨h5, h6⟩ := h5
  obtain ⟨hf, hj, hji, _⟩ := byF_false h5
  have hR2 := hR
  unfold rdR at hR2
  have h7 : (risRd s (byI s 0) (byF s 0 false || decide (8 < byV s 0)) (coV (byV s 0) 8 (byF s 0 false))).2.2 = false := by rw [hR2]; exact hf
  have hbi : byI s 0 ≤ s.size := by unfold byI; split <;> omega
  obtain ⟨h8, _, hidx, _⟩ := risRd_false hbi h7
  rw [Bool.or_eq_false_iff, decide_eq_false_iff_not] at h8
  obtain ⟨h8, h9⟩ := h8
  obtain ⟨_, h0, hb1, _⟩ := byF_false h8
  have hc : coV (byV s 0) 8 (byF s 0 false) = byV s 0 := by rw [h8]; exact coV_same (by omega)
  rw [hb1, hc] at hidx
  rw [hb1, hc, h8, decide_eq_false h9, Nat.zero_add] at hR2
  rw [h8, decide_eq_false h9, Nat.zero_add] at hidx
  simp only [Bool.or_self] at hR2 hidx
  have hR21 : R.2.1 = 1 + 3 * byV s 0 := by rw [← hR2]; exact hidx
  rw [hR21] at hj hji h6 h1 h2 hp2 h5
  rw [hf] at h1 h2 hp2 h5
  have ht : rdT s (1 + 3 * byV s 0) false = thT s := by
    unfold rdT thT
    rw [h5, hji, coV_same (by omega), decide_eq_false h6, show 1 + 3 * byV s 0 + 1 = 2 + 3 * byV s 0 by omega]
    rfl
  rw [ht] at h1 h2 hp2
  have hr : R.1 = rgL s := by rw [← hR2]; rfl
  rw [hr] at hp2
  subst hp2
  exact ⟨by omega, by omega, by omega, h1, h2, h3, rfl⟩
theorem rgL_length (s : ByteArray) : (rgL s).length = byV s 0 := risRd_length _ _ _ _
theorem rdB_mk {s : ByteArray} (h1 : 2 + 3 * byV s 0 ≤ s.size) (h2 : (thT s).2.2 = false) (h3 : s.size ≤ (thT s).2.1) (h4 : encB ⟨rgL s, (thT s).1⟩ = true) : rdB s = true := by
  obtain ⟨hr, ht, _, _⟩ := enc_parts.1 h4
  simp only at hr ht
  rw [rgL_length] at hr
  have htl : (thT s).1.length = byV s (1 + 3 * byV s 0) := thsRd_length _ _ _ _
  rw [htl] at ht
  have e0 : byF s 0 false = false := by unfold byF; rw [decide_eq_false (by omega)]; rfl
  have e1 : byI s 0 = 1 := by unfold byI; rw [if_pos (by omega)]
  have hR : rdR s 0 false = (rgL s, 1 + 3 * byV s 0, false) := by
    unfold rdR
    rw [e0, e1, coV_same hr, decide_eq_false (by omega)]
    have := risRd_in (s := s) (n := byV s 0) (by omega)
    show (risRd s 1 false (byV s 0)) = _
    exact Prod.ext rfl this
  have e2 : byF s (1 + 3 * byV s 0) false = false := by unfold byF; rw [decide_eq_false (by omega)]; rfl
  have e3 : byI s (1 + 3 * byV s 0) = 2 + 3 * byV s 0 := by unfold byI; rw [if_pos (by omega)]; omega
  have hT : rdT s (1 + 3 * byV s 0) false = thT s := by
    unfold rdT thT
    rw [e2, e3, coV_same ht, decide_eq_false (by omega)]; rfl
  unfold rdB prRd
  rw [hR]
  simp only
  rw [hT, h2, h4, decide_eq_true h3]; rfl
theorem rdP_yes {s : ByteArray} (h : rdB s = true) : rdP s = ⟨rgL s, (thT s).1⟩ := by
  unfold rdP
  rw [h, if_pos rfl]
  exact (rdB_parts h).2.2.2.2.2.2
theorem rdP_no {s : ByteArray} (h : rdB s = false) : rdP s = ⟨[], []⟩ := by
  unfold rdP
  rw [h]; rfl
theorem rdB_text {s : ByteArray} (h : rdB s = true) : encB (rdP s) = true ∧ textB (pgE (rdP s)) = s := by
  obtain ⟨h1, h2, h3, h4, h5, h6, _⟩ := rdB_parts h
  rw [rdP_yes h]
  refine ⟨h6, ?_⟩
  have e0 : byF s 0 false = false := by unfold byF; rw [decide_eq_false (by omega)]; rfl
  obtain ⟨_, _, b0, q0⟩ := byF_false e0
  have hr := risRd_in (s := s) (n := byV s 0) (by omega)
  obtain ⟨_, _, q2, q1⟩ := risRd_false (s := s) (i := 1) (f := false) (n := byV s 0) (by omega) (by rw [hr])
  have e2 : byF s (1 + 3 * byV s 0) false = false := by unfold byF; rw [decide_eq_false (by omega)]; rfl
  obtain ⟨_, _, b3, q3⟩ := byF_false e2
  obtain ⟨_, q4⟩ := thsRd_false (show (thsRd s (2 + 3 * byV s 0) false (byV s (1 + 3 * byV s 0))).2.2 = false from h4)
  have hend : restOf s (thT s).2.1 = [] := by unfold restOf; exact List.drop_of_length_le (by simpa using h5)
  have hall : s.data.toList = pgE ⟨rgL s, (thT s).1⟩ := by
    have hz : restOf s 0 = s.data.toList := by unfold restOf; rfl
    rw [← hz, q0, Nat.zero_add, q1, q2, q3, show 1 + 3 * byV s 0 + 1 = 2 + 3 * byV s 0 by omega, q4, show restOf s (thsRd s (2 + 3 * byV s 0) false (byV s (1 + 3 * byV s 0))).2.1 = [] from hend]
    unfold pgE
    have htl : (thT s).1.length = byV s (1 + 3 * byV s 0) := thsRd_length _ _ _ _
    simp only [rgL_length, htl]
    simp [rgL, thT]
  rw [← hall]
  rfl
/-! ## What is read holds small numbers -/
theorem byV_i64 (s : ByteArray) (i : Nat) : i64 (byV s i : Nat) := by
  have := byV_lt s i
  exact ⟨by omega, by omega⟩
theorem inRd_ok (s : ByteArray) (i : Nat) (f : Bool) : inOk (inRd s i f).1 := ⟨byV_i64 _ _, byV_i64 _ _, byV_i64 _ _, byV_i64 _ _, byV_i64 _ _, rd_bound _⟩
theorem insRd_ok (s : ByteArray) (i : Nat) (f : Bool) : ∀ n, ∀ x ∈ (insRd s i f n).1, inOk x
  | 0, x, h => by cases h
  | n + 1, x, h => by
    rcases List.mem_append.1 (show x ∈ (insRd s i f n).1 ++ [_] from h) with h | h
    · exact insRd_ok s i f n x h
    · rw [List.mem_singleton] at h; subst h; exact inRd_ok _ _ _
theorem risRd_ok (s : ByteArray) (i : Nat) (f : Bool) : ∀ n, ∀ x ∈ (risRd s i f n).1, riOk x
  | 0, x, h => by cases h
  | n + 1, x, h => by
    rcases List.mem_append.1 (show x ∈ (risRd s i f n).1 ++ [_] from h) with h | h
    · exact risRd_ok s i f n x h
    · rw [List.mem_singleton] at h; subst h; exact ⟨byV_i64 _ _, byV_i64 _ _, byV_i64 _ _⟩
theorem thsRd_ok (s : ByteArray) (i : Nat) (f : Bool) : ∀ n, ∀ l ∈ (thsRd s i f n).1, ∀ x ∈ l, inOk x
  | 0, x, h => by cases h
  | n + 1, x, h => by
    rcases List.mem_append.1 (show x ∈ (thsRd s i f n).1 ++ [_] from h) with h | h
    · exact thsRd_ok s i f n x h
    · rw [List.mem_singleton] at h; subst h; exact insRd_ok _ _ _ _
theorem rdq_ok (s : ByteArray) : pgOk ⟨rgL s, (thT s).1⟩ := ⟨risRd_ok _ _ _ _, thsRd_ok _ _ _ _⟩
theorem rdP_ok (s : ByteArray) : pgOk (rdP s) := by
  cases h : rdB s with
  | true => rw [rdP_yes h]; exact rdq_ok s
  | false => rw [rdP_no h]; exact ⟨fun x hx => (by cases hx), fun l hl => (by cases hl)⟩
end Go.Proofs.YtebgcehcnenjiaaDoor
