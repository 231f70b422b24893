import Derived.Test.YtebgcehcnenjiaaDoorRdc
import Derived.Test.YtebgcehcnenjiaaDoorRefread
import Derived.Test.YtebgcehcnenjiaaDoorRfwr
import Derived.Test.YtebgcehcnenjiaaDoorCode2
/-
  What is read of bytes (layer 9): when it is a program, and that the program's bytes are those.
-/
namespace Go.Proofs.YtebgcehcnenjiaaDoor
open Go.RowKit
set_option linter.unusedVariables false
set_option linter.unusedSimpArgs false
section
variable {s : ByteArray} {i n : Nat} {f : Bool}
/-! ## A part that was read -/
theorem byF_false (h : byF s i f = false) : f = false ∧ i < s.size ∧ byI s i = i + 1 ∧ restOf s i = bI (byV s i : Nat) :: restOf s (i + 1) := by
  unfold byF at h
  rw [Bool.or_eq_false_iff, decide_eq_false_iff_not] at h
  obtain ⟨h1, h2⟩ := h
  have hi : i < s.size := by omega
  refine ⟨h1, hi, by unfold byI; rw [if_pos hi], ?_⟩
  rw [rest_cons s i hi]
  unfold byV bI
  rw [dif_pos hi, Int.toNat_natCast, UInt8.ofNat_toNat]
theorem nuF_false (h : nuF s i f = false) : f = false ∧ restOf s i = enc (nuV s i) ++ restOf s (nuI s i) := by
  unfold nuF at h
  rw [Bool.or_eq_false_iff, bne_eq_false_iff_eq] at h
  refine ⟨h.1, ?_⟩
  have h1 := rd_take _ h.2
  unfold nuV nuI
  rw [← h1]
  unfold restOf
  rw [← List.drop_drop, List.take_append_drop]
theorem inRd_false (h : (inRd s i f).2.2 = false) : f = false ∧ restOf s i = inE (inRd s i f).1 ++ restOf s (inRd s i f).2.1 := by
  unfold inRd at h
  obtain ⟨h1, e5⟩ := nuF_false h
  obtain ⟨h1, _, b4, e4⟩ := byF_false h1
  obtain ⟨h1, _, b3, e3⟩ := byF_false h1
  obtain ⟨h1, _, b2, e2⟩ := byF_false h1
  obtain ⟨h1, _, b1, e1⟩ := byF_false h1
  obtain ⟨h1, _, b0, e0⟩ := byF_false h1
  refine ⟨h1, ?_⟩
  unfold inE inRd
  simp only
  rw [e0, ← b0, e1, ← b1, e2, ← b2, e3, ← b3, e4, ← b4, e5]
  rfl
theorem riRd_false (h : (riRd s i f).2.2 = false) : f = false ∧ i + 3 ≤ s.size ∧ (riRd s i f).2.1 = i + 3 ∧ restOf s i = riE (riRd s i f).1 ++ restOf s (riRd s i f).2.1 := by
  unfold riRd at h
  obtain ⟨h1, l2, b2, e2⟩ := byF_false h
  obtain ⟨h1, l1, b1, e1⟩ := byF_false h1
  obtain ⟨h1, l0, b0, e0⟩ := byF_false h1
  refine ⟨h1, by omega, ?_, ?_⟩
  · unfold riRd; simp only; omega
  · unfold riE riRd
    simp only
    rw [e0, ← b0, e1, ← b1, e2, ← b2]
    rfl
theorem insRd_false : ∀ {n : Nat}, (insRd s i f n).2.2 = false → f = false ∧ restOf s i = (insRd s i f n).1.flatMap inE ++ restOf s (insRd s i f n).2.1
  | 0, h => ⟨h, rfl⟩
  | n + 1, h => by
    have h1 : (inRd s (insRd s i f n).2.1 (insRd s i f n).2.2).2.2 = false := h
    obtain ⟨h2, e2⟩ := inRd_false h1
    obtain ⟨h3, e3⟩ := insRd_false h2
    refine ⟨h3, ?_⟩
    show _ = ((insRd s i f n).1 ++ [_]).flatMap inE ++ restOf s (inRd s (insRd s i f n).2.1 (insRd s i f n).2.2).2.1
    rw [List.flatMap_append, List.append_assoc]
    simp only [List.flatMap_cons, List.flatMap_nil, List.append_nil]
    rw [← e2]; exact e3
theorem risRd_false (hi : i ≤ s.size) : ∀ {n : Nat}, (risRd s i f n).2.2 = false → f = false ∧ i + 3 * n ≤ s.size ∧ (risRd s i f n).2.1 = i + 3 * n ∧ restOf s i = (risRd s i f n).1.flatMap riE ++ restOf s (risRd s i f n).2.1
  | 0, h => ⟨h, by omega, by simp [risRd], rfl⟩
  | n + 1, h => by
    have h1 : (riRd s (risRd s i f n).2.1 (risRd s i f n).2.2).2.2 = false := h
    obtain ⟨h2, l2, q2, e2⟩ := riRd_false h1
    obtain ⟨h3, l3, q3, e3⟩ := risRd_false hi h2
    refine ⟨h3, by omega, ?_, ?_⟩
    · show (riRd s (risRd s i f n).2.1 (risRd s i f n).2.2).2.1 = _
      rw [q2, q3]; omega
    · show _ = ((risRd s i f n).1 ++ [_]).flatMap riE ++ restOf s (riRd s (risRd s i f n).2.1 (risRd s i f n).2.2).2.1
      rw [List.flatMap_append, List.append_assoc]
      simp only [List.flatMap_cons, List.flatMap_nil, List.append_nil]
      rw [← e2]; exact e3
theorem thRd_false (h : (thRd s i f).2.2 = false) : f = false ∧ nuF s i f = false ∧ nuV s i ≤ 256 ∧ thRd s i f = insRd s (nuI s i) false (nuV s i) ∧ restOf s i = thE (thRd s i f).1 ++ restOf s (thRd s i f).2.1 := by
  unfold thRd at h
  obtain ⟨h1, e1⟩ := insRd_false h
  rw [Bool.or_eq_false_iff, decide_eq_false_iff_not] at h1
  obtain ⟨h2, h3⟩ := h1
  obtain ⟨h4, e4⟩ := nuF_false h2
  have hc : coV (nuV s i) 256 (nuF s i f) = nuV s i := by rw [h2]; exact coV_same (by omega)
  have ht : thRd s i f = insRd s (nuI s i) false (nuV s i) := by
    unfold thRd
    rw [hc, h2, decide_eq_false h3]; rfl
  refine ⟨h4, h2, by omega, ht, ?_⟩
  rw [ht]
  rw [hc, h2, decide_eq_false h3] at e1
  simp only [Bool.or_self] at e1
  rw [e4]
  unfold thE
  rw [insRd_length, List.append_assoc, ← e1]
theorem thsRd_false : ∀ {n : Nat}, (thsRd s i f n).2.2 = false → f = false ∧ restOf s i = (thsRd s i f n).1.flatMap thE ++ restOf s (thsRd s i f n).2.1
  | 0, h => ⟨h, rfl⟩
  | n + 1, h => by
    have h1 : (thRd s (thsRd s i f n).2.1 (thsRd s i f n).2.2).2.2 = false := h
    obtain ⟨h2, _, _, _, e2⟩ := thRd_false h1
    obtain ⟨h3, e3⟩ := thsRd_false h2
    refine ⟨h3, ?_⟩
    show _ = ((thsRd s i f n).1 ++ [_]).flatMap thE ++ restOf s (thRd s (thsRd s i f n).2.1 (thsRd s i f n).2.2).2.1
    rw [List.flatMap_append, List.append_assoc]
    simp only [List.flatMap_cons, List.flatMap_nil, List.append_nil]
    rw [← e2]; exact e3
end
/-! ## The whole -/
/-- The parts as they lie: n rings, then the threads. -/
def rgL (s : ByteArray) : List Ri := (risRd s 1 false (byV s 0)).1
def thT (s : ByteArray) : List (List In) × Nat × Bool := thsRd s (2 + 3 * byV s 0) false (byV s (1 + 3 * byV s 0))
theorem risRd_in {s : ByteArray} : ∀ {n : Nat}, 1 + 3 * n ≤ s.size → (risRd s 1 false n).2 = (1 + 3 * n, false)
  | 0, _ => rfl
  | n + 1, h => by
    have h1 := risRd_in (s := s) (n := n) (by omega)
    show (riRd s (risRd s 1 false n).2.1 (risRd s 1 false n).2.2).2 = _
    rw [h1]
    unfold riRd byF byI
    simp only
    rw [if_pos (show 1 + 3 * n < s.size by omega), if_pos (show 1 + 3 * n + 1 < s.size by omega), if_pos (show 1 + 3 * n + 1 + 1 < s.size by omega), decide_eq_false (by omega), decide_eq_false (by omega), decide_eq_false (by omega)]
    rfl
theorem rdB_parts {s : ByteArray} (h : rdB s = true) : byV s 0 ≤ 8 ∧ byV s (1 + 3 * byV s 0) ≤ 8 ∧ 2 + 3 * byV s 0 ≤ s.size ∧ (thT s).2.2 = false ∧ s.size ≤ (thT s).2.1 ∧ encB ⟨rgL s, (thT s).1⟩ = true ∧ (prRd s 0 false).1 = ⟨rgL s, (thT s).1⟩ := by
  unfold rdB at h
  simp only [Bool.and_eq_true, Bool.not_eq_true', decide_eq_true_eq] at h
  obtain ⟨h1, h2, h3⟩ := h
  have h1 : (rdT s (rdR s 0 false).2.1 (rdR s 0 false).2.2).2.2 = false := h1
  have h2 : s.size ≤ (rdT s (rdR s 0 false).2.1 (rdR s 0 false).2.2).2.1 := h2
  obtain ⟨p, hp⟩ : ∃ p, (prRd s 0 false).1 = p := ⟨_, rfl⟩
  have hp2 : (⟨(rdR s 0 false).1, (rdT s (rdR s 0 false).2.1 (rdR s 0 false).2.2).1⟩ : Pg) = p := hp
  rw [hp] at h3 ⊢
  clear hp
  obtain ⟨R, hR⟩ : ∃ R, rdR s 0 false = R := ⟨_, rfl⟩
  rw [hR] at h1 h2 hp2
  have h4 := h1
  unfold rdT at h4
  obtain ⟨h5, _⟩ := thsRd_false h4
  rw [Bool.or_eq_false_iff, decide_eq_false_iff_not] at h5
  obtain ⟨h5, h6⟩ := h5
  obtain ⟨hf, hj, hji, _⟩ := byF_false h5
  have hR2 := hR
  unfold rdR at hR2
  have h7 : (risRd s (byI s 0) (byF s 0 false || decide (8 < byV s 0)) (coV (byV s 0) 8 (byF s 0 false))).2.2 = false := by rw [hR2]; exact hf
  have hbi : byI s 0 ≤ s.size := by unfold byI; split <;> omega
  obtain ⟨h8, _, hidx, _⟩ := risRd_false hbi h7
  rw [Bool.or_eq_false_iff, decide_eq_false_iff_not] at h8
  obtain ⟨h8, h9⟩ := h8
  obtain ⟨_, h0, hb1, _⟩ := byF_false h8
  have hc : coV (byV s 0) 8 (byF s 0 false) = byV s 0 := by rw [h8]; exact coV_same (by omega)
  rw [hb1, hc] at hidx
  rw [hb1, hc, h8, decide_eq_false h9, Nat.zero_add] at hR2
  rw [h8, decide_eq_false h9, Nat.zero_add] at hidx
  simp only [Bool.or_self] at hR2 hidx
  have hR21 : R.2.1 = 1 + 3 * byV s 0 := by rw [← hR2]; exact hidx
  rw [hR21] at hj hji h6 h1 h2 hp2 h5
  rw [hf] at h1 h2 hp2 h5
  have ht : rdT s (1 + 3 * byV s 0) false = thT s := by
    unfold rdT thT
    rw [h5, hji, coV_same (by omega), decide_eq_false h6, show 1 + 3 * byV s 0 + 1 = 2 + 3 * byV s 0 by omega]
    rfl
  rw [ht] at h1 h2 hp2
  have hr : R.1 = rgL s := by rw [← hR2]; rfl
  rw [hr] at hp2
  subst hp2
  exact ⟨by omega, by omega, by omega, h1, h2, h3, rfl⟩
theorem rgL_length (s : ByteArray) : (rgL s).length = byV s 0 := risRd_length _ _ _ _
theorem rdB_mk {s : ByteArray} (h1 : 2 + 3 * byV s 0 ≤ s.size) (h2 : (thT s).2.2 = false) (h3 : s.size ≤ (thT s).2.1) (h4 : encB ⟨rgL s, (thT s).1⟩ = true) : rdB s = true := by
  obtain ⟨hr, ht, _, _⟩ := enc_parts.1 h4
  simp only at hr ht
  rw [rgL_length] at hr
  have htl : (thT s).1.length = byV s (1 + 3 * byV s 0) := thsRd_length _ _ _ _
  rw [htl] at ht
  have e0 : byF s 0 false = false := by unfold byF; rw [decide_eq_false (by omega)]; rfl
  have e1 : byI s 0 = 1 := by unfold byI; rw [if_pos (by omega)]
  have hR : rdR s 0 false = (rgL s, 1 + 3 * byV s 0, false) := by
    unfold rdR
    rw [e0, e1, coV_same hr, decide_eq_false (by omega)]
    have := risRd_in (s := s) (n := byV s 0) (by omega)
    show (risRd s 1 false (byV s 0)) = _
    exact Prod.ext rfl this
  have e2 : byF s (1 + 3 * byV s 0) false = false := by unfold byF; rw [decide_eq_false (by omega)]; rfl
  have e3 : byI s (1 + 3 * byV s 0) = 2 + 3 * byV s 0 := by unfold byI; rw [if_pos (by omega)]; omega
  have hT : rdT s (1 + 3 * byV s 0) false = thT s := by
    unfold rdT thT
    rw [e2, e3, coV_same ht, decide_eq_false (by omega)]; rfl
  unfold rdB prRd
  rw [hR]
  simp only
  rw [hT, h2, h4, decide_eq_true h3]; rfl
theorem rdP_yes {s : ByteArray} (h : rdB s = true) : rdP s = ⟨rgL s, (thT s).1⟩ := by
  unfold rdP
  rw [h, if_pos rfl]
  exact (rdB_parts h).2.2.2.2.2.2
theorem rdP_no {s : ByteArray} (h : rdB s = false) : rdP s = ⟨[], []⟩ := by
  unfold rdP
  rw [h]; rfl
theorem rdB_text {s : ByteArray} (h : rdB s = true) : encB (rdP s) = true ∧ textB (pgE (rdP s)) = s := by
  obtain ⟨h1, h2, h3, h4, h5, h6, _⟩ := rdB_parts h
  rw [rdP_yes h]
  refine ⟨h6, ?_⟩
  have e0 : byF s 0 false = false := by unfold byF; rw [decide_eq_false (by omega)]; rfl
  obtain ⟨_, _, b0, q0⟩ := byF_false e0
  have hr := risRd_in (s := s) (n := byV s 0) (by omega)
  obtain ⟨_, _, q2, q1⟩ := risRd_false (s := s) (i := 1) (f := false) (n := byV s 0) (by omega) (by rw [hr])
  have e2 : byF s (1 + 3 * byV s 0) false = false := by unfold byF; rw [decide_eq_false (by omega)]; rfl
  obtain ⟨_, _, b3, q3⟩ := byF_false e2
  obtain ⟨_, q4⟩ := thsRd_false (show (thsRd s (2 + 3 * byV s 0) false (byV s (1 + 3 * byV s 0))).2.2 = false from h4)
  have hend : restOf s (thT s).2.1 = [] := by unfold restOf; exact List.drop_of_length_le (by simpa using h5)
  have hall : s.data.toList = pgE ⟨rgL s, (thT s).1⟩ := by
    have hz : restOf s 0 = s.data.toList := by unfold restOf; rfl
    rw [← hz, q0, Nat.zero_add, q1, q2, q3, show 1 + 3 * byV s 0 + 1 = 2 + 3 * byV s 0 by omega, q4, show restOf s (thsRd s (2 + 3 * byV s 0) false (byV s (1 + 3 * byV s 0))).2.1 = [] from hend]
    unfold pgE
    have htl : (thT s).1.length = byV s (1 + 3 * byV s 0) := thsRd_length _ _ _ _
    simp only [rgL_length, htl]
    simp [rgL, thT]
  rw [← hall]
  rfl
/-! ## What is read holds small numbers -/
theorem byV_i64 (s : ByteArray) (i : Nat) : i64 (byV s i : Nat) := by
  have := byV_lt s i
  exact ⟨by omega, by omega⟩
theorem inRd_ok (s : ByteArray) (i : Nat) (f : Bool) : inOk (inRd s i f).1 := ⟨byV_i64 _ _, byV_i64 _ _, byV_i64 _ _, byV_i64 _ _, byV_i64 _ _, rd_bound _⟩
theorem insRd_ok (s : ByteArray) (i : Nat) (f : Bool) : ∀ n, ∀ x ∈ (insRd s i f n).1, inOk x
  | 0, x, h => by cases h
  | n + 1, x, h => by
    rcases List.mem_append.1 (show x ∈ (insRd s i f n).1 ++ [_] from h) with h | h
    · exact insRd_ok s i f n x h
    · rw [List.mem_singleton] at h; subst h; exact inRd_ok _ _ _
theorem risRd_ok (s : ByteArray) (i : Nat) (f : Bool) : ∀ n, ∀ x ∈ (risRd s i f n).1, riOk x
  | 0, x, h => by cases h
  | n + 1, x, h => by
    rcases List.mem_append.1 (show x ∈ (risRd s i f n).1 ++ [_] from h) with h | h
    · exact risRd_ok s i f n x h
    · rw [List.mem_singleton] at h; subst h; exact ⟨byV_i64 _ _, byV_i64 _ _, byV_i64 _ _⟩
theorem thsRd_ok (s : ByteArray) (i : Nat) (f : Bool) : ∀ n, ∀ l ∈ (thsRd s i f n).1, ∀ x ∈ l, inOk x
  | 0, x, h => by cases h
  | n + 1, x, h => by
    rcases List.mem_append.1 (show x ∈ (thsRd s i f n).1 ++ [_] from h) with h | h
    · exact thsRd_ok s i f n x h
    · rw [List.mem_singleton] at h; subst h; exact insRd_ok _ _ _ _
theorem rdq_ok (s : ByteArray) : pgOk ⟨rgL s, (thT s).1⟩ := ⟨risRd_ok _ _ _ _, thsRd_ok _ _ _ _⟩
theorem rdP_ok (s : ByteArray) : pgOk (rdP s) := by
  cases h : rdB s with
  | true => rw [rdP_yes h]; exact rdq_ok s
  | false => rw [rdP_no h]; exact ⟨fun x hx => (by cases hx), fun l hl => (by cases hl)⟩
end Go.Proofs.YtebgcehcnenjiaaDoor
/-
  The document's Read (layer 9).
-/
namespace Go.Proofs.YtebgcehcnenjiaaDoor
open Go.RowKit
set_option linter.unusedVariables false
set_option linter.unusedSimpArgs false
theorem byV_in {s : ByteArray} {i : Nat} (h : i < s.size) : byV s i = (s[i]'h).toNat := by unfold byV; rw [dif_pos h]
theorem byI_in {s : ByteArray} {i : Nat} (h : i < s.size) : byI s i = i + 1 := by unfold byI; rw [if_pos h]
theorem byF_in {s : ByteArray} {i : Nat} (h : i < s.size) : byF s i false = false := by unfold byF; rw [decide_eq_false (by omega)]; rfl
theorem riRd_at {s : ByteArray} {i : Nat} (h : i + 3 ≤ s.size) : riRd s i false = (⟨(byV s i : Nat), (byV s (i + 1) : Nat), (byV s (i + 2) : Nat)⟩, i + 3, false) := by
  unfold riRd
  rw [byI_in (show i < s.size by omega), byI_in (show i + 1 < s.size by omega), byI_in (show i + 1 + 1 < s.size by omega), byF_in (show i < s.size by omega), byF_in (show i + 1 < s.size by omega), byF_in (show i + 1 + 1 < s.size by omega)]
theorem inRd_at {s : ByteArray} {i : Nat} (h : i + 5 ≤ s.size) : inRd s i false = (⟨(byV s i : Nat), (byV s (i + 1) : Nat), (byV s (i + 2) : Nat), (byV s (i + 3) : Nat), (byV s (i + 4) : Nat), nuV s (i + 5)⟩, nuI s (i + 5), nuF s (i + 5) false) := by
  unfold inRd
  rw [byI_in (show i < s.size by omega), byI_in (show i + 1 < s.size by omega), byI_in (show i + 1 + 1 < s.size by omega), byI_in (show i + 1 + 1 + 1 < s.size by omega), byI_in (show i + 1 + 1 + 1 + 1 < s.size by omega),
    byF_in (show i < s.size by omega), byF_in (show i + 1 < s.size by omega), byF_in (show i + 1 + 1 < s.size by omega), byF_in (show i + 1 + 1 + 1 < s.size by omega), byF_in (show i + 1 + 1 + 1 + 1 < s.size by omega)]
theorem inRd_short {s : ByteArray} {i : Nat} (h : s.size < i + 5) : (inRd s i false).2.2 = true := by
  cases hf : (inRd s i false).2.2 with
  | true => rfl
  | false =>
    exfalso
    unfold inRd at hf
    obtain ⟨h1, _⟩ := nuF_false hf
    obtain ⟨h1, l4, b4, _⟩ := byF_false h1
    obtain ⟨h1, l3, b3, _⟩ := byF_false h1
    obtain ⟨h1, l2, b2, _⟩ := byF_false h1
    obtain ⟨h1, l1, b1, _⟩ := byF_false h1
    obtain ⟨h1, l0, b0, _⟩ := byF_false h1
    rw [b0] at b1 l1 b2 l2 b3 l3 b4 l4
    rw [b1] at b2 l2 b3 l3 b4 l4
    rw [b2] at b3 l3 b4 l4
    rw [b3] at b4 l4
    omega
theorem thRd_bad {s : ByteArray} {i : Nat} (h : nuF s i false = true ∨ 256 < nuV s i) : (thRd s i false).2.2 = true := by
  unfold thRd
  have : (nuF s i false || decide (256 < nuV s i)) = true := by
    rcases h with h | h
    · rw [h]; rfl
    · rw [decide_eq_true h, Bool.or_true]
  rw [this, insRd_true]
theorem thRd_good {s : ByteArray} {i : Nat} (h : nuF s i false = false) (h2 : nuV s i ≤ 256) : thRd s i false = insRd s (nuI s i) false (nuV s i) := by
  unfold thRd
  rw [h, coV_same h2, decide_eq_false (by omega)]; rfl
theorem nuI_le {s : ByteArray} {i : Nat} (h : i ≤ s.size) : nuI s i ≤ s.size := by
  have := rdV_used 10 0 0 (restOf s i)
  have hl : (restOf s i).length = s.size - i := by unfold restOf; simp
  unfold nuI rd
  omega
def rgV (w0 : World) (s : ByteArray) (k n3 : Nat) (vr : Value) (L : List Ri) (x0 x1 x2 : Nat) : Nat → Value → World → Prop
  | 0, v, _ => v = .pointer (some ⟨n3, 0, none⟩)
  | 1, v, _ => v = vr
  | 2, v, _ => v = .string s
  | 3, v, _ => v = .int .i64 (k : Int)
  | 4, v, _ => v = .int .i64 (3 * (k : Int))
  | 5, v, _ => v = .int .i64 (1 + 3 * (k : Int))
  | 6, v, _ => v = .int .u8 (x0 : Int)
  | 7, v, _ => v = .int .i64 (x0 : Int)
  | 8, v, _ => v = .string s
  | 9, v, _ => v = .int .i64 (k : Int)
  | 10, v, _ => v = .int .i64 (3 * (k : Int))
  | 11, v, _ => v = .int .i64 (2 + 3 * (k : Int))
  | 12, v, _ => v = .int .u8 (x1 : Int)
  | 13, v, _ => v = .int .i64 (x1 : Int)
  | 14, v, _ => v = .string s
  | 15, v, _ => v = .int .i64 (k : Int)
  | 16, v, _ => v = .int .i64 (3 * (k : Int))
  | 17, v, _ => v = .int .i64 (3 + 3 * (k : Int))
  | 18, v, _ => v = .int .u8 (x2 : Int)
  | 19, v, _ => v = .int .i64 (x2 : Int)
  | 20, v, _ => v = .agg (riC ⟨x0, x1, x2⟩)
  | 21, v, w => ∃ b, v = .slice (some ⟨b, 0, none⟩) 1 1 ∧ Lies w b 67 (riC ⟨x0, x1, x2⟩)
  | 22, v, w => w.ownsRow w0.heap.size 67 3 v (L.length + 1) (rowsOf riF (L ++ [⟨x0, x1, x2⟩]))
  | 23, v, _ => v = .pointer (some ⟨n3, 0, none⟩)
  | 24, _, w => ∃ v, Lies w n3 35 #[v, .slice none 0 0] ∧ w.ownsRow w0.heap.size 67 3 v (L.length + 1) (rowsOf riF (L ++ [⟨x0, x1, x2⟩]))
  | 25, _, w => Lies w n3 35 #[vr, .slice none 0 0]
  | 26, _, w => w.ownsRow w0.heap.size 67 3 vr L.length (rowsOf riF L)
  | _, _, _ => True
def rgLow : Nat → Bool
  | 21 => false
  | 22 => false
  | 24 => false
  | 25 => false
  | 26 => false
  | _ => true
section
variable {w0 w w' : World} {s : ByteArray} {k n3 : Nat} {vr : Value} {L : List Ri} {x0 x1 x2 : Nat}
theorem rgV_low {j : Nat} {u : Value} (hj : rgLow j = true) (h : rgV w0 s k n3 vr L x0 x1 x2 j u w) : rgV w0 s k n3 vr L x0 x1 x2 j u w' := by
  match j, hj with
  | 0, _ => exact h
  | 1, _ => exact h
  | 2, _ => exact h
  | 3, _ => exact h
  | 4, _ => exact h
  | 5, _ => exact h
  | 6, _ => exact h
  | 7, _ => exact h
  | 8, _ => exact h
  | 9, _ => exact h
  | 10, _ => exact h
  | 11, _ => exact h
  | 12, _ => exact h
  | 13, _ => exact h
  | 14, _ => exact h
  | 15, _ => exact h
  | 16, _ => exact h
  | 17, _ => exact h
  | 18, _ => exact h
  | 19, _ => exact h
  | 20, _ => exact h
  | 23, _ => exact h
  | _ + 27, _ => trivial
theorem rgV_kept {S : Nat → Prop} (hk : Kept S w w') (h1 : ∀ cs, Lies w n3 35 cs → ¬ S n3) {j : Nat} {u : Value} (hj : (rgLow j || j == 25) = true) (h : rgV w0 s k n3 vr L x0 x1 x2 j u w) : rgV w0 s k n3 vr L x0 x1 x2 j u w' := by
  by_cases e : j = 25
  · subst e
    exact Lies.kept h hk (h1 _ h)
  · have : rgLow j = true := by
      rw [Bool.or_eq_true, beq_iff_eq] at hj
      exact hj.resolve_right e
    exact rgV_low this h
theorem rgV_alloc (o : Obj) {j : Nat} {u : Value} (h : rgV w0 s k n3 vr L x0 x1 x2 j u w) : rgV w0 s k n3 vr L x0 x1 x2 j u (w.alloc o) := by
  have hb : Below w.heap.size w (w.alloc o) := (Below.refl _ _).alloc (Nat.le_refl _) _
  by_cases e : (rgLow j || j == 25) = true
  · exact rgV_kept (Kept.alloc noRow w o) (fun _ _ h => h) e h
  · match j, e with
    | 21, _ => obtain ⟨b2, e, hl⟩ := h; exact ⟨b2, e, hl.alloc o⟩
    | 22, _ => exact owned_below h hb
    | 24, _ => obtain ⟨v, h1, h2⟩ := h; exact ⟨v, h1.alloc o, owned_below h2 hb⟩
    | 26, _ => exact owned_below h hb
end
end Go.Proofs.YtebgcehcnenjiaaDoor
/-
  The document's Read (layer 9): its walk.
-/
namespace Go.Proofs.YtebgcehcnenjiaaDoor
open Go.RowKit
set_option linter.unusedVariables false
set_option linter.unusedSimpArgs false
def isV (s : ByteArray) (i g : Nat) (x0 x1 x2 x3 x4 : Nat) : Nat → Value → World → Prop
  | 0, v, _ => v = .string s
  | 1, v, _ => v = .int .i64 (i : Int)
  | 2, v, _ => v = .int .u8 (x0 : Int)
  | 3, v, _ => v = .int .i64 (x0 : Int)
  | 4, v, _ => v = .string s
  | 5, v, _ => v = .int .i64 (i : Int)
  | 6, v, _ => v = .int .i64 ((i : Int) + 1)
  | 7, v, _ => v = .int .u8 (x1 : Int)
  | 8, v, _ => v = .int .i64 (x1 : Int)
  | 9, v, _ => v = .string s
  | 10, v, _ => v = .int .i64 (i : Int)
  | 11, v, _ => v = .int .i64 ((i : Int) + 2)
  | 12, v, _ => v = .int .u8 (x2 : Int)
  | 13, v, _ => v = .int .i64 (x2 : Int)
  | 14, v, _ => v = .string s
  | 15, v, _ => v = .int .i64 (i : Int)
  | 16, v, _ => v = .int .i64 ((i : Int) + 3)
  | 17, v, _ => v = .int .u8 (x3 : Int)
  | 18, v, _ => v = .int .i64 (x3 : Int)
  | 19, v, _ => v = .string s
  | 20, v, _ => v = .int .i64 (i : Int)
  | 21, v, _ => v = .int .i64 ((i : Int) + 4)
  | 22, v, _ => v = .int .u8 (x4 : Int)
  | 23, v, _ => v = .int .i64 (x4 : Int)
  | 24, v, _ => v = .agg (inC ⟨x0, x1, x2, x3, x4, 0⟩)
  | 25, v, w => v = .pointer (some ⟨g, 0, none⟩) ∧ ∃ a0 a1 a2 a3 a4 a5, Lies w g 24 #[a0, a1, a2, a3, a4, a5]
  | 26, _, w => Lies w g 24 (inC ⟨x0, x1, x2, x3, x4, 0⟩)
  | 27, _, w => w.heap.size = g
  | _, _, _ => True
def isLow : Nat → Bool
  | 25 => false
  | 26 => false
  | 27 => false
  | _ => true
theorem isV_low {s : ByteArray} {i g : Nat} {x0 x1 x2 x3 x4 : Nat} {w w' : World} {j : Nat} {u : Value} (hj : isLow j = true) (h : isV s i g x0 x1 x2 x3 x4 j u w) : isV s i g x0 x1 x2 x3 x4 j u w' := by
  match j, hj with
  | 0, _ => exact h
  | 1, _ => exact h
  | 2, _ => exact h
  | 3, _ => exact h
  | 4, _ => exact h
  | 5, _ => exact h
  | 6, _ => exact h
  | 7, _ => exact h
  | 8, _ => exact h
  | 9, _ => exact h
  | 10, _ => exact h
  | 11, _ => exact h
  | 12, _ => exact h
  | 13, _ => exact h
  | 14, _ => exact h
  | 15, _ => exact h
  | 16, _ => exact h
  | 17, _ => exact h
  | 18, _ => exact h
  | 19, _ => exact h
  | 20, _ => exact h
  | 21, _ => exact h
  | 22, _ => exact h
  | 23, _ => exact h
  | 24, _ => exact h
  | _ + 28, _ => trivial
theorem isV_box {s : ByteArray} {i g : Nat} {x0 x1 x2 x3 x4 : Nat} {w w' : World} (hl : ∃ a0 a1 a2 a3 a4 a5, Lies w' g 24 #[a0, a1, a2, a3, a4, a5]) {j : Nat} {u : Value} (hj : (isLow j || j == 25) = true) (h : isV s i g x0 x1 x2 x3 x4 j u w) : isV s i g x0 x1 x2 x3 x4 j u w' := by
  by_cases e : j = 25
  · subst e
    exact ⟨h.1, hl⟩
  · have : isLow j = true := by
      rw [Bool.or_eq_true, beq_iff_eq] at hj
      exact hj.resolve_right e
    exact isV_low this h
theorem noTwo {w0 w w' : World} {S : Nat → Prop} (h : ∀ k, k < w0.heap.size → ¬ S k) : ∀ k, k < w0.heap.size → S k → twoRows w0.heap.size w0.heap.size k := fun k hk hs => absurd hs (h k hk)
set_option maxHeartbeats 16000000 in
set_option maxRecDepth 100000 in
theorem rfRead (s : ByteArray) (w : World) (hs : s.size ≤ 100000) : Calls Tryd.prog 26 #[.string s] w (PgTwo w (rdP s) (.bool (rdB s))) := by
  have l0 := (Lies.made w 35 #[.slice none 0 0, .slice none 0 0]).alloc (.cells #[.slice none 0 0, .slice none 0 0] 35)
  have l1 := Lies.made (w.alloc (.cells #[.slice none 0 0, .slice none 0 0] 35)) 35 #[.slice none 0 0, .slice none 0 0]
  rw [World.size_alloc] at l1
  have hb0 : Below w.heap.size w ((w.alloc (.cells #[.slice none 0 0, .slice none 0 0] 35)).alloc (.cells #[.slice none 0 0, .slice none 0 0] 35)) := ((Below.refl _ _).alloc (Nat.le_refl _) _).alloc (by simp) _
  have hZ : rdB s = true → 2 + 3 * byV s 0 ≤ s.size ∧ (thT s).2.2 = false ∧ s.size ≤ (thT s).2.1 ∧ encB ⟨rgL s, (thT s).1⟩ = true := fun h => by
    obtain ⟨_, _, h3, h4, h5, h6, _⟩ := rdB_parts h
    exact ⟨h3, h4, h5, h6⟩
  have HZ := Lib.hid hZ
  have HL := Lib.hid l0
  have HX := Lib.hid l1
  have HB := Lib.hid hb0
  clear hZ l0 l1 hb0
  by_cases h0 : s.size = 0
  · have HNO : Hid (rdB s = false) := Lib.hid (Bool.eq_false_iff.2 (fun h => by have := (HZ.out h).1; omega))
    have e1 : decide (s.size < 1) = true := decide_eq_true (by omega)
    have e2 : decide ((s.size : Int) < 1) = true := decide_eq_true (by omega)
    have e3 : (s.size : Int) < 1 := by omega
    clear HZ h0
    go_enter Tryd.func26, Tryd.ntmps26
    go_upto_region 3 with (fail)
    generalize (w.alloc (.cells #[.slice none 0 0, .slice none 0 0] 35)).alloc (.cells #[.slice none 0 0, .slice none 0 0] 35) = w1 at *
    have x0 := (HX.out.cell 0).trans (show _ = some (Value.slice none 0 0) from rfl)
    have x1 := (HX.out.cell 1).trans (show _ = some (Value.slice none 0 0) from rfl)
    have xl := HX.out.lt
    have HP0 : Hid (rdP s = ⟨[], []⟩) := rdP_no HNO.out
    have rf0 := HL.out.free 0
    have rf1 := HL.out.free 1
    have rlt := HL.out.lt
    have r0 := (HL.out.cell 0).trans (show _ = some (Value.slice none 0 0) from rfl)
    have r1 := (HL.out.cell 1).trans (show _ = some (Value.slice none 0 0) from rfl)
    have HR2 := Lib.hid ((HL.out.put 0 (.slice none 0 0)).put 1 (.slice none 0 0))
    have q0 := (HR2.out.cell 0).trans (show _ = some (Value.slice none 0 0) from rfl)
    have q1 := (HR2.out.cell 1).trans (show _ = some (Value.slice none 0 0) from rfl)
    have HQ0 := Lib.hid q0
    have HQ1 := Lib.hid q1
    clear q0 q1
    go_wp2
    refine bodyPost_ret (v := .tuple #[.agg #[.slice none 0 0, .slice none 0 0], .bool false]) (by simp [results, Tryd.results26, go_sem, HQ0.out, HQ1.out]) rfl ?_
    rw [HP0.out, HNO.out]
    exact ⟨none, 0, none, 0, rfl, pg_none _, below_res (below_res HB.out (Nat.le_refl _) _ _) (Nat.le_refl _) _ _⟩
  have h1 : 0 < s.size := by omega
  have e1 : decide ((s.size : Int) < 1) = false := decide_eq_false (by omega)
  obtain ⟨n, hn⟩ : ∃ n, (s[0]'h1).toNat = n := ⟨_, rfl⟩
  have hn256 : n < 256 := by rw [← hn]; exact (s[0]'h1).toNat_lt
  have hbn : byV s 0 = n := by rw [byV_in h1, hn]
  rw [hbn] at HZ
  by_cases h2 : s.size < 2 + 3 * n
  · have HNO : Hid (rdB s = false) := Lib.hid (Bool.eq_false_iff.2 (fun h => by have := (HZ.out h).1; omega))
    have e3 : decide ((s.size : Int) < 2 + 3 * (n : Int)) = true := decide_eq_true (by omega)
    clear HZ h0 hbn
    go_enter Tryd.func26, Tryd.ntmps26
    go_upto_region 3 with (fail)
    generalize (w.alloc (.cells #[.slice none 0 0, .slice none 0 0] 35)).alloc (.cells #[.slice none 0 0, .slice none 0 0] 35) = w1 at *
    have x0 := (HX.out.cell 0).trans (show _ = some (Value.slice none 0 0) from rfl)
    have x1 := (HX.out.cell 1).trans (show _ = some (Value.slice none 0 0) from rfl)
    have xl := HX.out.lt
    have HP0 : Hid (rdP s = ⟨[], []⟩) := rdP_no HNO.out
    have rf0 := HL.out.free 0
    have rf1 := HL.out.free 1
    have rlt := HL.out.lt
    have r0 := (HL.out.cell 0).trans (show _ = some (Value.slice none 0 0) from rfl)
    have r1 := (HL.out.cell 1).trans (show _ = some (Value.slice none 0 0) from rfl)
    have HR2 := Lib.hid ((HL.out.put 0 (.slice none 0 0)).put 1 (.slice none 0 0))
    have q0 := (HR2.out.cell 0).trans (show _ = some (Value.slice none 0 0) from rfl)
    have q1 := (HR2.out.cell 1).trans (show _ = some (Value.slice none 0 0) from rfl)
    have HQ0 := Lib.hid q0
    have HQ1 := Lib.hid q1
    clear q0 q1
    go_wp2
    refine bodyPost_ret (v := .tuple #[.agg #[.slice none 0 0, .slice none 0 0], .bool false]) (by simp [results, Tryd.results26, go_sem, HQ0.out, HQ1.out]) rfl ?_
    rw [HP0.out, HNO.out]
    exact ⟨none, 0, none, 0, rfl, pg_none _, below_res (below_res HB.out (Nat.le_refl _) _ _) (Nat.le_refl _) _ _⟩
  have e3 : decide ((s.size : Int) < 2 + 3 * (n : Int)) = false := decide_eq_false (by omega)
  have hRG : Hid (rgL s = (risRd s 1 false n).1) := by show rgL s = _; unfold rgL; rw [hbn]
  have hTT : Hid (thT s = thsRd s (2 + 3 * n) false (byV s (1 + 3 * n))) := by show thT s = _; unfold thT; rw [hbn]
  clear h0
  go_enter Tryd.func26, Tryd.ntmps26
  go_wp2_with fail
  generalize (w.alloc (.cells #[.slice none 0 0, .slice none 0 0] 35)).alloc (.cells #[.slice none 0 0, .slice none 0 0] 35) = w1 at *
  have HBN := Lib.hid hbn
  clear e1 e3 hn hbn
  go_loopw [6] (fun u wr => ∃ (k : Nat) (vr : Value), k ≤ n ∧ u = .int .i64 k ∧ Hid (wr.ownsRow w.heap.size 67 3 vr k (rowsOf riF (risRd s 1 false k).1)) ∧ Hid (Below w.heap.size w wr) ∧ Hid (Lies wr w.heap.size 35 #[.slice none 0 0, .slice none 0 0]) ∧ Hid (Lies wr (w.heap.size + 1) 35 #[vr, .slice none 0 0])) (fun u _ => n - (intOf u).toNat)
  case atStart => exact ⟨0, .slice none 0 0, by omega, rfl, World.ownsRow_nil _ _ _ _, HB, HL, HX⟩
  case round =>
    clear HB HL HX
    obtain ⟨k, vr, hk, rfl, HO, HB, HL, HX⟩ := hrel
    by_cases hlt : k < n
    · have hki : (k : Int) < (n : Int) := by omega
      have hst := risRd_in (s := s) (n := k) (by omega)
      have HN : Hid (risRd s 1 false (k + 1) = ((risRd s 1 false k).1 ++ [(riRd s (1 + 3 * k) false).1], (riRd s (1 + 3 * k) false).2)) := by
        show ((risRd s 1 false k).1 ++ [(riRd s (risRd s 1 false k).2.1 (risRd s 1 false k).2.2).1], (riRd s (risRd s 1 false k).2.1 (risRd s 1 false k).2.2).2) = _
        rw [hst]
      have hql := risRd_length s 1 false k
      have hi0 : 1 + 3 * k < s.size := by omega
      have hi1 : 2 + 3 * k < s.size := by omega
      have hi2 : 3 + 3 * k < s.size := by omega
      have hat := riRd_at (s := s) (i := 1 + 3 * k) (by omega)
      rw [show 1 + 3 * k + 1 = 2 + 3 * k by omega, show 1 + 3 * k + 2 = 3 + 3 * k by omega, byV_in hi0, byV_in hi1, byV_in hi2] at hat
      obtain ⟨x0, hx0⟩ : ∃ x, (s[1 + 3 * k]'hi0).toNat = x := ⟨_, rfl⟩
      obtain ⟨x1, hx1⟩ : ∃ x, (s[2 + 3 * k]'hi1).toNat = x := ⟨_, rfl⟩
      obtain ⟨x2, hx2⟩ : ∃ x, (s[3 + 3 * k]'hi2).toNat = x := ⟨_, rfl⟩
      have hx0b : x0 < 256 := by rw [← hx0]; exact (s[1 + 3 * k]'hi0).toNat_lt
      have hx1b : x1 < 256 := by rw [← hx1]; exact (s[2 + 3 * k]'hi1).toNat_lt
      have hx2b : x2 < 256 := by rw [← hx2]; exact (s[3 + 3 * k]'hi2).toNat_lt
      rw [hx0, hx1, hx2] at hat
      have HN1 : Hid ((risRd s 1 false (k + 1)).1 = (risRd s 1 false k).1 ++ [⟨x0, x1, x2⟩]) := by
        show _ = _
        rw [HN.out, hat]
      clear hat HN hst
      generalize (risRd s 1 false k).1 = L at *
      subst hql
      go_wp2_with fail
      refine wp_region_rely (fun q => Below w.heap.size w q ∧ Lies q w.heap.size 35 #[.slice none 0 0, .slice none 0 0]) (rgV w s L.length (w.heap.size + 1) vr L x0 x1 x2) [some 41, some 42, some 43, some 44, some 45, some 46, some 47, some 48, some 49, some 50, some 51, some 52, some 53, some 54, some 55, some 56, some 57, some 58, some 59, some 60, some 61, some 62, some 63, some 64, none] [[], [0, 25], [], [], [3], [4], [2, 5], [6], [], [], [9], [10], [8, 11], [12], [], [], [15], [16], [14, 17], [18], [7, 13, 19], [20], [1, 21, 26], [], [23, 22, 25]] [[], [0], [], [], [3], [3, 4], [2, 4, 5], [2, 5, 6], [], [], [9], [9, 10], [8, 10, 11], [8, 11, 12], [], [], [15], [15, 16], [14, 16, 17], [14, 17, 18], [6, 7, 12, 13, 18, 19], [7, 13, 19, 20], [0, 1, 20, 21, 26], [0, 1, 2, 3, 4, 5, 6, 7, 8, 9, 10, 11, 12, 13, 14, 15, 16, 17, 18, 19, 20, 21, 26], [0, 1, 2, 3, 4, 5, 6, 7, 8, 9, 10, 11, 12, 13, 14, 15, 16, 17, 18, 19, 20, 21, 22, 23, 25, 26]] [[2, 3, 4, 5, 6, 7, 8, 9, 10, 11, 12, 13, 14, 15, 16, 17, 18, 19, 20, 21, 22, 25, 26], [2, 3, 4, 5, 6, 7, 8, 9, 10, 11, 12, 13, 14, 15, 16, 17, 18, 19, 20, 21, 25, 26], [0, 1, 3, 4, 5, 7, 8, 9, 10, 11, 12, 13, 14, 15, 16, 17, 18, 19, 20, 21, 22, 25, 26], [0, 1, 2, 5, 6, 7, 8, 9, 10, 11, 12, 13, 14, 15, 16, 17, 18, 19, 20, 21, 22, 25, 26], [0, 1, 2, 6, 7, 8, 9, 10, 11, 12, 13, 14, 15, 16, 17, 18, 19, 20, 21, 22, 25, 26], [0, 1, 2, 7, 8, 9, 10, 11, 12, 13, 14, 15, 16, 17, 18, 19, 20, 21, 22, 25, 26], [0, 1, 8, 9, 10, 11, 12, 13, 14, 15, 16, 17, 18, 19, 20, 21, 22, 25, 26], [0, 1, 3, 8, 9, 10, 11, 12, 13, 14, 15, 16, 17, 18, 19, 21, 22, 25, 26], [0, 1, 2, 3, 4, 5, 6, 7, 9, 10, 11, 13, 14, 15, 16, 17, 18, 19, 20, 21, 22, 25, 26], [0, 1, 2, 3, 4, 5, 6, 7, 8, 11, 12, 13, 14, 15, 16, 17, 18, 19, 20, 21, 22, 25, 26], [0, 1, 2, 3, 4, 5, 6, 7, 8, 12, 13, 14, 15, 16, 17, 18, 19, 20, 21, 22, 25, 26], [0, 1, 2, 3, 4, 5, 6, 7, 8, 13, 14, 15, 16, 17, 18, 19, 20, 21, 22, 25, 26], [0, 1, 2, 3, 4, 5, 6, 7, 14, 15, 16, 17, 18, 19, 20, 21, 22, 25, 26], [0, 1, 2, 3, 4, 5, 6, 7, 9, 14, 15, 16, 17, 18, 19, 21, 22, 25, 26], [0, 1, 2, 3, 4, 5, 6, 7, 8, 9, 10, 11, 12, 13, 15, 16, 17, 19, 20, 21, 22, 25, 26], [0, 1, 2, 3, 4, 5, 6, 7, 8, 9, 10, 11, 12, 13, 14, 17, 18, 19, 20, 21, 22, 25, 26], [0, 1, 2, 3, 4, 5, 6, 7, 8, 9, 10, 11, 12, 13, 14, 18, 19, 20, 21, 22, 25, 26], [0, 1, 2, 3, 4, 5, 6, 7, 8, 9, 10, 11, 12, 13, 14, 19, 20, 21, 22, 25, 26], [0, 1, 2, 3, 4, 5, 6, 7, 8, 9, 10, 11, 12, 13, 20, 21, 22, 25, 26], [0, 1, 2, 3, 4, 5, 6, 7, 8, 9, 10, 11, 12, 13, 15, 21, 22, 25, 26], [0, 1, 3, 4, 9, 10, 15, 16, 22, 25, 26], [0, 1, 2, 3, 4, 5, 8, 9, 10, 11, 14, 15, 16, 17, 25, 26], [2, 3, 4, 5, 6, 8, 9, 10, 11, 12, 14, 15, 16, 17, 18, 25], [22, 25], []] [0, 1, 2, 3, 4, 5, 6, 7, 8, 9, 10, 11, 12, 13, 14, 15, 16, 17, 18, 19, 20, 21, 22, 23, 24] 27 (by kernel_rfl) (by kernel_rfl) (by kernel_rfl) (by kernel_rfl) ?rS ?rI ?rT ?rE
      case rS => exact ⟨below_drewN HB.out 1, HL.out⟩
      case rI =>
        intro a h1 h2
        have h2 : 25 ≤ a := h2
        have : a = 25 ∨ a = 26 := by omega
        rcases this with rfl | rfl
        · exact Lies.drew HX.out
        · exact owns_drew HO.out
      case rT =>
        refine RelySteps.cons (RelyStep.mk [] [2, 3, 4, 5, 6, 7, 8, 9, 10, 11, 12, 13, 14, 15, 16, 17, 18, 19, 20, 21, 22, 25, 26] rfl rfl rfl (fun xv wS hS hV bq hb K hK => ?_)) ?_
        · clear hV
          simp only [putsOf, List.foldl_cons, List.foldl_nil, List.getD_cons_zero, List.getD_cons_succ, List.getD_nil, cond_true, cond_false, Act.put, List.setIfInBounds_toArray, List.set_cons_zero, List.set_cons_succ] at hb
          subst hb
          rw [if_pos (by rfl)]
          go_wp2_with fail
          exact hK.out _ _ ⟨_, rfl, hS, rfl, AllP.same _⟩
        refine RelySteps.cons (RelyStep.mk [0, 25] [2, 3, 4, 5, 6, 7, 8, 9, 10, 11, 12, 13, 14, 15, 16, 17, 18, 19, 20, 21, 25, 26] rfl rfl rfl (fun xv wS hS hV bq hb K hK => ?_)) ?_
        · obtain ⟨h0, h25, _⟩ := hV
          have h0 : xv 0 = _ := h0
          simp only [putsOf, List.foldl_cons, List.foldl_nil, List.getD_cons_zero, List.getD_cons_succ, List.getD_nil, cond_true, cond_false, Act.put, List.setIfInBounds_toArray, List.set_cons_zero, List.set_cons_succ, h0] at hb
          clear h0
          generalize xv 25 = y25 at *
          subst hb
          rw [if_pos (by rfl)]
          (have q1 : Lies wS (w.heap.size + 1) _ _ := h25; have c1 := (q1.cell 0).trans (show _ = some vr from rfl); have c2 := q1.lt; clear q1 h25)
          go_wp2_with fail
          exact hK.out _ _ ⟨_, rfl, hS, rfl, AllP.same _⟩
        refine RelySteps.cons (RelyStep.mk [] [0, 1, 3, 4, 5, 7, 8, 9, 10, 11, 12, 13, 14, 15, 16, 17, 18, 19, 20, 21, 22, 25, 26] rfl rfl rfl (fun xv wS hS hV bq hb K hK => ?_)) ?_
        · clear hV
          simp only [putsOf, List.foldl_cons, List.foldl_nil, List.getD_cons_zero, List.getD_cons_succ, List.getD_nil, cond_true, cond_false, Act.put, List.setIfInBounds_toArray, List.set_cons_zero, List.set_cons_succ] at hb
          subst hb
          rw [if_pos (by rfl)]
          go_wp2_with fail
          exact hK.out _ _ ⟨_, rfl, hS, rfl, AllP.same _⟩
        refine RelySteps.cons (RelyStep.mk [] [0, 1, 2, 5, 6, 7, 8, 9, 10, 11, 12, 13, 14, 15, 16, 17, 18, 19, 20, 21, 22, 25, 26] rfl rfl rfl (fun xv wS hS hV bq hb K hK => ?_)) ?_
        · clear hV
          simp only [putsOf, List.foldl_cons, List.foldl_nil, List.getD_cons_zero, List.getD_cons_succ, List.getD_nil, cond_true, cond_false, Act.put, List.setIfInBounds_toArray, List.set_cons_zero, List.set_cons_succ] at hb
          subst hb
          rw [if_pos (by rfl)]
          go_wp2_with fail
          exact hK.out _ _ ⟨_, rfl, hS, rfl, AllP.same _⟩
        refine RelySteps.cons (RelyStep.mk [3] [0, 1, 2, 6, 7, 8, 9, 10, 11, 12, 13, 14, 15, 16, 17, 18, 19, 20, 21, 22, 25, 26] rfl rfl rfl (fun xv wS hS hV bq hb K hK => ?_)) ?_
        · obtain ⟨h3, _⟩ := hV
          have h3 : xv 3 = _ := h3
          simp only [putsOf, List.foldl_cons, List.foldl_nil, List.getD_cons_zero, List.getD_cons_succ, List.getD_nil, cond_true, cond_false, Act.put, List.setIfInBounds_toArray, List.set_cons_zero, List.set_cons_succ, h3] at hb
          clear h3
          subst hb
          rw [if_pos (by rfl)]
          go_wp2_with fail
          exact hK.out _ _ ⟨_, rfl, hS, rfl, AllP.same _⟩
        refine RelySteps.cons (RelyStep.mk [4] [0, 1, 2, 7, 8, 9, 10, 11, 12, 13, 14, 15, 16, 17, 18, 19, 20, 21, 22, 25, 26] rfl rfl rfl (fun xv wS hS hV bq hb K hK => ?_)) ?_
        · obtain ⟨h4, _⟩ := hV
          have h4 : xv 4 = _ := h4
          simp only [putsOf, List.foldl_cons, List.foldl_nil, List.getD_cons_zero, List.getD_cons_succ, List.getD_nil, cond_true, cond_false, Act.put, List.setIfInBounds_toArray, List.set_cons_zero, List.set_cons_succ, h4] at hb
          clear h4
          subst hb
          rw [if_pos (by rfl)]
          go_wp2_with fail
          exact hK.out _ _ ⟨_, rfl, hS, rfl, AllP.same _⟩
        refine RelySteps.cons (RelyStep.mk [2, 5] [0, 1, 8, 9, 10, 11, 12, 13, 14, 15, 16, 17, 18, 19, 20, 21, 22, 25, 26] rfl rfl rfl (fun xv wS hS hV bq hb K hK => ?_)) ?_
        · obtain ⟨h2, h5, _⟩ := hV
          have h2 : xv 2 = _ := h2
          have h5 : xv 5 = _ := h5
          simp only [putsOf, List.foldl_cons, List.foldl_nil, List.getD_cons_zero, List.getD_cons_succ, List.getD_nil, cond_true, cond_false, Act.put, List.setIfInBounds_toArray, List.set_cons_zero, List.set_cons_succ, h2, h5] at hb
          clear h2
          clear h5
          subst hb
          rw [if_pos (by rfl)]
          go_wp2_with fail
          exact hK.out _ _ ⟨_, rfl, hS, rfl, AllP.same _⟩
        refine RelySteps.cons (RelyStep.mk [6] [0, 1, 3, 8, 9, 10, 11, 12, 13, 14, 15, 16, 17, 18, 19, 21, 22, 25, 26] rfl rfl rfl (fun xv wS hS hV bq hb K hK => ?_)) ?_
        · obtain ⟨h6, _⟩ := hV
          have h6 : xv 6 = _ := h6
          simp only [putsOf, List.foldl_cons, List.foldl_nil, List.getD_cons_zero, List.getD_cons_succ, List.getD_nil, cond_true, cond_false, Act.put, List.setIfInBounds_toArray, List.set_cons_zero, List.set_cons_succ, h6] at hb
          clear h6
          subst hb
          rw [if_pos (by rfl)]
          go_wp2_with fail
          exact hK.out _ _ ⟨_, rfl, hS, rfl, AllP.same _⟩
        refine RelySteps.cons (RelyStep.mk [] [0, 1, 2, 3, 4, 5, 6, 7, 9, 10, 11, 13, 14, 15, 16, 17, 18, 19, 20, 21, 22, 25, 26] rfl rfl rfl (fun xv wS hS hV bq hb K hK => ?_)) ?_
        · clear hV
          simp only [putsOf, List.foldl_cons, List.foldl_nil, List.getD_cons_zero, List.getD_cons_succ, List.getD_nil, cond_true, cond_false, Act.put, List.setIfInBounds_toArray, List.set_cons_zero, List.set_cons_succ] at hb
          subst hb
          rw [if_pos (by rfl)]
          go_wp2_with fail
          exact hK.out _ _ ⟨_, rfl, hS, rfl, AllP.same _⟩
        refine RelySteps.cons (RelyStep.mk [] [0, 1, 2, 3, 4, 5, 6, 7, 8, 11, 12, 13, 14, 15, 16, 17, 18, 19, 20, 21, 22, 25, 26] rfl rfl rfl (fun xv wS hS hV bq hb K hK => ?_)) ?_
        · clear hV
          simp only [putsOf, List.foldl_cons, List.foldl_nil, List.getD_cons_zero, List.getD_cons_succ, List.getD_nil, cond_true, cond_false, Act.put, List.setIfInBounds_toArray, List.set_cons_zero, List.set_cons_succ] at hb
          subst hb
          rw [if_pos (by rfl)]
          go_wp2_with fail
          exact hK.out _ _ ⟨_, rfl, hS, rfl, AllP.same _⟩
        refine RelySteps.cons (RelyStep.mk [9] [0, 1, 2, 3, 4, 5, 6, 7, 8, 12, 13, 14, 15, 16, 17, 18, 19, 20, 21, 22, 25, 26] rfl rfl rfl (fun xv wS hS hV bq hb K hK => ?_)) ?_
        · obtain ⟨h9, _⟩ := hV
          have h9 : xv 9 = _ := h9
          simp only [putsOf, List.foldl_cons, List.foldl_nil, List.getD_cons_zero, List.getD_cons_succ, List.getD_nil, cond_true, cond_false, Act.put, List.setIfInBounds_toArray, List.set_cons_zero, List.set_cons_succ, h9] at hb
          clear h9
          subst hb
          rw [if_pos (by rfl)]
          go_wp2_with fail
          exact hK.out _ _ ⟨_, rfl, hS, rfl, AllP.same _⟩
        refine RelySteps.cons (RelyStep.mk [10] [0, 1, 2, 3, 4, 5, 6, 7, 8, 13, 14, 15, 16, 17, 18, 19, 20, 21, 22, 25, 26] rfl rfl rfl (fun xv wS hS hV bq hb K hK => ?_)) ?_
        · obtain ⟨h10, _⟩ := hV
          have h10 : xv 10 = _ := h10
          simp only [putsOf, List.foldl_cons, List.foldl_nil, List.getD_cons_zero, List.getD_cons_succ, List.getD_nil, cond_true, cond_false, Act.put, List.setIfInBounds_toArray, List.set_cons_zero, List.set_cons_succ, h10] at hb
          clear h10
          subst hb
          rw [if_pos (by rfl)]
          go_wp2_with fail
          exact hK.out _ _ ⟨_, rfl, hS, rfl, AllP.same _⟩
        refine RelySteps.cons (RelyStep.mk [8, 11] [0, 1, 2, 3, 4, 5, 6, 7, 14, 15, 16, 17, 18, 19, 20, 21, 22, 25, 26] rfl rfl rfl (fun xv wS hS hV bq hb K hK => ?_)) ?_
        · obtain ⟨h8, h11, _⟩ := hV
          have h8 : xv 8 = _ := h8
          have h11 : xv 11 = _ := h11
          simp only [putsOf, List.foldl_cons, List.foldl_nil, List.getD_cons_zero, List.getD_cons_succ, List.getD_nil, cond_true, cond_false, Act.put, List.setIfInBounds_toArray, List.set_cons_zero, List.set_cons_succ, h8, h11] at hb
          clear h8
          clear h11
          subst hb
          rw [if_pos (by rfl)]
          go_wp2_with fail
          exact hK.out _ _ ⟨_, rfl, hS, rfl, AllP.same _⟩
        refine RelySteps.cons (RelyStep.mk [12] [0, 1, 2, 3, 4, 5, 6, 7, 9, 14, 15, 16, 17, 18, 19, 21, 22, 25, 26] rfl rfl rfl (fun xv wS hS hV bq hb K hK => ?_)) ?_
        · obtain ⟨h12, _⟩ := hV
          have h12 : xv 12 = _ := h12
          simp only [putsOf, List.foldl_cons, List.foldl_nil, List.getD_cons_zero, List.getD_cons_succ, List.getD_nil, cond_true, cond_false, Act.put, List.setIfInBounds_toArray, List.set_cons_zero, List.set_cons_succ, h12] at hb
          clear h12
          subst hb
          rw [if_pos (by rfl)]
          go_wp2_with fail
          exact hK.out _ _ ⟨_, rfl, hS, rfl, AllP.same _⟩
        refine RelySteps.cons (RelyStep.mk [] [0, 1, 2, 3, 4, 5, 6, 7, 8, 9, 10, 11, 12, 13, 15, 16, 17, 19, 20, 21, 22, 25, 26] rfl rfl rfl (fun xv wS hS hV bq hb K hK => ?_)) ?_
        · clear hV
          simp only [putsOf, List.foldl_cons, List.foldl_nil, List.getD_cons_zero, List.getD_cons_succ, List.getD_nil, cond_true, cond_false, Act.put, List.setIfInBounds_toArray, List.set_cons_zero, List.set_cons_succ] at hb
          subst hb
          rw [if_pos (by rfl)]
          go_wp2_with fail
          exact hK.out _ _ ⟨_, rfl, hS, rfl, AllP.same _⟩
        refine RelySteps.cons (RelyStep.mk [] [0, 1, 2, 3, 4, 5, 6, 7, 8, 9, 10, 11, 12, 13, 14, 17, 18, 19, 20, 21, 22, 25, 26] rfl rfl rfl (fun xv wS hS hV bq hb K hK => ?_)) ?_
        · clear hV
          simp only [putsOf, List.foldl_cons, List.foldl_nil, List.getD_cons_zero, List.getD_cons_succ, List.getD_nil, cond_true, cond_false, Act.put, List.setIfInBounds_toArray, List.set_cons_zero, List.set_cons_succ] at hb
          subst hb
          rw [if_pos (by rfl)]
          go_wp2_with fail
          exact hK.out _ _ ⟨_, rfl, hS, rfl, AllP.same _⟩
        refine RelySteps.cons (RelyStep.mk [15] [0, 1, 2, 3, 4, 5, 6, 7, 8, 9, 10, 11, 12, 13, 14, 18, 19, 20, 21, 22, 25, 26] rfl rfl rfl (fun xv wS hS hV bq hb K hK => ?_)) ?_
        · obtain ⟨h15, _⟩ := hV
          have h15 : xv 15 = _ := h15
          simp only [putsOf, List.foldl_cons, List.foldl_nil, List.getD_cons_zero, List.getD_cons_succ, List.getD_nil, cond_true, cond_false, Act.put, List.setIfInBounds_toArray, List.set_cons_zero, List.set_cons_succ, h15] at hb
          clear h15
          subst hb
          rw [if_pos (by rfl)]
          go_wp2_with fail
          exact hK.out _ _ ⟨_, rfl, hS, rfl, AllP.same _⟩
        refine RelySteps.cons (RelyStep.mk [16] [0, 1, 2, 3, 4, 5, 6, 7, 8, 9, 10, 11, 12, 13, 14, 19, 20, 21, 22, 25, 26] rfl rfl rfl (fun xv wS hS hV bq hb K hK => ?_)) ?_
        · obtain ⟨h16, _⟩ := hV
          have h16 : xv 16 = _ := h16
          simp only [putsOf, List.foldl_cons, List.foldl_nil, List.getD_cons_zero, List.getD_cons_succ, List.getD_nil, cond_true, cond_false, Act.put, List.setIfInBounds_toArray, List.set_cons_zero, List.set_cons_succ, h16] at hb
          clear h16
          subst hb
          rw [if_pos (by rfl)]
          go_wp2_with fail
          exact hK.out _ _ ⟨_, rfl, hS, rfl, AllP.same _⟩
        refine RelySteps.cons (RelyStep.mk [14, 17] [0, 1, 2, 3, 4, 5, 6, 7, 8, 9, 10, 11, 12, 13, 20, 21, 22, 25, 26] rfl rfl rfl (fun xv wS hS hV bq hb K hK => ?_)) ?_
        · obtain ⟨h14, h17, _⟩ := hV
          have h14 : xv 14 = _ := h14
          have h17 : xv 17 = _ := h17
          simp only [putsOf, List.foldl_cons, List.foldl_nil, List.getD_cons_zero, List.getD_cons_succ, List.getD_nil, cond_true, cond_false, Act.put, List.setIfInBounds_toArray, List.set_cons_zero, List.set_cons_succ, h14, h17] at hb
          clear h14
          clear h17
          subst hb
          rw [if_pos (by rfl)]
          go_wp2_with fail
          exact hK.out _ _ ⟨_, rfl, hS, rfl, AllP.same _⟩
        refine RelySteps.cons (RelyStep.mk [18] [0, 1, 2, 3, 4, 5, 6, 7, 8, 9, 10, 11, 12, 13, 15, 21, 22, 25, 26] rfl rfl rfl (fun xv wS hS hV bq hb K hK => ?_)) ?_
        · obtain ⟨h18, _⟩ := hV
          have h18 : xv 18 = _ := h18
          simp only [putsOf, List.foldl_cons, List.foldl_nil, List.getD_cons_zero, List.getD_cons_succ, List.getD_nil, cond_true, cond_false, Act.put, List.setIfInBounds_toArray, List.set_cons_zero, List.set_cons_succ, h18] at hb
          clear h18
          subst hb
          rw [if_pos (by rfl)]
          go_wp2_with fail
          exact hK.out _ _ ⟨_, rfl, hS, rfl, AllP.same _⟩
        refine RelySteps.cons (RelyStep.mk [7, 13, 19] [0, 1, 3, 4, 9, 10, 15, 16, 22, 25, 26] rfl rfl rfl (fun xv wS hS hV bq hb K hK => ?_)) ?_
        · obtain ⟨h7, h13, h19, _⟩ := hV
          have h7 : xv 7 = _ := h7
          have h13 : xv 13 = _ := h13
          have h19 : xv 19 = _ := h19
          simp only [putsOf, List.foldl_cons, List.foldl_nil, List.getD_cons_zero, List.getD_cons_succ, List.getD_nil, cond_true, cond_false, Act.put, List.setIfInBounds_toArray, List.set_cons_zero, List.set_cons_succ, h7, h13, h19] at hb
          clear h7
          clear h13
          clear h19
          subst hb
          rw [if_pos (by rfl)]
          go_wp2_with fail
          exact hK.out _ _ ⟨_, rfl, hS, rfl, AllP.same _⟩
        refine RelySteps.cons (RelyStep.mk [20] [0, 1, 2, 3, 4, 5, 8, 9, 10, 11, 14, 15, 16, 17, 25, 26] rfl rfl rfl (fun xv wS hS hV bq hb K hK => ?_)) ?_
        · obtain ⟨h20, _⟩ := hV
          have h20 : xv 20 = _ := h20
          simp only [putsOf, List.foldl_cons, List.foldl_nil, List.getD_cons_zero, List.getD_cons_succ, List.getD_nil, cond_true, cond_false, Act.put, List.setIfInBounds_toArray, List.set_cons_zero, List.set_cons_succ, h20] at hb
          clear h20
          subst hb
          rw [if_pos (by rfl)]
          have HSS := Lib.hid hS
          clear hS
          go_wp2_with fail
          exact hK.out _ _ ⟨_, rfl, ⟨HSS.out.1.alloc HSS.out.1.size _, HSS.out.2.alloc _⟩, ⟨wS.heap.size, rfl, Lies.made _ _ _⟩, AllP.of _ (fun a _ u h => rgV_alloc _ h)⟩
        refine RelySteps.cons (RelyStep.mk [1, 21, 26] [2, 3, 4, 5, 6, 8, 9, 10, 11, 12, 14, 15, 16, 17, 18, 25] rfl rfl rfl (fun xv wS hS hV bq hb K hK => ?_)) ?_
        · obtain ⟨h1, h21, h26, _⟩ := hV
          have h1 : xv 1 = _ := h1
          simp only [putsOf, List.foldl_cons, List.foldl_nil, List.getD_cons_zero, List.getD_cons_succ, List.getD_nil, cond_true, cond_false, Act.put, List.setIfInBounds_toArray, List.set_cons_zero, List.set_cons_succ, h1] at hb
          clear h1
          generalize xv 21 = y21 at *
          generalize xv 26 = y26 at *
          subst hb
          rw [if_pos (by rfl)]
          have HSS := Lib.hid hS
          obtain ⟨b9, rfl, hl9⟩ := h21
          clear hS
          have h14 : wS.ownsRow w.heap.size 67 3 vr L.length (rowsOf riF L) := h26
          refine step_list (ops := #[]) (by rfl) (append_argS wS 3 rfl (.tmp 42) (.tmp 62) 32 rfl w.heap.size 67 _ 24 Tryd.underlying32 Tryd.infoRi rfl (by decide) vr L.length _ rfl h14 (some ⟨b9, 0, none⟩) 1 1 rfl (riF ⟨x0, x1, x2⟩) ⟨rfl, _, _, rfl, Nat.le_refl _, by unfold maxLen; omega, (fun h => by cases h), fun a u hu => ⟨b9, 0, rfl, by rw [Nat.zero_add, hl9.cell, ← hu]; simp [riF]⟩⟩ (by intro u hu; simp [riF] at hu; rcases hu with rfl | rfl | rfl <;> rfl) (by unfold maxLen; omega) (by omega) (HSS.out.1.size) ?_)
          intro v' w' ho hb hgr
          have hk5 := Kept.of_grown hgr
          exact hK.out _ _ ⟨_, rfl, ⟨HSS.out.1.trans hb, HSS.out.2.kept hk5 (fun e => own_ne h14 HSS.out.2 (by decide) e)⟩, (by
            show World.ownsRow _ _ _ _ _ _ _
            unfold rowsOf
            rw [List.flatMap_append]
            simpa [rowsOf] using ho), AllP.of _ (fun a ha u h => rgV_kept hk5 (fun cs hl e => own_ne h14 hl (by decide) e) (all_in (fun j => rgLow j || j == 25) rfl ha) h)⟩
        refine RelySteps.cons (RelyStep.mk [] [22, 25] rfl rfl rfl (fun xv wS hS hV bq hb K hK => ?_)) ?_
        · clear hV
          simp only [putsOf, List.foldl_cons, List.foldl_nil, List.getD_cons_zero, List.getD_cons_succ, List.getD_nil, cond_true, cond_false, Act.put, List.setIfInBounds_toArray, List.set_cons_zero, List.set_cons_succ] at hb
          subst hb
          rw [if_pos (by rfl)]
          go_wp2_with fail
          exact hK.out _ _ ⟨_, rfl, hS, rfl, AllP.same _⟩
        refine RelySteps.cons (RelyStep.mk [23, 22, 25] [] rfl rfl rfl (fun xv wS hS hV bq hb K hK => ?_)) ?_
        · obtain ⟨h23, h22, h25, _⟩ := hV
          have h23 : xv 23 = _ := h23
          simp only [putsOf, List.foldl_cons, List.foldl_nil, List.getD_cons_zero, List.getD_cons_succ, List.getD_nil, cond_true, cond_false, Act.put, List.setIfInBounds_toArray, List.set_cons_zero, List.set_cons_succ, h23] at hb
          clear h23
          generalize xv 22 = y22 at *
          generalize xv 25 = y25 at *
          subst hb
          rw [if_pos (by rfl)]
          have HSS := Lib.hid hS
          have hl13 : Lies wS (w.heap.size + 1) 35 #[vr, .slice none 0 0] := h25
          have ho : wS.ownsRow w.heap.size 67 3 y22 (L.length + 1) (rowsOf riF (L ++ [⟨x0, x1, x2⟩])) := h22
          clear h22
          obtain ⟨A10, c10, rfl⟩ := own_slice ho
          have HO10 := Lib.hid ho
          have HL13 := Lib.hid hl13
          have q1 := (hl13.cell 0).trans (show _ = some vr from rfl)
          have f1 := hl13.free 0
          have qt := hl13.lt
          clear hS ho hl13 h25
          go_wp2_with fail
          exact hK.out _ _ ⟨undef, rfl, ⟨below_res HSS.out.1 (by omega) _ _, HSS.out.2.far (p := ⟨w.heap.size + 1, 0, none⟩) (fun e => by simp at e) _⟩,
            ⟨_, HL13.out.put 0 _, owns_put HO10.out HL13.out (by decide) 0 _⟩, AllP.of _ (fun a ha u h => rgV_low (all_in rgLow rfl ha) h)⟩
        exact RelySteps.nil
      case rE =>
        intro xv wE hS hV
        have h24 := hV 24 (by decide) (by decide)
        clear hV
        simp only [putsOf, List.foldl_cons, List.foldl_nil, List.getD_cons_zero, List.getD_cons_succ, List.getD_nil, cond_true, cond_false, Act.put, List.setIfInBounds_toArray, List.set_cons_zero, List.set_cons_succ]
        generalize xv 0 = y0 at *
        generalize xv 1 = y1 at *
        generalize xv 2 = y2 at *
        generalize xv 3 = y3 at *
        generalize xv 4 = y4 at *
        generalize xv 5 = y5 at *
        generalize xv 6 = y6 at *
        generalize xv 7 = y7 at *
        generalize xv 8 = y8 at *
        generalize xv 9 = y9 at *
        generalize xv 10 = y10 at *
        generalize xv 11 = y11 at *
        generalize xv 12 = y12 at *
        generalize xv 13 = y13 at *
        generalize xv 14 = y14 at *
        generalize xv 15 = y15 at *
        generalize xv 16 = y16 at *
        generalize xv 17 = y17 at *
        generalize xv 18 = y18 at *
        generalize xv 19 = y19 at *
        generalize xv 20 = y20 at *
        generalize xv 21 = y21 at *
        generalize xv 22 = y22 at *
        generalize xv 23 = y23 at *
        generalize xv 24 = y24 at *
        obtain ⟨v, hn', hv'⟩ := h24
        have HV : Hid (wE.ownsRow w.heap.size 67 3 v (L.length + 1) (rowsOf riF (risRd s 1 false (L.length + 1)).1)) := by rw [HN1.out]; exact hv'
        have HN2 := Lib.hid hn'
        have HK2 := Lib.hid hS.1
        have HR2 := Lib.hid hS.2
        clear hS hn' hv' hx0 hx1 hx2
        go_wp2
        go_roundw
        case rel => exact ⟨L.length + 1, v, by omega, by go_num, HV, HK2, HR2, HN2⟩
        case measure => simp [intOf]; omega
    · obtain rfl : n = k := by omega
      have hql := risRd_length s 1 false n
      rw [← hRG.out] at HO hql
      have him : 1 + 3 * n < s.size := by omega
      obtain ⟨m, hm⟩ : ∃ m, (s[1 + 3 * n]'him).toNat = m := ⟨_, rfl⟩
      have hm256 : m < 256 := by rw [← hm]; exact (s[1 + 3 * n]'him).toNat_lt
      have HTT : Hid (thT s = thsRd s (2 + 3 * n) false m) := by
        show _ = _
        rw [hTT.out, byV_in him, hm]
      clear hTT hlt
      have hrlt := fun r (hr : vr.ownBlock = some r) => (own_lt HO.out hr).2
      replace HO : Hid (wr.ownsRow w.heap.size 67 3 vr (rgL s).length (rowsOf riF (rgL s))) := by rw [hql]; exact HO.out
      have HRL := Lib.hid hql
      have HSP : Hid (SpS w wr wr w.heap.size w.heap.size vr (rgL s) (thT s).1 []) := ⟨⟨HB.out.os, HB.out.tape, HB.out.output, HB.out.size, fun k hk _ => HB.out.block k hk⟩, Nat.le_refl _, HO.out, hrlt, (fun a v hv => by cases hv), HL.out⟩
      clear HO HB HL hrlt hql
      go_wp2_with fail
      go_loopw [7, 8] (fun u7 u8 wr => ∃ (k at_ : Nat) (vt : Value) (vs : List Value), k ≤ m ∧ u7 = .int .i64 at_ ∧ u8 = .int .i64 k ∧ at_ ≤ s.size ∧ Hid ((thsRd s (2 + 3 * n) false k).2 = (at_, false)) ∧ Hid (SpS w wr wr w.heap.size w.heap.size vr (rgL s) (thT s).1 vs) ∧ Hid (wr.ownsRow w.heap.size 51 1 vt k vs) ∧ Hid (Lies wr (w.heap.size + 1) 35 #[vr, vt])) (fun _ u8 _ => m - (intOf u8).toNat)
      case atStart => exact ⟨0, 2 + 3 * n, .slice none 0 0, [], by omega, by go_num, rfl, by omega, rfl, HSP, World.ownsRow_nil _ _ _ _, HX⟩
      case round =>
        clear HSP HX
        obtain ⟨k, at_, vt, vs, hk, rfl, rfl, hat, HTK, HSP, HV, HX⟩ := hrel
        by_cases hlt : k < m
        · have hki : (k : Int) < (m : Int) := by omega
          have hrb := rd_bound (restOf s at_)
          have hnx := nuI_le hat
          have hnv : nuV s at_ = (rd (restOf s at_)).1 := rfl
          have hni : nuI s at_ = at_ + (rd (restOf s at_)).2.2 := rfl
          have hnf : nuF s at_ false = (false || ((rd (restOf s at_)).2.1 != 0)) := rfl
          have HRR := Lib.hid (fun w => refRead s at_ w (by omega) hat)
          rw [← hnv] at hrb HRR
          rw [← hni] at HRR
          generalize (rd (restOf s at_)).2.1 = er at *
          clear hnv hni
          obtain ⟨many, hmany⟩ : ∃ x, nuV s at_ = x := ⟨_, rfl⟩
          obtain ⟨nx, hnxe⟩ : ∃ x, nuI s at_ = x := ⟨_, rfl⟩
          rw [hmany] at HRR hrb
          rw [hnxe] at HRR hnx
          have HMV := Lib.hid hmany
          have HNX := Lib.hid hnxe
          have HNF := Lib.hid hnf
          clear hmany hnxe hnf
          go_wp2_with fail
          refine (HRR.out _).mono ?_
          rintro e w5 ⟨rfl, rfl⟩
          clear HRR
          by_cases her : er = 0
          · subst her
            by_cases hbig : 256 < many
            · have e1 : decide ((256 : Int) < (many : Int)) = true := decide_eq_true (by omega)
              have e2 : decide (256 < many) = true := decide_eq_true hbig
              have HNO : Hid (rdB s = false) := Lib.hid (Bool.eq_false_iff.2 (fun h => by
                have hq := (HZ.out h).2.1
                rw [HTT.out] at hq
                have hb := thsRd_stays (s := s) (i := 2 + 3 * n) (f := false) (c := k + 1) (n := m) (by omega) (by
                  show (thRd s (thsRd s (2 + 3 * n) false k).2.1 (thsRd s (2 + 3 * n) false k).2.2).2.2 = true
                  rw [HTK.out]
                  (exact thRd_bad (.inr (by rw [HMV.out]; exact hbig))))
                rw [hb] at hq
                cases hq))
              have HLL := Lib.hid HSP.out.res
              have HBB := Lib.hid (HSP.out.kep.below (B := w.heap.size) (Nat.le_refl _) (fun k hk hs => by rcases hs with e | e <;> omega))
              clear hm HSP HV HX
              have HP0 : Hid (rdP s = ⟨[], []⟩) := rdP_no HNO.out
              have rf0 := HLL.out.free 0
              have rf1 := HLL.out.free 1
              have rlt := HLL.out.lt
              have r0 := (HLL.out.cell 0).trans (show _ = some (Value.slice none 0 0) from rfl)
              have r1 := (HLL.out.cell 1).trans (show _ = some (Value.slice none 0 0) from rfl)
              have HR2 := Lib.hid ((HLL.out.put 0 (.slice none 0 0)).put 1 (.slice none 0 0))
              have q0 := (HR2.out.cell 0).trans (show _ = some (Value.slice none 0 0) from rfl)
              have q1 := (HR2.out.cell 1).trans (show _ = some (Value.slice none 0 0) from rfl)
              have HQ0 := Lib.hid q0
              have HQ1 := Lib.hid q1
              clear q0 q1
              go_wp2
              refine bodyPost_ret (v := .tuple #[.agg #[.slice none 0 0, .slice none 0 0], .bool false]) (by simp [results, Tryd.results26, go_sem, HQ0.out, HQ1.out]) rfl ?_
              rw [HP0.out, HNO.out]
              exact ⟨none, 0, none, 0, rfl, pg_none _, below_res (below_res HBB.out (Nat.le_refl _) _ _) (Nat.le_refl _) _ _⟩
            · have e1 : decide ((256 : Int) < (many : Int)) = false := decide_eq_false (by omega)
              have e2 : decide (256 < many) = false := decide_eq_false hbig
              have hmw : IntKind.i64.wrap (many : Int) = (many : Int) := IntWalk.i64_in _ (by omega)
              have HTG : Hid (thRd s at_ false = insRd s nx false many) := by
                show _ = _
                rw [thRd_good (HNF.out.trans (by rfl)) (by rw [HMV.out]; omega), HMV.out, HNX.out]
              have HTS : Hid ((thT s).1[k]? = some (insRd s nx false many).1) := by
                show _ = _
                rw [HTT.out, thsRd_get s (2 + 3 * n) false hlt, HTK.out]
                show some (thRd s at_ false).1 = _
                rw [HTG.out]
              have HTK1 : Hid ((thsRd s (2 + 3 * n) false (k + 1)).2 = (insRd s nx false many).2) := by
                show (thRd s (thsRd s (2 + 3 * n) false k).2.1 (thsRd s (2 + 3 * n) false k).2.2).2 = _
                rw [HTK.out]
                show (thRd s at_ false).2 = _
                rw [HTG.out]
              have HVL : Hid (vs.length = k) := by have := HV.out.1; show _ = _; omega
              have hS0 : w.heap.size + 2 ≤ wr.heap.size := HX.out.lt
              obtain ⟨wt, rfl⟩ : ∃ x, x = wr := ⟨_, rfl⟩
              go_wp2_with fail
              go_loopw [7, 12, 13] (fun u7 u12 u13 wq => ∃ (j at2 : Nat), j ≤ many ∧ u7 = .int .i64 at2 ∧ u13 = .int .i64 j ∧ at2 ≤ s.size ∧ Hid ((insRd s nx false j).2 = (at2, false)) ∧ Hid (wq.ownsRow wt.heap.size 24 6 u12 j (rowsOf inF (insRd s nx false j).1)) ∧ Hid (SpS w wt wq w.heap.size w.heap.size vr (rgL s) (thT s).1 vs) ∧ Hid (wq.ownsRow w.heap.size 51 1 vt k vs) ∧ Hid (Lies wq (w.heap.size + 1) 35 #[vr, vt])) (fun _ _ u13 _ => many - (intOf u13).toNat)
              case atStart => exact ⟨0, nx, by omega, rfl, rfl, hnx, rfl, World.ownsRow_nil _ _ _ _, HSP, HV, HX⟩
              case round =>
                clear HSP HV HX
                obtain ⟨j, at2, hj, rfl, rfl, hat2, HIK, HO, HSP, HV, HX⟩ := hrel
                by_cases hlt2 : j < many
                · have hki2 : (j : Int) < (many : Int) := by omega
                  by_cases hsh : s.size < at2 + 5
                  · have e3 : decide ((s.size : Int) < (at2 : Int) + 5) = true := decide_eq_true (by omega)
                    have HNO : Hid (rdB s = false) := Lib.hid (Bool.eq_false_iff.2 (fun h => by
                      have hq := (HZ.out h).2.1
                      rw [HTT.out] at hq
                      have hb := thsRd_stays (s := s) (i := 2 + 3 * n) (f := false) (c := k + 1) (n := m) (by omega) (by
                        show (thRd s (thsRd s (2 + 3 * n) false k).2.1 (thsRd s (2 + 3 * n) false k).2.2).2.2 = true
                        rw [HTK.out]
                        show (thRd s at_ false).2.2 = true
                        rw [HTG.out]
                        refine insRd_stays (c := j + 1) (by omega) ?_
                        show (inRd s (insRd s nx false j).2.1 (insRd s nx false j).2.2).2.2 = true
                        rw [HIK.out]
                        (exact inRd_short hsh))
                      rw [hb] at hq
                      cases hq))
                    have HLL := Lib.hid HSP.out.res
                    have HBB := Lib.hid (HSP.out.kep.below (B := w.heap.size) (Nat.le_refl _) (fun k hk hs => by rcases hs with e | e <;> omega))
                    clear hm HSP HV HX HO
                    have HP0 : Hid (rdP s = ⟨[], []⟩) := rdP_no HNO.out
                    have rf0 := HLL.out.free 0
                    have rf1 := HLL.out.free 1
                    have rlt := HLL.out.lt
                    have r0 := (HLL.out.cell 0).trans (show _ = some (Value.slice none 0 0) from rfl)
                    have r1 := (HLL.out.cell 1).trans (show _ = some (Value.slice none 0 0) from rfl)
                    have HR2 := Lib.hid ((HLL.out.put 0 (.slice none 0 0)).put 1 (.slice none 0 0))
                    have q0 := (HR2.out.cell 0).trans (show _ = some (Value.slice none 0 0) from rfl)
                    have q1 := (HR2.out.cell 1).trans (show _ = some (Value.slice none 0 0) from rfl)
                    have HQ0 := Lib.hid q0
                    have HQ1 := Lib.hid q1
                    clear q0 q1
                    go_wp2
                    refine bodyPost_ret (v := .tuple #[.agg #[.slice none 0 0, .slice none 0 0], .bool false]) (by simp [results, Tryd.results26, go_sem, HQ0.out, HQ1.out]) rfl ?_
                    rw [HP0.out, HNO.out]
                    exact ⟨none, 0, none, 0, rfl, pg_none _, below_res (below_res HBB.out (Nat.le_refl _) _ _) (Nat.le_refl _) _ _⟩
                  · have e3 : decide ((s.size : Int) < (at2 : Int) + 5) = false := decide_eq_false (by omega)
                    have hi0 : at2 < s.size := by omega
                    have hi1 : at2 + 1 < s.size := by omega
                    have hi2 : at2 + 2 < s.size := by omega
                    have hi3 : at2 + 3 < s.size := by omega
                    have hi4 : at2 + 4 < s.size := by omega
                    have hinr := inRd_at (s := s) (i := at2) (by omega)
                    rw [byV_in hi0, byV_in hi1, byV_in hi2, byV_in hi3, byV_in hi4] at hinr
                    obtain ⟨x0, hx0⟩ : ∃ x, (s[at2]'hi0).toNat = x := ⟨_, rfl⟩
                    obtain ⟨x1, hx1⟩ : ∃ x, (s[at2 + 1]'hi1).toNat = x := ⟨_, rfl⟩
                    obtain ⟨x2, hx2⟩ : ∃ x, (s[at2 + 2]'hi2).toNat = x := ⟨_, rfl⟩
                    obtain ⟨x3, hx3⟩ : ∃ x, (s[at2 + 3]'hi3).toNat = x := ⟨_, rfl⟩
                    obtain ⟨x4, hx4⟩ : ∃ x, (s[at2 + 4]'hi4).toNat = x := ⟨_, rfl⟩
                    have hx0b : x0 < 256 := by rw [← hx0]; exact (s[at2]'hi0).toNat_lt
                    have hx1b : x1 < 256 := by rw [← hx1]; exact (s[at2 + 1]'hi1).toNat_lt
                    have hx2b : x2 < 256 := by rw [← hx2]; exact (s[at2 + 2]'hi2).toNat_lt
                    have hx3b : x3 < 256 := by rw [← hx3]; exact (s[at2 + 3]'hi3).toNat_lt
                    have hx4b : x4 < 256 := by rw [← hx4]; exact (s[at2 + 4]'hi4).toNat_lt
                    rw [hx0, hx1, hx2, hx3, hx4] at hinr
                    have hin : insRd s nx false (j + 1) = ((insRd s nx false j).1 ++ [(inRd s at2 false).1], (inRd s at2 false).2) := by
                      show ((insRd s nx false j).1 ++ [(inRd s (insRd s nx false j).2.1 (insRd s nx false j).2.2).1], (inRd s (insRd s nx false j).2.1 (insRd s nx false j).2.2).2) = _
                      rw [HIK.out]
                    rw [hinr] at hin
                    have hkb := rd_bound (restOf s (at2 + 5))
                    have hnx2 := nuI_le (s := s) (i := at2 + 5) (by omega)
                    have hnf2 : nuF s (at2 + 5) false = (false || ((rd (restOf s (at2 + 5))).2.1 != 0)) := rfl
                    have HRR := Lib.hid (fun w => refRead s (at2 + 5) w (by omega) (by omega))
                    rw [← show nuV s (at2 + 5) = (rd (restOf s (at2 + 5))).1 from rfl] at hkb HRR
                    rw [← show nuI s (at2 + 5) = at2 + 5 + (rd (restOf s (at2 + 5))).2.2 from rfl] at HRR
                    generalize (rd (restOf s (at2 + 5))).2.1 = er2 at *
                    have HNF2 := Lib.hid hnf2
                    clear hnf2
                    have hbad : (inRd s at2 false).2.2 = (false || (er2 != 0)) := by rw [hinr]; exact HNF2.out
                    have HBAD := Lib.hid hbad
                    have HIN := Lib.hid hin
                    clear hbad hin hinr
                    generalize nuV s (at2 + 5) = kv at *
                    generalize nuI s (at2 + 5) = nx2 at *
                    obtain ⟨p5, hp5⟩ : ∃ p, at2 + 5 = p := ⟨_, rfl⟩
                    rw [hp5] at HRR
                    have HP5 := Lib.hid hp5
                    clear hp5
                    have hgl := HSP.out.le
                    go_wp2_with fail
                    refine wp_region_rely (fun q => Below wr.heap.size wr q) (isV s at2 wr.heap.size x0 x1 x2 x3 x4) [some 105, some 106, some 107, some 108, some 109, some 110, some 111, some 112, some 113, some 114, some 115, some 116, some 117, some 118, some 119, some 120, some 121, some 122, some 123, some 124, some 125, some 126, some 127, some 128, some 129, some 14, none] [[], [], [0, 1], [2], [], [], [5], [4, 6], [7], [], [], [10], [9, 11], [12], [], [], [15], [14, 16], [17], [], [], [20], [19, 21], [22], [3, 8, 13, 18, 23], [27], [25, 24]] [[], [], [0, 1], [0, 1, 2], [], [], [5], [4, 5, 6], [4, 6, 7], [], [], [10], [9, 10, 11], [9, 11, 12], [], [], [15], [14, 15, 16], [14, 16, 17], [], [], [20], [19, 20, 21], [19, 21, 22], [2, 3, 7, 8, 12, 13, 17, 18, 22, 23], [27], [0, 1, 2, 3, 4, 5, 6, 7, 8, 9, 10, 11, 12, 13, 14, 15, 16, 17, 18, 19, 20, 21, 22, 23, 24, 27]] [[1, 3, 4, 5, 6, 7, 8, 9, 10, 11, 12, 13, 14, 15, 16, 17, 18, 19, 20, 21, 22, 23, 24, 25, 27], [0, 3, 4, 5, 6, 7, 8, 9, 10, 11, 12, 13, 14, 15, 16, 17, 18, 19, 20, 21, 22, 23, 24, 25, 27], [4, 5, 6, 7, 8, 9, 10, 11, 12, 13, 14, 15, 16, 17, 18, 19, 20, 21, 22, 23, 24, 25, 27], [4, 5, 6, 7, 8, 9, 10, 11, 12, 13, 14, 15, 16, 17, 18, 19, 20, 21, 22, 23, 25, 27], [0, 1, 2, 3, 5, 6, 8, 9, 10, 11, 12, 13, 14, 15, 16, 17, 18, 19, 20, 21, 22, 23, 24, 25, 27], [0, 1, 2, 3, 4, 7, 8, 9, 10, 11, 12, 13, 14, 15, 16, 17, 18, 19, 20, 21, 22, 23, 24, 25, 27], [0, 1, 2, 3, 4, 8, 9, 10, 11, 12, 13, 14, 15, 16, 17, 18, 19, 20, 21, 22, 23, 24, 25, 27], [0, 1, 2, 3, 9, 10, 11, 12, 13, 14, 15, 16, 17, 18, 19, 20, 21, 22, 23, 24, 25, 27], [0, 1, 2, 3, 9, 10, 11, 12, 13, 14, 15, 16, 17, 18, 19, 20, 21, 22, 23, 25, 27], [0, 1, 2, 3, 4, 5, 6, 7, 8, 10, 11, 13, 14, 15, 16, 17, 18, 19, 20, 21, 22, 23, 24, 25, 27], [0, 1, 2, 3, 4, 5, 6, 7, 8, 9, 12, 13, 14, 15, 16, 17, 18, 19, 20, 21, 22, 23, 24, 25, 27], [0, 1, 2, 3, 4, 5, 6, 7, 8, 9, 13, 14, 15, 16, 17, 18, 19, 20, 21, 22, 23, 24, 25, 27], [0, 1, 2, 3, 4, 5, 6, 7, 8, 14, 15, 16, 17, 18, 19, 20, 21, 22, 23, 24, 25, 27], [0, 1, 2, 3, 4, 5, 6, 7, 8, 14, 15, 16, 17, 18, 19, 20, 21, 22, 23, 25, 27], [0, 1, 2, 3, 4, 5, 6, 7, 8, 9, 10, 11, 12, 13, 15, 16, 18, 19, 20, 21, 22, 23, 24, 25, 27], [0, 1, 2, 3, 4, 5, 6, 7, 8, 9, 10, 11, 12, 13, 14, 17, 18, 19, 20, 21, 22, 23, 24, 25, 27], [0, 1, 2, 3, 4, 5, 6, 7, 8, 9, 10, 11, 12, 13, 14, 18, 19, 20, 21, 22, 23, 24, 25, 27], [0, 1, 2, 3, 4, 5, 6, 7, 8, 9, 10, 11, 12, 13, 19, 20, 21, 22, 23, 24, 25, 27], [0, 1, 2, 3, 4, 5, 6, 7, 8, 9, 10, 11, 12, 13, 19, 20, 21, 22, 23, 25, 27], [0, 1, 2, 3, 4, 5, 6, 7, 8, 9, 10, 11, 12, 13, 14, 15, 16, 17, 18, 20, 21, 23, 24, 25, 27], [0, 1, 2, 3, 4, 5, 6, 7, 8, 9, 10, 11, 12, 13, 14, 15, 16, 17, 18, 19, 22, 23, 24, 25, 27], [0, 1, 2, 3, 4, 5, 6, 7, 8, 9, 10, 11, 12, 13, 14, 15, 16, 17, 18, 19, 23, 24, 25, 27], [0, 1, 2, 3, 4, 5, 6, 7, 8, 9, 10, 11, 12, 13, 14, 15, 16, 17, 18, 24, 25, 27], [0, 1, 2, 3, 4, 5, 6, 7, 8, 9, 10, 11, 12, 13, 14, 15, 16, 17, 18, 25, 27], [5, 10, 15, 20, 25, 27], [0, 1, 2, 3, 4, 5, 6, 7, 8, 9, 10, 11, 12, 13, 14, 15, 16, 17, 18, 19, 20, 21, 22, 23, 24], [25]] [0, 1, 2, 3, 4, 5, 6, 7, 8, 9, 10, 11, 12, 13, 14, 15, 16, 17, 18, 19, 20, 21, 22, 23, 24, 25, 26] 28 (by kernel_rfl) (by kernel_rfl) (by kernel_rfl) (by kernel_rfl) ?rS ?rI ?rT ?rE
                    case rS => exact below_drewN (Below.refl _ _) 1
                    case rI =>
                      intro a h1 h2
                      have h2 : 27 ≤ a := h2
                      obtain rfl : a = 27 := by omega
                      exact (rfl : wr.heap.size = wr.heap.size)
                    case rT =>
                      refine RelySteps.cons (RelyStep.mk [] [1, 3, 4, 5, 6, 7, 8, 9, 10, 11, 12, 13, 14, 15, 16, 17, 18, 19, 20, 21, 22, 23, 24, 25, 27] rfl rfl rfl (fun xv wS hS hV bq hb K hK => ?_)) ?_
                      · clear hV
                        simp only [putsOf, List.foldl_cons, List.foldl_nil, List.getD_cons_zero, List.getD_cons_succ, List.getD_nil, cond_true, cond_false, Act.put, List.setIfInBounds_toArray, List.set_cons_zero, List.set_cons_succ] at hb
                        subst hb
                        rw [if_pos (by rfl)]
                        go_wp2_with fail
                        exact hK.out _ _ ⟨_, rfl, hS, rfl, AllP.same _⟩
                      refine RelySteps.cons (RelyStep.mk [] [0, 3, 4, 5, 6, 7, 8, 9, 10, 11, 12, 13, 14, 15, 16, 17, 18, 19, 20, 21, 22, 23, 24, 25, 27] rfl rfl rfl (fun xv wS hS hV bq hb K hK => ?_)) ?_
                      · clear hV
                        simp only [putsOf, List.foldl_cons, List.foldl_nil, List.getD_cons_zero, List.getD_cons_succ, List.getD_nil, cond_true, cond_false, Act.put, List.setIfInBounds_toArray, List.set_cons_zero, List.set_cons_succ] at hb
                        subst hb
                        rw [if_pos (by rfl)]
                        go_wp2_with fail
                        exact hK.out _ _ ⟨_, rfl, hS, rfl, AllP.same _⟩
                      refine RelySteps.cons (RelyStep.mk [0, 1] [4, 5, 6, 7, 8, 9, 10, 11, 12, 13, 14, 15, 16, 17, 18, 19, 20, 21, 22, 23, 24, 25, 27] rfl rfl rfl (fun xv wS hS hV bq hb K hK => ?_)) ?_
                      · obtain ⟨h0, h1, _⟩ := hV
                        have h0 : xv 0 = _ := h0
                        have h1 : xv 1 = _ := h1
                        simp only [putsOf, List.foldl_cons, List.foldl_nil, List.getD_cons_zero, List.getD_cons_succ, List.getD_nil, cond_true, cond_false, Act.put, List.setIfInBounds_toArray, List.set_cons_zero, List.set_cons_succ, h0, h1] at hb
                        clear h0
                        clear h1
                        subst hb
                        rw [if_pos (by rfl)]
                        go_wp2_with fail
                        exact hK.out _ _ ⟨_, rfl, hS, rfl, AllP.same _⟩
                      refine RelySteps.cons (RelyStep.mk [2] [4, 5, 6, 7, 8, 9, 10, 11, 12, 13, 14, 15, 16, 17, 18, 19, 20, 21, 22, 23, 25, 27] rfl rfl rfl (fun xv wS hS hV bq hb K hK => ?_)) ?_
                      · obtain ⟨h2, _⟩ := hV
                        have h2 : xv 2 = _ := h2
                        simp only [putsOf, List.foldl_cons, List.foldl_nil, List.getD_cons_zero, List.getD_cons_succ, List.getD_nil, cond_true, cond_false, Act.put, List.setIfInBounds_toArray, List.set_cons_zero, List.set_cons_succ, h2] at hb
                        clear h2
                        subst hb
                        rw [if_pos (by rfl)]
                        go_wp2_with fail
                        exact hK.out _ _ ⟨_, rfl, hS, rfl, AllP.same _⟩
                      refine RelySteps.cons (RelyStep.mk [] [0, 1, 2, 3, 5, 6, 8, 9, 10, 11, 12, 13, 14, 15, 16, 17, 18, 19, 20, 21, 22, 23, 24, 25, 27] rfl rfl rfl (fun xv wS hS hV bq hb K hK => ?_)) ?_
                      · clear hV
                        simp only [putsOf, List.foldl_cons, List.foldl_nil, List.getD_cons_zero, List.getD_cons_succ, List.getD_nil, cond_true, cond_false, Act.put, List.setIfInBounds_toArray, List.set_cons_zero, List.set_cons_succ] at hb
                        subst hb
                        rw [if_pos (by rfl)]
                        go_wp2_with fail
                        exact hK.out _ _ ⟨_, rfl, hS, rfl, AllP.same _⟩
                      refine RelySteps.cons (RelyStep.mk [] [0, 1, 2, 3, 4, 7, 8, 9, 10, 11, 12, 13, 14, 15, 16, 17, 18, 19, 20, 21, 22, 23, 24, 25, 27] rfl rfl rfl (fun xv wS hS hV bq hb K hK => ?_)) ?_
                      · clear hV
                        simp only [putsOf, List.foldl_cons, List.foldl_nil, List.getD_cons_zero, List.getD_cons_succ, List.getD_nil, cond_true, cond_false, Act.put, List.setIfInBounds_toArray, List.set_cons_zero, List.set_cons_succ] at hb
                        subst hb
                        rw [if_pos (by rfl)]
                        go_wp2_with fail
                        exact hK.out _ _ ⟨_, rfl, hS, rfl, AllP.same _⟩
                      refine RelySteps.cons (RelyStep.mk [5] [0, 1, 2, 3, 4, 8, 9, 10, 11, 12, 13, 14, 15, 16, 17, 18, 19, 20, 21, 22, 23, 24, 25, 27] rfl rfl rfl (fun xv wS hS hV bq hb K hK => ?_)) ?_
                      · obtain ⟨h5, _⟩ := hV
                        have h5 : xv 5 = _ := h5
                        simp only [putsOf, List.foldl_cons, List.foldl_nil, List.getD_cons_zero, List.getD_cons_succ, List.getD_nil, cond_true, cond_false, Act.put, List.setIfInBounds_toArray, List.set_cons_zero, List.set_cons_succ, h5] at hb
                        clear h5
                        subst hb
                        rw [if_pos (by rfl)]
                        go_wp2_with fail
                        exact hK.out _ _ ⟨_, rfl, hS, rfl, AllP.same _⟩
                      refine RelySteps.cons (RelyStep.mk [4, 6] [0, 1, 2, 3, 9, 10, 11, 12, 13, 14, 15, 16, 17, 18, 19, 20, 21, 22, 23, 24, 25, 27] rfl rfl rfl (fun xv wS hS hV bq hb K hK => ?_)) ?_
                      · obtain ⟨h4, h6, _⟩ := hV
                        have h4 : xv 4 = _ := h4
                        have h6 : xv 6 = _ := h6
                        simp only [putsOf, List.foldl_cons, List.foldl_nil, List.getD_cons_zero, List.getD_cons_succ, List.getD_nil, cond_true, cond_false, Act.put, List.setIfInBounds_toArray, List.set_cons_zero, List.set_cons_succ, h4, h6] at hb
                        clear h4
                        clear h6
                        subst hb
                        rw [if_pos (by rfl)]
                        go_wp2_with fail
                        exact hK.out _ _ ⟨_, rfl, hS, rfl, AllP.same _⟩
                      refine RelySteps.cons (RelyStep.mk [7] [0, 1, 2, 3, 9, 10, 11, 12, 13, 14, 15, 16, 17, 18, 19, 20, 21, 22, 23, 25, 27] rfl rfl rfl (fun xv wS hS hV bq hb K hK => ?_)) ?_
                      · obtain ⟨h7, _⟩ := hV
                        have h7 : xv 7 = _ := h7
                        simp only [putsOf, List.foldl_cons, List.foldl_nil, List.getD_cons_zero, List.getD_cons_succ, List.getD_nil, cond_true, cond_false, Act.put, List.setIfInBounds_toArray, List.set_cons_zero, List.set_cons_succ, h7] at hb
                        clear h7
                        subst hb
                        rw [if_pos (by rfl)]
                        go_wp2_with fail
                        exact hK.out _ _ ⟨_, rfl, hS, rfl, AllP.same _⟩
                      refine RelySteps.cons (RelyStep.mk [] [0, 1, 2, 3, 4, 5, 6, 7, 8, 10, 11, 13, 14, 15, 16, 17, 18, 19, 20, 21, 22, 23, 24, 25, 27] rfl rfl rfl (fun xv wS hS hV bq hb K hK => ?_)) ?_
                      · clear hV
                        simp only [putsOf, List.foldl_cons, List.foldl_nil, List.getD_cons_zero, List.getD_cons_succ, List.getD_nil, cond_true, cond_false, Act.put, List.setIfInBounds_toArray, List.set_cons_zero, List.set_cons_succ] at hb
                        subst hb
                        rw [if_pos (by rfl)]
                        go_wp2_with fail
                        exact hK.out _ _ ⟨_, rfl, hS, rfl, AllP.same _⟩
                      refine RelySteps.cons (RelyStep.mk [] [0, 1, 2, 3, 4, 5, 6, 7, 8, 9, 12, 13, 14, 15, 16, 17, 18, 19, 20, 21, 22, 23, 24, 25, 27] rfl rfl rfl (fun xv wS hS hV bq hb K hK => ?_)) ?_
                      · clear hV
                        simp only [putsOf, List.foldl_cons, List.foldl_nil, List.getD_cons_zero, List.getD_cons_succ, List.getD_nil, cond_true, cond_false, Act.put, List.setIfInBounds_toArray, List.set_cons_zero, List.set_cons_succ] at hb
                        subst hb
                        rw [if_pos (by rfl)]
                        go_wp2_with fail
                        exact hK.out _ _ ⟨_, rfl, hS, rfl, AllP.same _⟩
                      refine RelySteps.cons (RelyStep.mk [10] [0, 1, 2, 3, 4, 5, 6, 7, 8, 9, 13, 14, 15, 16, 17, 18, 19, 20, 21, 22, 23, 24, 25, 27] rfl rfl rfl (fun xv wS hS hV bq hb K hK => ?_)) ?_
                      · obtain ⟨h10, _⟩ := hV
                        have h10 : xv 10 = _ := h10
                        simp only [putsOf, List.foldl_cons, List.foldl_nil, List.getD_cons_zero, List.getD_cons_succ, List.getD_nil, cond_true, cond_false, Act.put, List.setIfInBounds_toArray, List.set_cons_zero, List.set_cons_succ, h10] at hb
                        clear h10
                        subst hb
                        rw [if_pos (by rfl)]
                        go_wp2_with fail
                        exact hK.out _ _ ⟨_, rfl, hS, rfl, AllP.same _⟩
                      refine RelySteps.cons (RelyStep.mk [9, 11] [0, 1, 2, 3, 4, 5, 6, 7, 8, 14, 15, 16, 17, 18, 19, 20, 21, 22, 23, 24, 25, 27] rfl rfl rfl (fun xv wS hS hV bq hb K hK => ?_)) ?_
                      · obtain ⟨h9, h11, _⟩ := hV
                        have h9 : xv 9 = _ := h9
                        have h11 : xv 11 = _ := h11
                        simp only [putsOf, List.foldl_cons, List.foldl_nil, List.getD_cons_zero, List.getD_cons_succ, List.getD_nil, cond_true, cond_false, Act.put, List.setIfInBounds_toArray, List.set_cons_zero, List.set_cons_succ, h9, h11] at hb
                        clear h9
                        clear h11
                        subst hb
                        rw [if_pos (by rfl)]
                        go_wp2_with fail
                        exact hK.out _ _ ⟨_, rfl, hS, rfl, AllP.same _⟩
                      refine RelySteps.cons (RelyStep.mk [12] [0, 1, 2, 3, 4, 5, 6, 7, 8, 14, 15, 16, 17, 18, 19, 20, 21, 22, 23, 25, 27] rfl rfl rfl (fun xv wS hS hV bq hb K hK => ?_)) ?_
                      · obtain ⟨h12, _⟩ := hV
                        have h12 : xv 12 = _ := h12
                        simp only [putsOf, List.foldl_cons, List.foldl_nil, List.getD_cons_zero, List.getD_cons_succ, List.getD_nil, cond_true, cond_false, Act.put, List.setIfInBounds_toArray, List.set_cons_zero, List.set_cons_succ, h12] at hb
                        clear h12
                        subst hb
                        rw [if_pos (by rfl)]
                        go_wp2_with fail
                        exact hK.out _ _ ⟨_, rfl, hS, rfl, AllP.same _⟩
                      refine RelySteps.cons (RelyStep.mk [] [0, 1, 2, 3, 4, 5, 6, 7, 8, 9, 10, 11, 12, 13, 15, 16, 18, 19, 20, 21, 22, 23, 24, 25, 27] rfl rfl rfl (fun xv wS hS hV bq hb K hK => ?_)) ?_
                      · clear hV
                        simp only [putsOf, List.foldl_cons, List.foldl_nil, List.getD_cons_zero, List.getD_cons_succ, List.getD_nil, cond_true, cond_false, Act.put, List.setIfInBounds_toArray, List.set_cons_zero, List.set_cons_succ] at hb
                        subst hb
                        rw [if_pos (by rfl)]
                        go_wp2_with fail
                        exact hK.out _ _ ⟨_, rfl, hS, rfl, AllP.same _⟩
                      refine RelySteps.cons (RelyStep.mk [] [0, 1, 2, 3, 4, 5, 6, 7, 8, 9, 10, 11, 12, 13, 14, 17, 18, 19, 20, 21, 22, 23, 24, 25, 27] rfl rfl rfl (fun xv wS hS hV bq hb K hK => ?_)) ?_
                      · clear hV
                        simp only [putsOf, List.foldl_cons, List.foldl_nil, List.getD_cons_zero, List.getD_cons_succ, List.getD_nil, cond_true, cond_false, Act.put, List.setIfInBounds_toArray, List.set_cons_zero, List.set_cons_succ] at hb
                        subst hb
                        rw [if_pos (by rfl)]
                        go_wp2_with fail
                        exact hK.out _ _ ⟨_, rfl, hS, rfl, AllP.same _⟩
                      refine RelySteps.cons (RelyStep.mk [15] [0, 1, 2, 3, 4, 5, 6, 7, 8, 9, 10, 11, 12, 13, 14, 18, 19, 20, 21, 22, 23, 24, 25, 27] rfl rfl rfl (fun xv wS hS hV bq hb K hK => ?_)) ?_
                      · obtain ⟨h15, _⟩ := hV
                        have h15 : xv 15 = _ := h15
                        simp only [putsOf, List.foldl_cons, List.foldl_nil, List.getD_cons_zero, List.getD_cons_succ, List.getD_nil, cond_true, cond_false, Act.put, List.setIfInBounds_toArray, List.set_cons_zero, List.set_cons_succ, h15] at hb
                        clear h15
                        subst hb
                        rw [if_pos (by rfl)]
                        go_wp2_with fail
                        exact hK.out _ _ ⟨_, rfl, hS, rfl, AllP.same _⟩
                      refine RelySteps.cons (RelyStep.mk [14, 16] [0, 1, 2, 3, 4, 5, 6, 7, 8, 9, 10, 11, 12, 13, 19, 20, 21, 22, 23, 24, 25, 27] rfl rfl rfl (fun xv wS hS hV bq hb K hK => ?_)) ?_
                      · obtain ⟨h14, h16, _⟩ := hV
                        have h14 : xv 14 = _ := h14
                        have h16 : xv 16 = _ := h16
                        simp only [putsOf, List.foldl_cons, List.foldl_nil, List.getD_cons_zero, List.getD_cons_succ, List.getD_nil, cond_true, cond_false, Act.put, List.setIfInBounds_toArray, List.set_cons_zero, List.set_cons_succ, h14, h16] at hb
                        clear h14
                        clear h16
                        subst hb
                        rw [if_pos (by rfl)]
                        go_wp2_with fail
                        exact hK.out _ _ ⟨_, rfl, hS, rfl, AllP.same _⟩
                      refine RelySteps.cons (RelyStep.mk [17] [0, 1, 2, 3, 4, 5, 6, 7, 8, 9, 10, 11, 12, 13, 19, 20, 21, 22, 23, 25, 27] rfl rfl rfl (fun xv wS hS hV bq hb K hK => ?_)) ?_
                      · obtain ⟨h17, _⟩ := hV
                        have h17 : xv 17 = _ := h17
                        simp only [putsOf, List.foldl_cons, List.foldl_nil, List.getD_cons_zero, List.getD_cons_succ, List.getD_nil, cond_true, cond_false, Act.put, List.setIfInBounds_toArray, List.set_cons_zero, List.set_cons_succ, h17] at hb
                        clear h17
                        subst hb
                        rw [if_pos (by rfl)]
                        go_wp2_with fail
                        exact hK.out _ _ ⟨_, rfl, hS, rfl, AllP.same _⟩
                      refine RelySteps.cons (RelyStep.mk [] [0, 1, 2, 3, 4, 5, 6, 7, 8, 9, 10, 11, 12, 13, 14, 15, 16, 17, 18, 20, 21, 23, 24, 25, 27] rfl rfl rfl (fun xv wS hS hV bq hb K hK => ?_)) ?_
                      · clear hV
                        simp only [putsOf, List.foldl_cons, List.foldl_nil, List.getD_cons_zero, List.getD_cons_succ, List.getD_nil, cond_true, cond_false, Act.put, List.setIfInBounds_toArray, List.set_cons_zero, List.set_cons_succ] at hb
                        subst hb
                        rw [if_pos (by rfl)]
                        go_wp2_with fail
                        exact hK.out _ _ ⟨_, rfl, hS, rfl, AllP.same _⟩
                      refine RelySteps.cons (RelyStep.mk [] [0, 1, 2, 3, 4, 5, 6, 7, 8, 9, 10, 11, 12, 13, 14, 15, 16, 17, 18, 19, 22, 23, 24, 25, 27] rfl rfl rfl (fun xv wS hS hV bq hb K hK => ?_)) ?_
                      · clear hV
                        simp only [putsOf, List.foldl_cons, List.foldl_nil, List.getD_cons_zero, List.getD_cons_succ, List.getD_nil, cond_true, cond_false, Act.put, List.setIfInBounds_toArray, List.set_cons_zero, List.set_cons_succ] at hb
                        subst hb
                        rw [if_pos (by rfl)]
                        go_wp2_with fail
                        exact hK.out _ _ ⟨_, rfl, hS, rfl, AllP.same _⟩
                      refine RelySteps.cons (RelyStep.mk [20] [0, 1, 2, 3, 4, 5, 6, 7, 8, 9, 10, 11, 12, 13, 14, 15, 16, 17, 18, 19, 23, 24, 25, 27] rfl rfl rfl (fun xv wS hS hV bq hb K hK => ?_)) ?_
                      · obtain ⟨h20, _⟩ := hV
                        have h20 : xv 20 = _ := h20
                        simp only [putsOf, List.foldl_cons, List.foldl_nil, List.getD_cons_zero, List.getD_cons_succ, List.getD_nil, cond_true, cond_false, Act.put, List.setIfInBounds_toArray, List.set_cons_zero, List.set_cons_succ, h20] at hb
                        clear h20
                        subst hb
                        rw [if_pos (by rfl)]
                        go_wp2_with fail
                        exact hK.out _ _ ⟨_, rfl, hS, rfl, AllP.same _⟩
                      refine RelySteps.cons (RelyStep.mk [19, 21] [0, 1, 2, 3, 4, 5, 6, 7, 8, 9, 10, 11, 12, 13, 14, 15, 16, 17, 18, 24, 25, 27] rfl rfl rfl (fun xv wS hS hV bq hb K hK => ?_)) ?_
                      · obtain ⟨h19, h21, _⟩ := hV
                        have h19 : xv 19 = _ := h19
                        have h21 : xv 21 = _ := h21
                        simp only [putsOf, List.foldl_cons, List.foldl_nil, List.getD_cons_zero, List.getD_cons_succ, List.getD_nil, cond_true, cond_false, Act.put, List.setIfInBounds_toArray, List.set_cons_zero, List.set_cons_succ, h19, h21] at hb
                        clear h19
                        clear h21
                        subst hb
                        rw [if_pos (by rfl)]
                        go_wp2_with fail
                        exact hK.out _ _ ⟨_, rfl, hS, rfl, AllP.same _⟩
                      refine RelySteps.cons (RelyStep.mk [22] [0, 1, 2, 3, 4, 5, 6, 7, 8, 9, 10, 11, 12, 13, 14, 15, 16, 17, 18, 25, 27] rfl rfl rfl (fun xv wS hS hV bq hb K hK => ?_)) ?_
                      · obtain ⟨h22, _⟩ := hV
                        have h22 : xv 22 = _ := h22
                        simp only [putsOf, List.foldl_cons, List.foldl_nil, List.getD_cons_zero, List.getD_cons_succ, List.getD_nil, cond_true, cond_false, Act.put, List.setIfInBounds_toArray, List.set_cons_zero, List.set_cons_succ, h22] at hb
                        clear h22
                        subst hb
                        rw [if_pos (by rfl)]
                        go_wp2_with fail
                        exact hK.out _ _ ⟨_, rfl, hS, rfl, AllP.same _⟩
                      refine RelySteps.cons (RelyStep.mk [3, 8, 13, 18, 23] [5, 10, 15, 20, 25, 27] rfl rfl rfl (fun xv wS hS hV bq hb K hK => ?_)) ?_
                      · obtain ⟨h3, h8, h13, h18, h23, _⟩ := hV
                        have h3 : xv 3 = _ := h3
                        have h8 : xv 8 = _ := h8
                        have h13 : xv 13 = _ := h13
                        have h18 : xv 18 = _ := h18
                        have h23 : xv 23 = _ := h23
                        simp only [putsOf, List.foldl_cons, List.foldl_nil, List.getD_cons_zero, List.getD_cons_succ, List.getD_nil, cond_true, cond_false, Act.put, List.setIfInBounds_toArray, List.set_cons_zero, List.set_cons_succ, h3, h8, h13, h18, h23] at hb
                        clear h3
                        clear h8
                        clear h13
                        clear h18
                        clear h23
                        subst hb
                        rw [if_pos (by rfl)]
                        go_wp2_with fail
                        exact hK.out _ _ ⟨_, rfl, hS, rfl, AllP.same _⟩
                      refine RelySteps.cons (RelyStep.mk [27] [0, 1, 2, 3, 4, 5, 6, 7, 8, 9, 10, 11, 12, 13, 14, 15, 16, 17, 18, 19, 20, 21, 22, 23, 24] rfl rfl rfl (fun xv wS hS hV bq hb K hK => ?_)) ?_
                      · obtain ⟨h27, _⟩ := hV
                        simp only [putsOf, List.foldl_cons, List.foldl_nil, List.getD_cons_zero, List.getD_cons_succ, List.getD_nil, cond_true, cond_false, Act.put, List.setIfInBounds_toArray, List.set_cons_zero, List.set_cons_succ] at hb
                        generalize xv 27 = y27 at *
                        subst hb
                        rw [if_pos (by rfl)]
                        have HSS := Lib.hid hS
                        have H27 : Hid (wS.heap.size = wr.heap.size) := h27
                        clear hS h27
                        go_wp2_with fail
                        exact hK.out _ _ ⟨_, rfl, HSS.out.alloc HSS.out.size _, ⟨by rw [H27.out], _, _, _, _, _, _, by rw [← H27.out]; exact Lies.made _ _ _⟩, AllP.of _ (fun a ha u h => isV_low (all_in isLow rfl ha) h)⟩
                      refine RelySteps.cons (RelyStep.mk [25, 24] [25] rfl rfl rfl (fun xv wS hS hV bq hb K hK => ?_)) ?_
                      · obtain ⟨h25, h24, _⟩ := hV
                        have h24 : xv 24 = _ := h24
                        simp only [putsOf, List.foldl_cons, List.foldl_nil, List.getD_cons_zero, List.getD_cons_succ, List.getD_nil, cond_true, cond_false, Act.put, List.setIfInBounds_toArray, List.set_cons_zero, List.set_cons_succ, h24] at hb
                        generalize xv 25 = y25 at *
                        clear h24
                        subst hb
                        rw [if_pos (by rfl)]
                        have HSS := Lib.hid hS
                        obtain ⟨rfl, a0, a1, a2, a3, a4, a5, hla⟩ := h25
                        have HLA := Lib.hid hla
                        have q0 := (hla.cell 0).trans (show _ = some a0 from rfl)
                        have q1 := (hla.cell 1).trans (show _ = some a1 from rfl)
                        have q2 := (hla.cell 2).trans (show _ = some a2 from rfl)
                        have q3 := (hla.cell 3).trans (show _ = some a3 from rfl)
                        have q4 := (hla.cell 4).trans (show _ = some a4 from rfl)
                        have q5 := (hla.cell 5).trans (show _ = some a5 from rfl)
                        have f0 := hla.free 0
                        have f1 := hla.free 1
                        have f2 := hla.free 2
                        have f3 := hla.free 3
                        have f4 := hla.free 4
                        have f5 := hla.free 5
                        have qt := hla.lt
                        clear hS hla
                        go_wp2_with fail
                        exact hK.out _ _ ⟨undef, rfl, HSS.out.trans ((st6_kept wS wr.heap.size (.int .i64 (x0 : Int)) (.int .i64 (x1 : Int)) (.int .i64 (x2 : Int)) (.int .i64 (x3 : Int)) (.int .i64 (x4 : Int)) (.int .u64 0)).below HSS.out.size (fun k hk (e : k = wr.heap.size) => by omega)),
                          st6_lies HLA.out, AllP.of _ (fun a ha u h => isV_box ⟨_, _, _, _, _, _, st6_lies HLA.out⟩ (all_in (fun j => isLow j || j == 25) rfl ha) h)⟩
                      exact RelySteps.nil
                    case rE =>
                      intro xv wE hS hV
                      have h25 := hV 25 (by decide) (by decide)
                      have h26 := hV 26 (by decide) (by decide)
                      clear hV
                      simp only [putsOf, List.foldl_cons, List.foldl_nil, List.getD_cons_zero, List.getD_cons_succ, List.getD_nil, cond_true, cond_false, Act.put, List.setIfInBounds_toArray, List.set_cons_zero, List.set_cons_succ]
                      generalize xv 0 = y0 at *
                      generalize xv 1 = y1 at *
                      generalize xv 2 = y2 at *
                      generalize xv 3 = y3 at *
                      generalize xv 4 = y4 at *
                      generalize xv 5 = y5 at *
                      generalize xv 6 = y6 at *
                      generalize xv 7 = y7 at *
                      generalize xv 8 = y8 at *
                      generalize xv 9 = y9 at *
                      generalize xv 10 = y10 at *
                      generalize xv 11 = y11 at *
                      generalize xv 12 = y12 at *
                      generalize xv 13 = y13 at *
                      generalize xv 14 = y14 at *
                      generalize xv 15 = y15 at *
                      generalize xv 16 = y16 at *
                      generalize xv 17 = y17 at *
                      generalize xv 18 = y18 at *
                      generalize xv 19 = y19 at *
                      generalize xv 20 = y20 at *
                      generalize xv 21 = y21 at *
                      generalize xv 22 = y22 at *
                      generalize xv 23 = y23 at *
                      generalize xv 24 = y24 at *
                      generalize xv 25 = y25 at *
                      generalize xv 26 = y26 at *
                      obtain ⟨rfl, _⟩ := h25
                      have HLE := Lib.hid (show Lies wE wr.heap.size 24 (inC ⟨x0, x1, x2, x3, x4, 0⟩) from h26)
                      have hk9 := Kept.of_below hS
                      have HSPE := Lib.hid (HSP.out.kept hk9 (fun _ _ (h : False) => h.elim) (fun _ _ _ _ h => h) (fun _ _ _ _ h => h) (fun h => h))
                      have HOE := Lib.hid (owned_below HO.out hS)
                      have HVE := Lib.hid (owned_below HV.out hS)
                      have HXE := Lib.hid (HX.out.below hS HX.out.lt)
                      have hxl := HX.out.lt
                      have holt := fun r (hr : Value.ownBlock u12 = some r) => own_lt HO.out hr
                      have hvlt := fun r (hr : Value.ownBlock vt = some r) => own_lt HV.out hr
                      have HOLT := Lib.hid holt
                      have HVLT := Lib.hid hvlt
                      have hp : (at2 : Int) + 5 = (p5 : Int) := by have := HP5.out; omega
                      clear HSP HO HV HX hS h26 hk9 hx0 hx1 hx2 hx3 hx4 holt hvlt hm e1 e2 e3
                      generalize hgg : wr.heap.size = g at *
                      clear hgg
                      go_wp2_with fail
                      refine (HRR.out _).mono ?_
                      rintro e w6 ⟨rfl, rfl⟩
                      clear HRR hp
                      by_cases her2 : er2 = 0
                      · subst her2
                        have hk9 := Kept.put wE g 5 (.int .u64 (kv : Int))
                        have HL7 : Hid (Lies (wE.setCell ⟨g, 5, none⟩ (.int .u64 (kv : Int))) g 24 (inC ⟨x0, x1, x2, x3, x4, kv⟩)) := HLE.out.put 5 (.int .u64 (kv : Int))
                        have HSP7 := Lib.hid (HSPE.out.kept hk9 (fun k hk (e : k = g) => by omega) (fun r cur hr _ (e : r = g) => by omega) (fun r cur hr _ (e : r = g) => by omega) (fun (e : w.heap.size = g) => by omega))
                        have HO7 := Lib.hid (owns_kept HOE.out hk9 (fun r cur hr _ (e : r = g) => by have := (HOLT.out r hr).2; omega))
                        have HV7 := Lib.hid (owns_kept HVE.out hk9 (fun r cur hr _ (e : r = g) => by have := (HVLT.out r hr).2; omega))
                        have HX7 := Lib.hid (HXE.out.far (p := ⟨g, 5, none⟩) (fun (e : w.heap.size + 1 = g) => by omega) (.int .u64 (kv : Int)))
                        have f5 := HLE.out.free 5
                        have q5 := (HLE.out.cell 5).trans (show _ = some (Value.int .u64 0) from rfl)
                        have ql := HLE.out.lt
                        clear hk9 HSPE HOE HVE HXE
                        go_upto_region 28 with (fail)
                        generalize wE.setCell ⟨g, 5, none⟩ (.int .u64 (kv : Int)) = w7 at *
                        clear f5 q5 ql HLE
                        have q0 := (HL7.out.cell 0).trans (show _ = some (Value.int .i64 (x0 : Int)) from rfl)
                        have q1 := (HL7.out.cell 1).trans (show _ = some (Value.int .i64 (x1 : Int)) from rfl)
                        have q2 := (HL7.out.cell 2).trans (show _ = some (Value.int .i64 (x2 : Int)) from rfl)
                        have q3 := (HL7.out.cell 3).trans (show _ = some (Value.int .i64 (x3 : Int)) from rfl)
                        have q4 := (HL7.out.cell 4).trans (show _ = some (Value.int .i64 (x4 : Int)) from rfl)
                        have q5 := (HL7.out.cell 5).trans (show _ = some (Value.int .u64 (kv : Int)) from rfl)
                        have ql := HL7.out.lt
                        have hbs := HSP7.out.le
                        obtain ⟨A9, c9, rfl⟩ := own_slice HO7.out
                        have hrl := Nat.le_trans hbs (Nat.le_refl _)
                        go_wp2_with (at_builtin; refine append_oneS _ (inC ⟨x0, x1, x2, x3, x4, kv⟩) 6 rfl (.tmp 143) (.tmp 145) 51 rfl wt.heap.size 24 _ 48 Tryd.underlying51 Tryd.infoIn rfl (by decide) rfl (fun u hu => by simp [inC] at hu; rcases hu with rfl | rfl | rfl | rfl | rfl | rfl <;> rfl) _ j _ rfl HO7.out rfl (by unfold maxLen; omega) (by omega) hbs ?_)
                        intro v' w' ho hb hgr
                        have hk9 := kept_grown hgr
                        have HS8 := Lib.hid (HSP7.out.kept hk9 (fun k hk e => by have := (own_lt HO7.out e).1; omega) (fun r cur hr _ e => by have := (own_lt HO7.out e).1; omega) (fun r cur hr _ e => by have := (own_lt HO7.out e).1; omega) (fun e => by have := (own_lt HO7.out e).1; omega))
                        have HV8 := Lib.hid (owns_kept HV7.out hk9 (fun r cur _ hl e => own_ne HO7.out hl (by decide) e))
                        have HX8 := Lib.hid (HX7.out.kept hk9 (fun e => own_ne HO7.out HX7.out (by decide) e))
                        have HO8 : Hid (w'.ownsRow wt.heap.size 24 6 v' (j + 1) (rowsOf inF (insRd s nx false (j + 1)).1)) := by
                          rw [HIN.out]
                          show World.ownsRow _ _ _ _ _ _ _
                          unfold rowsOf
                          rw [List.flatMap_append]
                          simpa [rowsOf, inF, inC] using ho
                        have HI8 : Hid ((insRd s nx false (j + 1)).2 = (nx2, false)) := by
                          show _ = _
                          rw [HIN.out, HNF2.out]
                          rfl
                        clear ho hb hgr hk9 HL7 HSP7 HO7 HV7 HX7 q0 q1 q2 q3 q4 q5 ql
                        go_wp2
                        go_roundw
                        case rel => exact ⟨j + 1, nx2, by omega, rfl, by go_num, hnx2, HI8, HO8, HS8, HV8, HX8⟩
                        case measure => simp [intOf]; omega
                      · have g1 : ((er2 : Int) != 0) = true := by rw [bne_iff_ne]; omega
                        have g2 : (er2 != 0) = true := by rw [bne_iff_ne]; omega
                        have HNO : Hid (rdB s = false) := Lib.hid (Bool.eq_false_iff.2 (fun h => by
                          have hq := (HZ.out h).2.1
                          rw [HTT.out] at hq
                          have hb := thsRd_stays (s := s) (i := 2 + 3 * n) (f := false) (c := k + 1) (n := m) (by omega) (by
                            show (thRd s (thsRd s (2 + 3 * n) false k).2.1 (thsRd s (2 + 3 * n) false k).2.2).2.2 = true
                            rw [HTK.out]
                            show (thRd s at_ false).2.2 = true
                            rw [HTG.out]
                            refine insRd_stays (c := j + 1) (by omega) ?_
                            show (inRd s (insRd s nx false j).2.1 (insRd s nx false j).2.2).2.2 = true
                            rw [HIK.out]
                            (rw [HBAD.out, g2]; rfl))
                          rw [hb] at hq
                          cases hq))
                        have HLL := Lib.hid HSPE.out.res
                        have HBB := Lib.hid (HSPE.out.kep.below (B := w.heap.size) (Nat.le_refl _) (fun k hk hs => by rcases hs with e | e <;> omega))
                        clear HSPE HOE HVE HXE HLE
                        have HP0 : Hid (rdP s = ⟨[], []⟩) := rdP_no HNO.out
                        have rf0 := HLL.out.free 0
                        have rf1 := HLL.out.free 1
                        have rlt := HLL.out.lt
                        have r0 := (HLL.out.cell 0).trans (show _ = some (Value.slice none 0 0) from rfl)
                        have r1 := (HLL.out.cell 1).trans (show _ = some (Value.slice none 0 0) from rfl)
                        have HR2 := Lib.hid ((HLL.out.put 0 (.slice none 0 0)).put 1 (.slice none 0 0))
                        have q0 := (HR2.out.cell 0).trans (show _ = some (Value.slice none 0 0) from rfl)
                        have q1 := (HR2.out.cell 1).trans (show _ = some (Value.slice none 0 0) from rfl)
                        have HQ0 := Lib.hid q0
                        have HQ1 := Lib.hid q1
                        clear q0 q1
                        go_wp2
                        refine bodyPost_ret (v := .tuple #[.agg #[.slice none 0 0, .slice none 0 0], .bool false]) (by simp [results, Tryd.results26, go_sem, HQ0.out, HQ1.out]) rfl ?_
                        rw [HP0.out, HNO.out]
                        exact ⟨none, 0, none, 0, rfl, pg_none _, below_res (below_res HBB.out (Nat.le_refl _) _ _) (Nat.le_refl _) _ _⟩
                · obtain rfl : many = j := by omega
                  have HTK9 : Hid ((thsRd s (2 + 3 * n) false (k + 1)).2 = (at2, false)) := HTK1.out.trans HIK.out
                  have hil := insRd_length s nx false many
                  have HSQ := Lib.hid HO.out
                  obtain ⟨A9, c9, rfl⟩ := own_slice HO.out
                  have hk1 := Kept.alloc noRow wr (.cells #[.slice A9 many c9] 51)
                  have HVa := Lib.hid (owned_below HV.out ((Below.refl wr.heap.size wr).alloc (Nat.le_refl _) (.cells #[.slice A9 many c9] 51)))
                  have hl4 := Lies.made wr 51 #[.slice A9 many c9]
                  have HL4 := Lib.hid hl4
                  have hbs : w.heap.size ≤ (wr.alloc (.cells #[.slice A9 many c9] 51)).heap.size := Nat.le_trans HSP.out.kep.size (by simp)
                  have hgl := HSP.out.le
                  have n1 := (HX.out.cell 1).trans (show _ = some vt from rfl)
                  have nf1 := HX.out.free 1
                  have nl := HX.out.lt
                  clear hl4 hk1 hm e1 e2
                  go_wp2_with (at_builtin; refine append_argS (wr.alloc (.cells #[.slice A9 many c9] 51)) 1 rfl (.tmp 149) (.tmp 151) 33 rfl w.heap.size 51 _ 24 Tryd.underlying33 Tryd.infoTh rfl (by decide) vt k vs rfl HVa.out (some ⟨wr.heap.size, 0, none⟩) 1 1 rfl [.slice A9 many c9] ⟨rfl, _, _, rfl, Nat.le_refl _, by unfold maxLen; omega, (fun h => by cases h), fun i x hx => ⟨wr.heap.size, 0, rfl, by rw [Nat.zero_add, HL4.out.cell]; rw [← hx]; simp⟩⟩ (by intro q hq; simp at hq; subst hq; rfl) (by unfold maxLen; omega) (by omega) hbs ?_)
                  intro v' w' ho hb hgr
                  have hk9 := kept_grown hgr
                  have HS8 := Lib.hid (HSP.out.kept hk9 (fun i hi e => by have := (own_lt HV.out e).1; omega) (fun r cur hr hl e => own_ne HV.out hl (by decide) e) (fun r cur hr hl e => own_ne HV.out hl (by decide) e) (fun e => own_ne HV.out HSP.out.res (by decide) e))
                  have HO8 := Lib.hid (owns_kept HSQ.out hk9 (fun r cur _ hl e => own_ne HV.out hl (by decide) e))
                  have HX8 := Lib.hid (HX.out.kept hk9 (fun e => own_ne HV.out HX.out (by decide) e))
                  have HV8 := Lib.hid ho
                  clear ho hb hgr hk9 HSP HO HX HV HVa HL4 HSQ n1 nf1 nl
                  obtain ⟨A8, c8, rfl⟩ := own_slice HV8.out
                  have n1 := (HX8.out.cell 1).trans (show _ = some vt from rfl)
                  have nf1 := HX8.out.free 1
                  have nl := HX8.out.lt
                  have hk9 := Kept.put w' (w.heap.size + 1) 1 (.slice A8 (k + 1) c8)
                  have HS9 := Lib.hid (HS8.out.kept hk9 (fun i hi (e : i = w.heap.size + 1) => by omega) (fun r cur _ hl (e : r = w.heap.size + 1) => by subst e; exact absurd (hl.same HX8.out).1 (by decide)) (fun r cur _ hl (e : r = w.heap.size + 1) => by subst e; exact absurd (hl.same HX8.out).1 (by decide)) (fun (e : w.heap.size = w.heap.size + 1) => by omega))
                  have HO9 := Lib.hid (owns_put HO8.out HX8.out (by decide) 1 (.slice A8 (k + 1) c8))
                  have HV9 := Lib.hid (owns_put HV8.out HX8.out (by decide) 1 (.slice A8 (k + 1) c8))
                  have HX9 : Hid (Lies (w'.setCell ⟨w.heap.size + 1, 1, none⟩ (.slice A8 (k + 1) c8)) (w.heap.size + 1) 35 #[vr, .slice A8 (k + 1) c8]) := HX8.out.put 1 _
                  clear hk9 HS8 HO8 HV8 HX8
                  go_upto_region 12 with (fail)
                  generalize w'.setCell ⟨w.heap.size + 1, 1, none⟩ (.slice A8 (k + 1) c8) = w9 at *
                  have HSN : Hid (SpS w w9 w9 w.heap.size w.heap.size vr (rgL s) (thT s).1 (vs ++ [.slice A9 many c9])) :=
                    ⟨HS9.out.kep, Nat.le_refl _, HS9.out.rr, fun r hr => Nat.lt_of_lt_of_le (HS9.out.rlt r hr) HS9.out.le, (HS9.out.inn.mono HS9.out.le).snoc (by rw [HVL.out]; exact HTS.out) (by
                      show World.ownsRow _ _ _ _ _ _ _
                      rw [hil]
                      exact owns_mono HO9.out (by omega)) (fun r hr => (own_lt HO9.out hr).2), HS9.out.res⟩
                  clear HS9 HO9 n1 nf1 nl
                  go_wp2
                  go_roundw
                  case rel => exact ⟨k + 1, at2, .slice A8 (k + 1) c8, vs ++ [.slice A9 many c9], by omega, rfl, by go_num, hat2, HTK9, HSN, HV9, HX9⟩
                  case measure => simp [intOf]; omega
          · have e1 : ((er : Int) != 0) = true := by rw [bne_iff_ne]; omega
            have e2 : (er != 0) = true := by rw [bne_iff_ne]; omega
            have HNO : Hid (rdB s = false) := Lib.hid (Bool.eq_false_iff.2 (fun h => by
              have hq := (HZ.out h).2.1
              rw [HTT.out] at hq
              have hb := thsRd_stays (s := s) (i := 2 + 3 * n) (f := false) (c := k + 1) (n := m) (by omega) (by
                show (thRd s (thsRd s (2 + 3 * n) false k).2.1 (thsRd s (2 + 3 * n) false k).2.2).2.2 = true
                rw [HTK.out]
                (exact thRd_bad (.inl (by rw [HNF.out, e2]; rfl))))
              rw [hb] at hq
              cases hq))
            have HLL := Lib.hid HSP.out.res
            have HBB := Lib.hid (HSP.out.kep.below (B := w.heap.size) (Nat.le_refl _) (fun k hk hs => by rcases hs with e | e <;> omega))
            clear hm HSP HV HX
            have HP0 : Hid (rdP s = ⟨[], []⟩) := rdP_no HNO.out
            have rf0 := HLL.out.free 0
            have rf1 := HLL.out.free 1
            have rlt := HLL.out.lt
            have r0 := (HLL.out.cell 0).trans (show _ = some (Value.slice none 0 0) from rfl)
            have r1 := (HLL.out.cell 1).trans (show _ = some (Value.slice none 0 0) from rfl)
            have HR2 := Lib.hid ((HLL.out.put 0 (.slice none 0 0)).put 1 (.slice none 0 0))
            have q0 := (HR2.out.cell 0).trans (show _ = some (Value.slice none 0 0) from rfl)
            have q1 := (HR2.out.cell 1).trans (show _ = some (Value.slice none 0 0) from rfl)
            have HQ0 := Lib.hid q0
            have HQ1 := Lib.hid q1
            clear q0 q1
            go_wp2
            refine bodyPost_ret (v := .tuple #[.agg #[.slice none 0 0, .slice none 0 0], .bool false]) (by simp [results, Tryd.results26, go_sem, HQ0.out, HQ1.out]) rfl ?_
            rw [HP0.out, HNO.out]
            exact ⟨none, 0, none, 0, rfl, pg_none _, below_res (below_res HBB.out (Nat.le_refl _) _ _) (Nat.le_refl _) _ _⟩
        · obtain rfl : m = k := by omega
          have htl := thsRd_length s (2 + 3 * n) false m
          rw [← HTT.out] at htl
          replace HTK : Hid ((thT s).2 = (at_, false)) := by show _ = _; rw [HTT.out]; exact HTK.out
          clear HTT hRG
          by_cases hne : at_ = s.size
          · obtain rfl : s.size = at_ := hne.symm
            have e1 : (((s.size : Nat) : Int) != (s.size : Int)) = false := by rw [bne_eq_false_iff_eq]
            have HOR := HSP.out.rr
            rw [← htl] at HV
            obtain ⟨A, c, B, d, rfl, rfl, hpg⟩ := own_pg (p := ⟨rgL s, (thT s).1⟩) HSP.out.rr HV.out HSP.out.inn
            have HPG := Lib.hid hpg
            have HEN : Hid (encB ⟨rgL s, (thT s).1⟩ = rdB s) := by
              show _ = _
              rw [Bool.eq_iff_iff]
              refine ⟨fun h => rdB_mk (by rw [HBN.out]; omega) (by rw [HTK.out]) (by rw [HTK.out]; exact Nat.le_refl _) h, fun h => (HZ.out h).2.2.2⟩
            have HWR := Lib.hid (rfWritten ⟨rgL s, (thT s).1⟩ A c B d wr hpg (rdq_ok s))
            obtain ⟨rb, hrb⟩ : ∃ b, rdB s = b := ⟨_, rfl⟩
            rw [HEN.out, hrb] at HWR
            have HRB := Lib.hid hrb
            have x0 := (HX.out.cell 0).trans (show _ = some (Value.slice A (rgL s).length c) from rfl)
            have x1 := (HX.out.cell 1).trans (show _ = some (Value.slice B (thT s).1.length d) from rfl)
            have xl := HX.out.lt
            have HYS := Lib.hid (@rdP_yes s)
            clear hpg HOR HZ HEN hrb htl hne
            generalize (thT s).1 = TS at *
            generalize rgL s = LR at *
            go_wp2_with fail
            refine HWR.out.mono ?_
            rintro e w6 ⟨rfl, hb6⟩
            have HL6 := Lib.hid (HSP.out.res.below hb6 HSP.out.res.lt)
            have HX6 := Lib.hid (HX.out.below hb6 HX.out.lt)
            have HB6 := Lib.hid ((HSP.out.kep.below (B := w.heap.size) (Nat.le_refl _) (fun k hk hs => by rcases hs with e | e <;> omega)).trans (hb6.mono HSP.out.kep.size))
            have hk6 := Kept.of_below hb6
            clear HWR x0 x1 xl
            cases rb with
            | false =>
              have HNO := HRB
              clear HYS hb6 hk6
              have HP0 : Hid (rdP s = ⟨[], []⟩) := rdP_no HNO.out
              have rf0 := HL6.out.free 0
              have rf1 := HL6.out.free 1
              have rlt := HL6.out.lt
              have r0 := (HL6.out.cell 0).trans (show _ = some (Value.slice none 0 0) from rfl)
              have r1 := (HL6.out.cell 1).trans (show _ = some (Value.slice none 0 0) from rfl)
              have HR2 := Lib.hid ((HL6.out.put 0 (.slice none 0 0)).put 1 (.slice none 0 0))
              have q0 := (HR2.out.cell 0).trans (show _ = some (Value.slice none 0 0) from rfl)
              have q1 := (HR2.out.cell 1).trans (show _ = some (Value.slice none 0 0) from rfl)
              have HQ0 := Lib.hid q0
              have HQ1 := Lib.hid q1
              clear q0 q1
              go_wp2
              refine bodyPost_ret (v := .tuple #[.agg #[.slice none 0 0, .slice none 0 0], .bool false]) (by simp [results, Tryd.results26, go_sem, HQ0.out, HQ1.out]) rfl ?_
              rw [HP0.out, HNO.out]
              exact ⟨none, 0, none, 0, rfl, pg_none _, below_res (below_res HB6.out (Nat.le_refl _) _ _) (Nat.le_refl _) _ _⟩
            | true =>
              have HP0 := Lib.hid (HYS.out HRB.out)
              clear HYS
              have x0 := (HX6.out.cell 0).trans (show _ = some (Value.slice A LR.length c) from rfl)
              have x1 := (HX6.out.cell 1).trans (show _ = some (Value.slice B TS.length d) from rfl)
              have xl := HX6.out.lt
              have rf0 := HL6.out.free 0
              have rf1 := HL6.out.free 1
              have rlt := HL6.out.lt
              have r0 := (HL6.out.cell 0).trans (show _ = some (Value.slice none 0 0) from rfl)
              have r1 := (HL6.out.cell 1).trans (show _ = some (Value.slice none 0 0) from rfl)
              have HR2 := Lib.hid ((HL6.out.put 0 (.slice A LR.length c)).put 1 (.slice B TS.length d))
              have q0 := (HR2.out.cell 0).trans (show _ = some (Value.slice A LR.length c) from rfl)
              have q1 := (HR2.out.cell 1).trans (show _ = some (Value.slice B TS.length d) from rfl)
              have HQ0 := Lib.hid q0
              have HQ1 := Lib.hid q1
              have HK6 := Lib.hid hk6
              clear q0 q1 hk6 hb6
              go_wp2
              refine bodyPost_ret (v := .tuple #[.agg (pgC A c B d ⟨LR, TS⟩), .bool true]) (by simp [results, Tryd.results26, go_sem, HQ0.out, HQ1.out]) rfl ?_
              rw [HP0.out, HRB.out]
              have hkf := ((HK6.out.mono (T := oneRow w.heap.size) (fun _ _ (e : False) => e.elim)).trans (Kept.put w6 w.heap.size 0 (.slice A LR.length c)) (fun _ _ e => e)).trans (Kept.put _ w.heap.size 1 (.slice B TS.length d)) (fun _ _ e => e)
              refine ⟨A, c, B, d, rfl, ?_, below_res (below_res HB6.out (Nat.le_refl _) _ _) (Nat.le_refl _) _ _⟩
              obtain ⟨A', c', B', d', e1, e2, hpg⟩ := own_pg (p := ⟨LR, TS⟩) (owns_kept HSP.out.rr hkf (fun r cur hr hl (e : r = w.heap.size) => by subst e; exact absurd (hl.same HSP.out.res).1 (by decide))) (owns_kept HV.out hkf (fun r cur hr hl (e : r = w.heap.size) => by subst e; exact absurd (hl.same HSP.out.res).1 (by decide))) (HSP.out.inn.kept hkf (fun r cur _ hl (e : r = w.heap.size) => by subst e; exact absurd (hl.same HSP.out.res).1 (by decide)))
              cases e1
              cases e2
              exact hpg
          · have e1 : ((at_ : Int) != (s.size : Int)) = true := by rw [bne_iff_ne]; omega
            have e2 : (at_ != s.size) = true := by rw [bne_iff_ne]; exact hne
            have HNO : Hid (rdB s = false) := Lib.hid (Bool.eq_false_iff.2 (fun h => by
              have hq := (HZ.out h).2.2.1
              rw [HTK.out] at hq
              simp only at hq
              omega))
            have HLL := Lib.hid HSP.out.res
            have HBB := Lib.hid (HSP.out.kep.below (B := w.heap.size) (Nat.le_refl _) (fun k hk hs => by rcases hs with e | e <;> omega))
            clear HSP HV HX htl hne
            have HP0 : Hid (rdP s = ⟨[], []⟩) := rdP_no HNO.out
            have rf0 := HLL.out.free 0
            have rf1 := HLL.out.free 1
            have rlt := HLL.out.lt
            have r0 := (HLL.out.cell 0).trans (show _ = some (Value.slice none 0 0) from rfl)
            have r1 := (HLL.out.cell 1).trans (show _ = some (Value.slice none 0 0) from rfl)
            have HR2 := Lib.hid ((HLL.out.put 0 (.slice none 0 0)).put 1 (.slice none 0 0))
            have q0 := (HR2.out.cell 0).trans (show _ = some (Value.slice none 0 0) from rfl)
            have q1 := (HR2.out.cell 1).trans (show _ = some (Value.slice none 0 0) from rfl)
            have HQ0 := Lib.hid q0
            have HQ1 := Lib.hid q1
            clear q0 q1
            go_wp2
            refine bodyPost_ret (v := .tuple #[.agg #[.slice none 0 0, .slice none 0 0], .bool false]) (by simp [results, Tryd.results26, go_sem, HQ0.out, HQ1.out]) rfl ?_
            rw [HP0.out, HNO.out]
            exact ⟨none, 0, none, 0, rfl, pg_none _, below_res (below_res HBB.out (Nat.le_refl _) _ _) (Nat.le_refl _) _ _⟩
end Go.Proofs.YtebgcehcnenjiaaDoor
