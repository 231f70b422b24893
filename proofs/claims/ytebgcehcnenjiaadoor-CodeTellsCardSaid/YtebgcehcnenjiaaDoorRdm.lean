/-
  What a print has written, a source reads (layer 9).
-/
import Derived.Test.YtebgcehcnenjiaaDoorSrc2
namespace Go.Proofs.YtebgcehcnenjiaaDoor
open Go.RowKit
set_option linter.unusedVariables false
set_option linter.unusedSimpArgs false
theorem rest_split {s : ByteArray} {i : Nat} {b : UInt8} {r : List UInt8} (h : restOf s i = b :: r) : (∃ hi : i < s.size, s[i]'hi = b) ∧ restOf s (i + 1) = r := by
  unfold restOf at *
  have hl : i < s.data.toList.length := by
    rcases Nat.lt_or_ge i s.data.toList.length with h2 | h2
    · exact h2
    · rw [List.drop_eq_nil_of_le h2] at h; cases h
  have h2 := List.drop_eq_getElem_cons hl
  rw [h] at h2
  injection h2 with h3 h4
  refine ⟨⟨by simpa using hl, ?_⟩, h4.symm⟩
  rw [h3]; rfl
theorem rest_append {s : ByteArray} {i : Nat} {a r : List UInt8} (h : restOf s i = a ++ r) : restOf s (i + a.length) = r := by
  unfold restOf at *
  rw [← List.drop_drop, h, List.drop_left]
theorem by_of {s : ByteArray} {i : Nat} {f : Bool} {b : UInt8} {r : List UInt8} (h : restOf s i = b :: r) : byV s i = b.toNat ∧ byI s i = i + 1 ∧ byF s i f = f := by
  obtain ⟨⟨hi, hb⟩, _⟩ := rest_split h
  refine ⟨?_, ?_, ?_⟩
  · unfold byV; rw [dif_pos hi, hb]
  · unfold byI; rw [if_pos hi]
  · unfold byF; rw [decide_eq_false (by omega), Bool.or_false]
theorem nu_of {s : ByteArray} {i n : Nat} {f : Bool} {r : List UInt8} (hn : n < M64) (h : restOf s i = enc n ++ r) : nuV s i = n ∧ nuI s i = i + (enc n).length ∧ nuF s i f = f := by
  have h2 := rd_enc n r hn
  unfold nuV nuI nuF
  rw [h, h2]
  exact ⟨rfl, rfl, by simp⟩
theorem inRd_of {s : ByteArray} {i : Nat} {f : Bool} {x : In} {r : List UInt8} (hx : rightB x = true) (h : restOf s i = inE x ++ r) : inRd s i f = (x, i + (inE x).length, f) := by
  obtain ⟨m0, m1, m2, m3, m4, m5⟩ := right_bytes hx
  have h0 : restOf s i = bI x.op :: (bI x.a :: (bI x.b :: (bI x.c :: (bI x.d :: (enc x.k ++ r))))) := by rw [h]; unfold inE; simp
  obtain ⟨a0, b0, c0⟩ := by_of (f := f) h0
  have h1 := (rest_split h0).2
  obtain ⟨a1, b1, c1⟩ := by_of (f := f) h1
  have h2 := (rest_split h1).2
  obtain ⟨a2, b2, c2⟩ := by_of (f := f) h2
  have h3 := (rest_split h2).2
  obtain ⟨a3, b3, c3⟩ := by_of (f := f) h3
  have h4 := (rest_split h3).2
  obtain ⟨a4, b4, c4⟩ := by_of (f := f) h4
  have h5 := (rest_split h4).2
  obtain ⟨a5, b5, c5⟩ := nu_of (f := f) (by unfold M64; omega) h5
  unfold inRd
  rw [b0, b1, b2, b3, b4, c0, c1, c2, c3, c4, a0, a1, a2, a3, a4, a5, b5, c5, bI_cast m0.1 m0.2, bI_cast m1.1 m1.2, bI_cast m2.1 m2.2, bI_cast m3.1 m3.2, bI_cast m4.1 m4.2]
  unfold inE
  simp only [List.length_append, List.length_cons, List.length_nil]
  rw [show i + 1 + 1 + 1 + 1 + 1 + (enc x.k).length = i + (0 + 1 + 1 + 1 + 1 + 1 + (enc x.k).length) by omega]
theorem insRd_to {s : ByteArray} {i : Nat} {f : Bool} {l : List In} {r : List UInt8} (hx : ∀ x ∈ l, rightB x = true) (h : restOf s i = l.flatMap inE ++ r) : ∀ k, k ≤ l.length → insRd s i f k = (l.take k, i + ((l.take k).flatMap inE).length, f)
  | 0, _ => by simp [insRd]
  | k + 1, hk => by
    have h1 := insRd_to (f := f) hx h k (by omega)
    obtain ⟨x, hxk⟩ : ∃ x, l[k]? = some x := ⟨_, List.getElem?_eq_getElem (by omega)⟩
    have h2 : restOf s i = (l.take k).flatMap inE ++ ((l.drop k).flatMap inE ++ r) := by
      rw [h, ← List.append_assoc, ← List.flatMap_append, List.take_append_drop]
    have h3 := rest_append h2
    have hd : l.drop k = x :: l.drop (k + 1) := by
      obtain ⟨hl, rfl⟩ := List.getElem?_eq_some_iff.1 hxk
      exact List.drop_eq_getElem_cons hl
    rw [hd, List.flatMap_cons, List.append_assoc] at h3
    have h4 := inRd_of (f := f) (hx x (List.mem_of_getElem? hxk)) h3
    have h5 := flat_next inE hxk
    have h6 : l.take (k + 1) = l.take k ++ [x] := by rw [List.take_add_one, hxk]; rfl
    show ((insRd s i f k).1 ++ [(inRd s (insRd s i f k).2.1 (insRd s i f k).2.2).1], (inRd s (insRd s i f k).2.1 (insRd s i f k).2.2).2) = _
    rw [h1]
    simp only
    rw [h4, h5, h6, List.length_append, Nat.add_assoc]
theorem insRd_of {s : ByteArray} {i : Nat} {f : Bool} (l : List In) (r : List UInt8) (hx : ∀ x ∈ l, rightB x = true) (h : restOf s i = l.flatMap inE ++ r) : insRd s i f l.length = (l, i + (l.flatMap inE).length, f) := by
  have := insRd_to (f := f) hx h l.length (Nat.le_refl _)
  rwa [List.take_length] at this
theorem thRd_of {s : ByteArray} {i : Nat} {l : List In} {r : List UInt8} (hl : l.length ≤ 256) (hx : ∀ x ∈ l, rightB x = true) (h : restOf s i = thE l ++ r) : thRd s i false = (l, i + (thE l).length, false) := by
  have h0 : restOf s i = enc l.length ++ (l.flatMap inE ++ r) := by rw [h]; unfold thE; rw [List.append_assoc]
  obtain ⟨a0, b0, c0⟩ := nu_of (f := false) (by unfold M64; omega) h0
  have h1 := rest_append h0
  unfold thRd
  rw [a0, b0, c0]
  have hc : coV l.length 256 false = l.length := by
    unfold coV
    rw [decide_eq_false (by omega)]; rfl
  rw [hc, decide_eq_false (by omega), Bool.or_false, insRd_of l r hx h1]
  unfold thE
  rw [List.length_append, Nat.add_assoc]
end Go.Proofs.YtebgcehcnenjiaaDoor
