/-
  A program read from bytes (layer 9): what the reading comes to, and that it is the printing's inverse.
-/
import Derived.Test.YtebgcehcnenjiaaDoorRdm
import Derived.Test.YtebgcehcnenjiaaDoorRdtake
import Derived.Test.YtebgcehcnenjiaaDoorRfwr
namespace Go.Proofs.YtebgcehcnenjiaaDoor
open Go.RowKit
set_option linter.unusedVariables false
set_option linter.unusedSimpArgs false
def riRd (s : ByteArray) (i : Nat) (f : Bool) : Ri × Nat × Bool :=
  (⟨(byV s i : Nat), (byV s (byI s i) : Nat), (byV s (byI s (byI s i)) : Nat)⟩, byI s (byI s (byI s i)), byF s (byI s (byI s i)) (byF s (byI s i) (byF s i f)))
def risRd (s : ByteArray) (i : Nat) (f : Bool) : Nat → List Ri × Nat × Bool
  | 0 => ([], i, f)
  | c + 1 => ((risRd s i f c).1 ++ [(riRd s (risRd s i f c).2.1 (risRd s i f c).2.2).1], (riRd s (risRd s i f c).2.1 (risRd s i f c).2.2).2)
def thsRd (s : ByteArray) (i : Nat) (f : Bool) : Nat → List (List In) × Nat × Bool
  | 0 => ([], i, f)
  | c + 1 => ((thsRd s i f c).1 ++ [(thRd s (thsRd s i f c).2.1 (thsRd s i f c).2.2).1], (thRd s (thsRd s i f c).2.1 (thsRd s i f c).2.2).2)
/-- The rings: their list, the place behind them, and whether a part failed. -/
def rdR (s : ByteArray) (i : Nat) (f : Bool) : List Ri × Nat × Bool := risRd s (byI s i) (byF s i f || decide (8 < byV s i)) (coV (byV s i) 8 (byF s i f))
def rdT (s : ByteArray) (i : Nat) (f : Bool) : List (List In) × Nat × Bool := thsRd s (byI s i) (byF s i f || decide (8 < byV s i)) (coV (byV s i) 8 (byF s i f))
def prRd (s : ByteArray) (i : Nat) (f : Bool) : Pg × Nat × Bool :=
  (⟨(rdR s i f).1, (rdT s (rdR s i f).2.1 (rdR s i f).2.2).1⟩, (rdT s (rdR s i f).2.1 (rdR s i f).2.2).2)
theorem risRd_length (s : ByteArray) (i : Nat) (f : Bool) : ∀ c, (risRd s i f c).1.length = c
  | 0 => rfl
  | c + 1 => by
    show ((risRd s i f c).1 ++ [_]).length = c + 1
    rw [List.length_append, risRd_length s i f c]; rfl
theorem thsRd_length (s : ByteArray) (i : Nat) (f : Bool) : ∀ c, (thsRd s i f c).1.length = c
  | 0 => rfl
  | c + 1 => by
    show ((thsRd s i f c).1 ++ [_]).length = c + 1
    rw [List.length_append, thsRd_length s i f c]; rfl
/-- A program has been read. -/
def rdB (s : ByteArray) : Bool := !(prRd s 0 false).2.2 && (decide (s.size ≤ (prRd s 0 false).2.1) && encB (prRd s 0 false).1)
/-! ## A failure stays -/
theorem byF_true (s : ByteArray) (i : Nat) : byF s i true = true := by unfold byF; rfl
theorem nuF_true (s : ByteArray) (i : Nat) : nuF s i true = true := by unfold nuF; rfl
theorem inRd_true (s : ByteArray) (i : Nat) : (inRd s i true).2.2 = true := by unfold inRd; simp only [byF_true, nuF_true]
theorem riRd_true (s : ByteArray) (i : Nat) : (riRd s i true).2.2 = true := by unfold riRd; simp only [byF_true]
theorem insRd_true (s : ByteArray) (i : Nat) : ∀ c, (insRd s i true c).2.2 = true
  | 0 => rfl
  | c + 1 => by
    show (inRd s (insRd s i true c).2.1 (insRd s i true c).2.2).2.2 = true
    rw [insRd_true s i c, inRd_true]
theorem risRd_true (s : ByteArray) (i : Nat) : ∀ c, (risRd s i true c).2.2 = true
  | 0 => rfl
  | c + 1 => by
    show (riRd s (risRd s i true c).2.1 (risRd s i true c).2.2).2.2 = true
    rw [risRd_true s i c, riRd_true]
theorem thRd_true (s : ByteArray) (i : Nat) : (thRd s i true).2.2 = true := by
  unfold thRd
  rw [nuF_true, Bool.true_or, insRd_true]
theorem thsRd_true (s : ByteArray) (i : Nat) : ∀ c, (thsRd s i true c).2.2 = true
  | 0 => rfl
  | c + 1 => by
    show (thRd s (thsRd s i true c).2.1 (thsRd s i true c).2.2).2.2 = true
    rw [thsRd_true s i c, thRd_true]
theorem rdT_true (s : ByteArray) (i : Nat) : (rdT s i true).2.2 = true := by
  unfold rdT
  rw [byF_true, Bool.true_or, thsRd_true]
/-- Once failed, failed at the end. -/
theorem insRd_stays {s : ByteArray} {i : Nat} {f : Bool} : ∀ {c n : Nat}, c ≤ n → (insRd s i f c).2.2 = true → (insRd s i f n).2.2 = true
  | c, 0, h, hf => by obtain rfl : c = 0 := by omega
                      exact hf
  | c, n + 1, h, hf => by
    by_cases e : c = n + 1
    · subst e; exact hf
    · have := insRd_stays (n := n) (by omega) hf
      show (inRd s (insRd s i f n).2.1 (insRd s i f n).2.2).2.2 = true
      rw [this, inRd_true]
theorem thsRd_stays {s : ByteArray} {i : Nat} {f : Bool} : ∀ {c n : Nat}, c ≤ n → (thsRd s i f c).2.2 = true → (thsRd s i f n).2.2 = true
  | c, 0, h, hf => by obtain rfl : c = 0 := by omega
                      exact hf
  | c, n + 1, h, hf => by
    by_cases e : c = n + 1
    · subst e; exact hf
    · have := thsRd_stays (n := n) (by omega) hf
      show (thRd s (thsRd s i f n).2.1 (thsRd s i f n).2.2).2.2 = true
      rw [this, thRd_true]
/-! ## What is printed is read -/
theorem riRd_of {s : ByteArray} {i : Nat} {f : Bool} {x : Ri} {r : List UInt8} (hx : rilB x = true) (h : restOf s i = riE x ++ r) : riRd s i f = (x, i + 3, f) := by
  obtain ⟨m0, m1, m2⟩ := ril_iff.1 hx
  have h0 : restOf s i = bI x.k :: (bI x.c :: (bI x.r :: r)) := by rw [h]; unfold riE; simp
  obtain ⟨a0, b0, c0⟩ := by_of (f := f) h0
  have h1 := (rest_split h0).2
  obtain ⟨a1, b1, c1⟩ := by_of (f := f) h1
  have h2 := (rest_split h1).2
  obtain ⟨a2, b2, c2⟩ := by_of (f := f) h2
  unfold riRd
  rw [b0, b1, b2, c0, c1, c2, a0, a1, a2, bI_cast m0.1 m0.2, bI_cast m1.1 m1.2, bI_cast m2.1 m2.2]
theorem risRd_to {s : ByteArray} {i : Nat} {f : Bool} {l : List Ri} {r : List UInt8} (hx : ∀ x ∈ l, rilB x = true) (h : restOf s i = l.flatMap riE ++ r) : ∀ k, k ≤ l.length → risRd s i f k = (l.take k, i + ((l.take k).flatMap riE).length, f)
  | 0, _ => by simp [risRd]
  | k + 1, hk => by
    have h1 := risRd_to (f := f) hx h k (by omega)
    obtain ⟨x, hxk⟩ : ∃ x, l[k]? = some x := ⟨_, List.getElem?_eq_getElem (by omega)⟩
    have h2 : restOf s i = (l.take k).flatMap riE ++ ((l.drop k).flatMap riE ++ r) := by
      rw [h, ← List.append_assoc, ← List.flatMap_append, List.take_append_drop]
    have h3 := rest_append h2
    have hd : l.drop k = x :: l.drop (k + 1) := by
      obtain ⟨hl, rfl⟩ := List.getElem?_eq_some_iff.1 hxk
      exact List.drop_eq_getElem_cons hl
    rw [hd, List.flatMap_cons, List.append_assoc] at h3
    have h4 := riRd_of (f := f) (hx x (List.mem_of_getElem? hxk)) h3
    have h5 := flat_next riE hxk
    have h6 : l.take (k + 1) = l.take k ++ [x] := by rw [List.take_add_one, hxk]; rfl
    show ((risRd s i f k).1 ++ [(riRd s (risRd s i f k).2.1 (risRd s i f k).2.2).1], (riRd s (risRd s i f k).2.1 (risRd s i f k).2.2).2) = _
    rw [h1]
    simp only
    rw [h4, h5, h6, List.length_append, Nat.add_assoc]; rfl
theorem thsRd_to {s : ByteArray} {i : Nat} {l : List (List In)} {r : List UInt8} (hx : ∀ x ∈ l, x.length ≤ 256 ∧ ∀ y ∈ x, rightB y = true) (h : restOf s i = l.flatMap thE ++ r) : ∀ k, k ≤ l.length → thsRd s i false k = (l.take k, i + ((l.take k).flatMap thE).length, false)
  | 0, _ => by simp [thsRd]
  | k + 1, hk => by
    have h1 := thsRd_to hx h k (by omega)
    obtain ⟨x, hxk⟩ : ∃ x, l[k]? = some x := ⟨_, List.getElem?_eq_getElem (by omega)⟩
    have h2 : restOf s i = (l.take k).flatMap thE ++ ((l.drop k).flatMap thE ++ r) := by
      rw [h, ← List.append_assoc, ← List.flatMap_append, List.take_append_drop]
    have h3 := rest_append h2
    have hd : l.drop k = x :: l.drop (k + 1) := by
      obtain ⟨hl, rfl⟩ := List.getElem?_eq_some_iff.1 hxk
      exact List.drop_eq_getElem_cons hl
    rw [hd, List.flatMap_cons, List.append_assoc] at h3
    obtain ⟨q1, q2⟩ := hx x (List.mem_of_getElem? hxk)
    have h4 := thRd_of q1 q2 h3
    have h5 := flat_next thE hxk
    have h6 : l.take (k + 1) = l.take k ++ [x] := by rw [List.take_add_one, hxk]; rfl
    show ((thsRd s i false k).1 ++ [(thRd s (thsRd s i false k).2.1 (thsRd s i false k).2.2).1], (thRd s (thsRd s i false k).2.1 (thsRd s i false k).2.2).2) = _
    rw [h1]
    simp only
    rw [h4, h5, h6, List.length_append, Nat.add_assoc]
theorem rest_zero (l : List UInt8) : restOf (textB l) 0 = l := by
  unfold restOf
  rw [List.drop_zero]; rfl
theorem coV_same {n m : Nat} (h : n ≤ m) : coV n m false = n := by
  unfold coV
  rw [decide_eq_false (by omega)]; rfl
theorem prRd_of {p : Pg} (he : encB p = true) : prRd (textB (pgE p)) 0 false = (p, (pgE p).length, false) := by
  obtain ⟨h1, h2, h3, h4⟩ := enc_parts.1 he
  obtain ⟨s, hs⟩ : ∃ s, textB (pgE p) = s := ⟨_, rfl⟩
  have e0 : restOf s 0 = bI p.rs.length :: (p.rs.flatMap riE ++ (bI p.ts.length :: (p.ts.flatMap thE ++ []))) := by
    rw [← hs, rest_zero]; unfold pgE; simp
  rw [hs]
  obtain ⟨a0, b0, c0⟩ := by_of (f := false) e0
  have e1 := (rest_split e0).2
  have v0 : (bI (p.rs.length : Int)).toNat = p.rs.length := by have := bI_cast (z := p.rs.length) (by omega) (by omega); omega
  have v1 : (bI (p.ts.length : Int)).toNat = p.ts.length := by have := bI_cast (z := p.ts.length) (by omega) (by omega); omega
  rw [v0] at a0
  have r0 : rdR s 0 false = (p.rs, 1 + (p.rs.flatMap riE).length, false) := by
    unfold rdR
    rw [a0, b0, c0, coV_same h1, decide_eq_false (by omega), Bool.or_false, Nat.zero_add, risRd_to h3 e1 _ (Nat.le_refl _), List.take_length]
  have e2 := rest_append e1
  obtain ⟨a1, b1, c1⟩ := by_of (f := false) e2
  have e3 := (rest_split e2).2
  rw [v1] at a1
  have r1 : rdT s (1 + (p.rs.flatMap riE).length) false = (p.ts, (pgE p).length, false) := by
    unfold rdT
    rw [Nat.zero_add] at a1 b1 c1 e3
    rw [a1, b1, c1, coV_same h2, decide_eq_false (by omega), Bool.or_false, thsRd_to h4 e3 _ (Nat.le_refl _), List.take_length]
    unfold pgE
    simp only [List.length_append, List.length_cons, List.length_nil, Nat.zero_add, Nat.add_assoc]
  unfold prRd
  rw [r0]
  simp only
  rw [r1]
theorem rdB_of {p : Pg} (he : encB p = true) : rdB (textB (pgE p)) = true := by
  unfold rdB
  rw [prRd_of he]
  simp only
  rw [he, textB_size, decide_eq_true (Nat.le_refl _)]; rfl
theorem pgE_inj {p q : Pg} (hp : encB p = true) (hq : encB q = true) (h : textB (pgE p) = textB (pgE q)) : p = q := by
  have h1 := prRd_of hp
  rw [h, prRd_of hq] at h1
  exact (congrArg Prod.fst h1).symm
end Go.Proofs.YtebgcehcnenjiaaDoor
