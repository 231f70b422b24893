/-
  Where a thread's ways go: which places are reached. No Go in sight.
-/
import Derived.Test.YteecfffgigaomaaChk3
namespace Go.Proofs.Yteecfffgigaomaa
open Go.RowKit
set_option linter.unusedVariables false
set_option linter.unusedSimpArgs false
def nextX (x : In) (at_ : Nat) : List Nat := if x.op = 15 then [x.k] else if x.op = 16 ∨ x.op = 17 then [x.k, at_ + 1] else if x.op = 25 then [] else [at_ + 1]
def nextL (l : List In) (a : Nat) : List Nat := match l[a]? with | none => [] | some x => nextX x a
inductive Rch (l : List In) : Nat → Prop
  | zero : Rch l 0
  | next {a b : Nat} : Rch l a → b ∈ nextL l a → Rch l b
/-- No jump goes beyond the end. -/
def okL (l : List In) : Prop := ∀ x ∈ l, 15 ≤ x.op → x.op ≤ 17 → x.k ≤ l.length
theorem nextL_some {l : List In} {a : Nat} {x : In} (h : l[a]? = some x) : nextL l a = nextX x a := by unfold nextL; rw [h]
theorem nextL_le {l : List In} (hk : okL l) {a b : Nat} (h : b ∈ nextL l a) : b ≤ l.length := by
  unfold nextL at h
  cases hx : l[a]? with
  | none => rw [hx] at h; cases h
  | some x =>
    rw [hx] at h
    have hm := List.mem_of_getElem? hx
    have ha := (List.getElem?_eq_some_iff.1 hx).1
    simp only at h
    unfold nextX at h
    split at h
    · simp at h; subst h; exact hk x hm (by omega) (by omega)
    · split at h
      · simp at h
        rcases h with rfl | rfl
        · exact hk x hm (by omega) (by omega)
        · omega
      · split at h
        · cases h
        · simp at h; omega
theorem Rch.le {l : List In} (hk : okL l) {a : Nat} (h : Rch l a) : a ≤ l.length := by
  cases h with
  | zero => omega
  | next _ hb => exact nextL_le hk hb
noncomputable def rchB (l : List In) (a : Nat) : Bool := @decide (Rch l a) (Classical.propDecidable _)
theorem rchB_true {l : List In} {a : Nat} : rchB l a = true ↔ Rch l a := by
  unfold rchB
  exact @decide_eq_true_iff _ (Classical.propDecidable _)
noncomputable def rchL (l : List In) : List Bool := (List.range (l.length + 1)).map (rchB l)
theorem rchL_length (l : List In) : (rchL l).length = l.length + 1 := by unfold rchL; simp
theorem rchL_get {l : List In} {a : Nat} (h : a ≤ l.length) : (rchL l)[a]? = some (rchB l a) := by
  unfold rchL
  rw [List.getElem?_map, List.getElem?_range (by omega)]; rfl
/-- Bools that hold just where a way leads. -/
theorem rchL_of {l : List In} {R : List Bool} (hlen : R.length = l.length + 1) (h : ∀ a, a ≤ l.length → (R[a]? = some true ↔ Rch l a)) : R = rchL l := by
  apply List.ext_getElem?
  intro a
  by_cases ha : a ≤ l.length
  · rw [rchL_get ha]
    have hs : R[a]? = some (R[a]'(by omega)) := List.getElem?_eq_getElem (by omega)
    have h2 := h a ha
    rw [hs] at h2 ⊢
    congr 1
    rw [Bool.eq_iff_iff, rchB_true, ← h2]
    simp
  · rw [List.getElem?_eq_none (by omega), List.getElem?_eq_none (by rw [rchL_length]; omega)]
/-! ## By a list of places that are open -/
structure Dfs (l : List In) (R : List Bool) (O : List Nat) : Prop where
  len : R.length = l.length + 1
  le : ∀ o ∈ O, o ≤ l.length
  rS : ∀ a, R[a]? = some true → Rch l a
  oS : ∀ o ∈ O, Rch l o
  zero : R[0]? = some true ∨ 0 ∈ O
  clo : ∀ a, R[a]? = some true → ∀ b ∈ nextL l a, R[b]? = some true ∨ b ∈ O
def notYet (R : List Bool) : Nat := R.countP (fun b => !b)
theorem Dfs.start (l : List In) : Dfs l (List.replicate (l.length + 1) false) [0] := by
  refine ⟨by simp, fun o ho => by simp at ho; omega, fun a ha => ?_, fun o ho => by simp at ho; subst ho; exact .zero, .inr (by simp), fun a ha => ?_⟩
  · rw [List.getElem?_replicate] at ha; split at ha <;> simp at ha
  · rw [List.getElem?_replicate] at ha; split at ha <;> simp at ha
theorem Dfs.skip {l : List In} {R : List Bool} {O : List Nat} {a : Nat} (h : Dfs l R (O ++ [a])) (ha : R[a]? = some true) : Dfs l R O := by
  have hin : ∀ o ∈ O, o ∈ O ++ [a] := fun o ho => List.mem_append_left _ ho
  refine ⟨h.len, fun o ho => h.le o (hin o ho), h.rS, fun o ho => h.oS o (hin o ho), ?_, fun c hc b hb => ?_⟩
  · rcases h.zero with z | z
    · exact .inl z
    · rcases List.mem_append.1 z with z | z
      · exact .inr z
      · simp at z; subst z; exact .inl ha
  · rcases h.clo c hc b hb with z | z
    · exact .inl z
    · rcases List.mem_append.1 z with z | z
      · exact .inr z
      · simp at z; subst z; exact .inl ha
theorem Dfs.mark {l : List In} {R : List Bool} {O : List Nat} {a : Nat} (hk : okL l) (h : Dfs l R (O ++ [a])) (ha : R[a]? = some false) : Dfs l (R.set a true) (O ++ nextL l a) ∧ notYet (R.set a true) + 1 = notYet R := by
  have hal : a < R.length := (List.getElem?_eq_some_iff.1 ha).1
  have hra := h.oS a (by simp)
  have hget : ∀ c, (R.set a true)[c]? = some true ↔ c = a ∨ R[c]? = some true := fun c => by
    rw [List.getElem?_set]
    by_cases e : a = c
    · subst e; simp [hal]
    · rw [if_neg e]
      exact ⟨.inr, fun h => h.resolve_left (fun e2 => e e2.symm)⟩
  refine ⟨⟨by rw [List.length_set]; exact h.len, fun o ho => ?_, fun c hc => ?_, fun o ho => ?_, ?_, fun c hc b hb => ?_⟩, ?_⟩
  · rcases List.mem_append.1 ho with ho | ho
    · exact h.le o (List.mem_append_left _ ho)
    · exact nextL_le hk ho
  · rcases (hget c).1 hc with rfl | hc
    · exact hra
    · exact h.rS c hc
  · rcases List.mem_append.1 ho with ho | ho
    · exact h.oS o (List.mem_append_left _ ho)
    · exact hra.next ho
  · rcases h.zero with z | z
    · exact .inl ((hget 0).2 (.inr z))
    · rcases List.mem_append.1 z with z | z
      · exact .inr (List.mem_append_left _ z)
      · simp at z; exact .inl ((hget 0).2 (.inl z))
  · rcases (hget c).1 hc with rfl | hc
    · exact .inr (List.mem_append_right _ hb)
    · rcases h.clo c hc b hb with z | z
      · exact .inl ((hget b).2 (.inr z))
      · rcases List.mem_append.1 z with z | z
        · exact .inr (List.mem_append_left _ z)
        · simp at z; exact .inl ((hget b).2 (.inl z))
  · have he := (List.getElem?_eq_some_iff.1 ha).2
    unfold notYet
    have hp : 0 < R.countP (fun b => !b) := List.countP_pos_iff.2 ⟨false, by rw [← he]; exact List.getElem_mem hal, rfl⟩
    rw [List.countP_set hal, he]
    simp only [Bool.not_false, if_true, Bool.not_true, Bool.false_eq_true, if_false]
    omega
theorem Dfs.done {l : List In} {R : List Bool} (hk : okL l) (h : Dfs l R []) : R = rchL l := by
  refine rchL_of h.len (fun a ha => ⟨h.rS a, fun hr => ?_⟩)
  induction hr with
  | zero => exact h.zero.resolve_right (by simp)
  | next hr hb ih =>
    rename_i a b
    exact (h.clo a (ih (hr.le hk)) b hb).resolve_right (by simp)
/-! ## By rounds over all places -/
def markAll (R : List Bool) (bs : List Nat) : List Bool := bs.foldl (fun R b => R.set b true) R
def markR (l : List In) (R : List Bool) (a : Nat) : List Bool := if R[a]? = some true then markAll R (nextL l a) else R
def roundR (l : List In) (R : List Bool) : List Bool := (List.range (l.length + 1)).foldl (markR l) R
def roundsR (l : List In) : Nat → List Bool → List Bool
  | 0, R => R
  | k + 1, R => roundsR l k (roundR l R)
/-- Each that holds in the one holds in the other. -/
structure Le (R S : List Bool) : Prop where
  len : R.length = S.length
  le : ∀ a : Nat, R[a]? = some true → S[a]? = some true
theorem Le.refl (R : List Bool) : Le R R := ⟨rfl, fun _ h => h⟩
theorem Le.trans {R S T : List Bool} (h : Le R S) (k : Le S T) : Le R T := ⟨h.len.trans k.len, fun a ha => k.le a (h.le a ha)⟩
theorem Le.anti {R S : List Bool} (h : Le R S) (k : Le S R) : R = S := by
  apply List.ext_getElem?
  intro a
  by_cases ha : a < R.length
  · have e1 : R[a]? = some (R[a]'ha) := List.getElem?_eq_getElem ha
    have e2 : S[a]? = some (S[a]'(by rw [← h.len]; exact ha)) := List.getElem?_eq_getElem _
    have h1 := h.le a
    have h2 := k.le a
    rw [e1, e2] at h1 h2 ⊢
    simp at h1 h2 ⊢
    rw [Bool.eq_iff_iff]; exact ⟨h1, h2⟩
  · rw [List.getElem?_eq_none (by omega), List.getElem?_eq_none (by have := h.len; omega)]
theorem Le.set (R : List Bool) (b : Nat) : Le R (R.set b true) := ⟨by simp, fun a ha => by
  rw [List.getElem?_set]
  have := (List.getElem?_eq_some_iff.1 ha).1
  by_cases e : b = a
  · subst e; simp [this]
  · rw [if_neg e]; exact ha⟩
theorem Le.all (bs : List Nat) : ∀ R, Le R (markAll R bs) := by
  induction bs with
  | nil => exact Le.refl
  | cons b bs ih => exact fun R => (Le.set R b).trans (ih _)
theorem Le.mark (l : List In) (R : List Bool) (a : Nat) : Le R (markR l R a) := by
  unfold markR
  split
  · exact Le.all _ _
  · exact Le.refl _
theorem Le.folds (l : List In) : ∀ (al : List Nat) (R : List Bool), Le R (al.foldl (markR l) R)
  | [], R => Le.refl R
  | a :: al, R => (Le.mark l R a).trans (Le.folds l al _)
theorem markAll_in {b : Nat} : ∀ (bs : List Nat) (R : List Bool), b ∈ bs → b < R.length → (markAll R bs)[b]? = some true
  | [], _, h, _ => by cases h
  | c :: bs, R, h, hl => by
    show (markAll (R.set c true) bs)[b]? = some true
    by_cases e : b ∈ bs
    · exact markAll_in bs _ e (by simpa using hl)
    · have : b = c := (List.mem_cons.1 h).resolve_right e
      subst this
      exact (Le.all bs _).le b (by rw [List.getElem?_set_self hl])
theorem countP_le_of {R S : List Bool} (h : Le R S) : R.countP id ≤ S.countP id ∧ (R.countP id = S.countP id → R = S) := by
  have key : ∀ (R S : List Bool), R.length = S.length → (∀ a : Nat, R[a]? = some true → S[a]? = some true) → R.countP id ≤ S.countP id ∧ (R.countP id = S.countP id → R = S) := by
    intro R
    induction R with
    | nil => intro S hl _; cases S with | nil => simp | cons _ _ => simp at hl
    | cons r R ih =>
      intro S hl hle
      cases S with
      | nil => simp at hl
      | cons s S =>
        have h0 := hle 0
        simp at h0
        obtain ⟨i1, i2⟩ := ih S (by simpa using hl) (fun a ha => by simpa using hle (a + 1) (by simpa using ha))
        cases r <;> cases s <;> simp at h0 ⊢
        · exact ⟨i1, i2⟩
        · exact ⟨by omega, fun e => by omega⟩
        · exact ⟨i1, i2⟩
  exact key R S h.len h.le
structure Ref (l : List In) (R : List Bool) : Prop where
  len : R.length = l.length + 1
  rS : ∀ a, R[a]? = some true → Rch l a
  zero : R[0]? = some true
theorem Ref.all {l : List In} : ∀ (bs : List Nat) (R : List Bool), Ref l R → (∀ b ∈ bs, Rch l b) → Ref l (markAll R bs)
  | [], _, h, _ => h
  | b :: bs, R, h, hb => by
    refine Ref.all bs _ ⟨by rw [List.length_set]; exact h.len, fun a ha => ?_, (Le.set R b).le 0 h.zero⟩ (fun c hc => hb c (List.mem_cons_of_mem _ hc))
    rw [List.getElem?_set] at ha
    by_cases e : b = a
    · subst e; exact hb b List.mem_cons_self
    · rw [if_neg e] at ha; exact h.rS a ha
theorem Ref.mark {l : List In} {R : List Bool} (h : Ref l R) (a : Nat) : Ref l (markR l R a) := by
  unfold markR
  split
  · rename_i ha; exact Ref.all _ _ h (fun b hb => (h.rS a ha).next hb)
  · exact h
theorem Ref.folds {l : List In} : ∀ (al : List Nat) (R : List Bool), Ref l R → Ref l (al.foldl (markR l) R)
  | [], _, h => h
  | a :: al, R, h => Ref.folds al _ (h.mark a)
theorem Ref.start (l : List In) : Ref l ((List.replicate (l.length + 1) false).set 0 true) := by
  refine ⟨by simp, fun a ha => ?_, by simp⟩
  rw [List.getElem?_set] at ha
  by_cases e : 0 = a
  · subst e; exact .zero
  · rw [if_neg e, List.getElem?_replicate] at ha; split at ha <;> simp at ha
/-- A round that adds nothing: all is there. -/
theorem round_closed {l : List In} {R : List Bool} (hk : okL l) (h : Ref l R) (he : roundR l R = R) : ∀ a, R[a]? = some true → ∀ b ∈ nextL l a, R[b]? = some true := by
  intro a ha b hb
  have hal : a ∈ List.range (l.length + 1) := List.mem_range.2 (by have := (List.getElem?_eq_some_iff.1 ha).1; have := h.len; omega)
  obtain ⟨al, cs, e⟩ := List.append_of_mem hal
  have h1 : Le R (al.foldl (markR l) R) := Le.folds l al R
  have h2 : Le ((al.foldl (markR l) R)) R := by
    have h3 := Le.folds l (a :: cs) (al.foldl (markR l) R)
    rw [← List.foldl_append, ← e] at h3
    have h4 : (List.range (l.length + 1)).foldl (markR l) R = R := he
    rw [h4] at h3
    exact h3
  have h5 := h1.anti h2
  have h6 : Le (markR l R a) R := by
    have h3 := Le.folds l cs (markR l (al.foldl (markR l) R) a)
    have h7 : cs.foldl (markR l) (markR l (al.foldl (markR l) R) a) = R := by
      have h4 : (List.range (l.length + 1)).foldl (markR l) R = R := he
      rw [e, List.foldl_append, List.foldl_cons] at h4
      exact h4
    rw [h7, ← h5] at h3
    exact h3
  refine h6.le b ?_
  unfold markR
  rw [if_pos ha]
  exact markAll_in _ _ hb (by have := nextL_le hk hb; have := h.len; omega)
theorem Ref.done {l : List In} {R : List Bool} (hk : okL l) (h : Ref l R) (hc : ∀ a, R[a]? = some true → ∀ b ∈ nextL l a, R[b]? = some true) : R = rchL l := by
  refine rchL_of h.len (fun a ha => ⟨h.rS a, fun hr => ?_⟩)
  induction hr with
  | zero => exact h.zero
  | next hr hb ih =>
    rename_i a b
    exact hc a (ih (hr.le hk)) b hb
/-- Behind some rounds all is there, or al many al rounds, and one. -/
def RefK (l : List In) (k : Nat) (R : List Bool) : Prop := Ref l R ∧ (roundR l R = R ∨ k + 1 ≤ R.countP id)
theorem RefK.start (l : List In) : RefK l 0 ((List.replicate (l.length + 1) false).set 0 true) :=
  ⟨Ref.start l, .inr (List.countP_pos_iff.2 ⟨true, List.mem_of_getElem? (Ref.start l).zero, rfl⟩)⟩
theorem RefK.step {l : List In} {k : Nat} {R : List Bool} (h : RefK l k R) : RefK l (k + 1) (roundR l R) := by
  refine ⟨Ref.folds _ _ h.1, ?_⟩
  rcases h.2 with e | e
  · rw [e]; exact .inl e
  · by_cases e2 : roundR l R = R
    · rw [e2]; exact .inl e2
    · obtain ⟨h1, h2⟩ := countP_le_of (Le.folds l (List.range (l.length + 1)) R)
      right
      have : R.countP id ≠ (roundR l R).countP id := fun e3 => e2 (h2 e3).symm
      have h3 : R.countP id ≤ (roundR l R).countP id := h1
      omega
theorem RefK.done {l : List In} {R : List Bool} (hk : okL l) (h : RefK l (l.length + 1) R) : R = rchL l := by
  rcases h.2 with e | e
  · exact h.1.done hk (round_closed hk h.1 e)
  · have := List.countP_le_length (p := id) (l := R)
    have := h.1.len
    omega
end Go.Proofs.Yteecfffgigaomaa
