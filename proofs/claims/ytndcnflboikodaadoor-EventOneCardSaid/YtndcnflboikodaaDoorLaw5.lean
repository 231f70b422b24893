/-
  EventOne: its walk.
-/
import Derived.Test.YtndcnflboikodaaDoorLaw1
import Derived.Test.YtndcnflboikodaaDoorRelyx
import Derived.Maps.AppendAt
namespace Go.Proofs.YtndcnflboikodaaDoor
open Go.RowKit
set_option linter.unusedVariables false
set_option linter.unusedSimpArgs false
/-- Which of the values of 'x, y := append(append([]T{}, l...), a), append(append([]T{}, l...), b)' may share a block. -/
def grp (i : Nat) : Nat := if i = 0 ∨ i = 2 ∨ i = 5 ∨ i = 12 then 0 else if i = 6 ∨ i = 8 ∨ i = 11 ∨ i = 13 then 1 else if i = 4 then 2 else if i = 10 then 3 else 9
structure OneS (B : Nat) (w0 : World) (x : Nat → Value) (L : Nat → Bool) (q : World) : Prop where
  bel : Below B w0 q
  le : B ≤ q.heap.size
  lt : ∀ i g, L i = true → grp i < 9 → (x i).ownBlock = some g → g < q.heap.size
  ap : ∀ i j g, L i = true → L j = true → grp i < 9 → grp j < 9 → grp i ≠ grp j → (x i).ownBlock = some g → (x j).ownBlock ≠ some g
theorem updL_iff {L : Nat → Bool} {i k : Nat} : updL L i k = true ↔ k = i ∨ L k = true := by unfold updL; rw [Bool.or_eq_true, beq_iff_eq]
theorem updX_same {x : Nat → Value} {i : Nat} {v : Value} : updX x i v i = v := if_pos rfl
theorem updX_other {x : Nat → Value} {i k : Nat} {v : Value} (h : k ≠ i) : updX x i v k = x k := if_neg h
theorem OneS.pure {B : Nat} {w0 : World} {x : Nat → Value} {L : Nat → Bool} {q : World} {i : Nat} {v : Value} (hi : grp i = 9) (h : OneS B w0 x L q) : OneS B w0 (updX x i v) (updL L i) q := by
  refine ⟨h.bel, h.le, fun k g hk hg e => ?_, fun k j g hk hj hg1 hg2 hne e => ?_⟩
  · have hki : k ≠ i := fun e => by subst e; omega
    rw [updX_other hki] at e
    exact h.lt k g ((updL_iff.1 hk).resolve_left hki) hg e
  · have hki : k ≠ i := fun e => by subst e; omega
    have hji : j ≠ i := fun e => by subst e; omega
    rw [updX_other hki] at e
    rw [updX_other hji]
    exact h.ap k j g ((updL_iff.1 hk).resolve_left hki) ((updL_iff.1 hj).resolve_left hji) hg1 hg2 hne e
/-- A new block. -/
theorem OneS.fresh {B : Nat} {w0 : World} {x : Nat → Value} {L : Nat → Bool} {q : World} {i : Nat} {v : Value} {o : Obj} (hv : v.ownBlock = some q.heap.size) (h : OneS B w0 x L q) : OneS B w0 (updX x i v) (updL L i) (q.alloc o) := by
  refine ⟨h.bel.alloc h.le o, by have := h.le; simp; omega, fun k g hk hg e => ?_, fun k j g hk hj hg1 hg2 hne e => ?_⟩
  · by_cases hki : k = i
    · subst hki
      rw [updX_same, hv] at e
      injection e with e
      simp; omega
    · rw [updX_other hki] at e
      have := h.lt k g ((updL_iff.1 hk).resolve_left hki) hg e
      simp; omega
  · by_cases hki : k = i
    · subst hki
      have hji : j ≠ k := fun e => by subst e; exact hne rfl
      rw [updX_same, hv] at e
      injection e with e
      rw [updX_other hji]
      intro e2
      have := h.lt j g ((updL_iff.1 hj).resolve_left hji) hg2 e2
      omega
    · rw [updX_other hki] at e
      by_cases hji : j = i
      · subst hji
        rw [updX_same, hv]
        intro e2
        injection e2 with e2
        have := h.lt k g ((updL_iff.1 hk).resolve_left hki) hg1 e
        omega
      · rw [updX_other hji]
        exact h.ap k j g ((updL_iff.1 hk).resolve_left hki) ((updL_iff.1 hj).resolve_left hji) hg1 hg2 hne e
/-- An append to the row p. -/
theorem OneS.grow {B : Nat} {w0 : World} {x : Nat → Value} {L : Nat → Bool} {q q' : World} {i p : Nat} {v : Value} (h : OneS B w0 x L q) (hb : Below B q q') (hLp : L p = true) (hgp : grp p = grp i) (hg9 : grp i < 9)
    (hv : v.ownBlock = (x p).ownBlock ∨ (v.ownBlock = some q.heap.size ∧ q.heap.size < q'.heap.size)) : OneS B w0 (updX x i v) (updL L i) q' := by
  have hsz := hb.size
  refine ⟨h.bel.trans hb, Nat.le_trans h.le hsz, fun k g hk hg e => ?_, fun k j g hk hj hg1 hg2 hne e => ?_⟩
  · by_cases hki : k = i
    · subst hki
      rw [updX_same] at e
      rcases hv with hv | ⟨hv, hlt⟩
      · rw [hv] at e
        have := h.lt p g hLp (by omega) e
        omega
      · rw [hv] at e; injection e with e; omega
    · rw [updX_other hki] at e
      have := h.lt k g ((updL_iff.1 hk).resolve_left hki) hg e
      omega
  · by_cases hki : k = i
    · subst hki
      have hji : j ≠ k := fun e => by subst e; exact hne rfl
      have hLj := (updL_iff.1 hj).resolve_left hji
      rw [updX_same] at e
      rw [updX_other hji]
      rcases hv with hv | ⟨hv, hlt⟩
      · rw [hv] at e
        exact h.ap p j g hLp hLj (by omega) hg2 (by omega) e
      · rw [hv] at e
        injection e with e
        intro e2
        have := h.lt j g hLj hg2 e2
        omega
    · have hLk := (updL_iff.1 hk).resolve_left hki
      rw [updX_other hki] at e
      by_cases hji : j = i
      · subst hji
        rw [updX_same]
        rcases hv with hv | ⟨hv, hlt⟩
        · rw [hv]
          exact h.ap k p g hLk hLp hg1 (by omega) (by omega) e
        · rw [hv]
          intro e2
          injection e2 with e2
          have := h.lt k g hLk hg1 e
          omega
      · rw [updX_other hji]
        exact h.ap k j g hLk ((updL_iff.1 hj).resolve_left hji) hg1 hg2 hne e
def onV (B : Nat) (z : List Ev) (a b : Ev) (A : Option Addr) (c : Nat) : Nat → Value → World → Prop
  | 0, v, q => q.ownsRow B 24 5 v 0 []
  | 1, v, _ => v = .slice A z.length c
  | 2, v, q => q.ownsRow B 24 5 v z.length (rowsOf evF z)
  | 3, v, _ => v = .agg (evC a)
  | 4, v, q => ∃ g, v = .slice (some ⟨g, 0, none⟩) 1 1 ∧ Lies q g 24 (evC a)
  | 5, v, q => q.ownsRow B 24 5 v (z.length + 1) (rowsOf evF (z ++ [a]))
  | 6, v, q => q.ownsRow B 24 5 v 0 []
  | 7, v, _ => v = .slice A z.length c
  | 8, v, q => q.ownsRow B 24 5 v z.length (rowsOf evF z)
  | 9, v, _ => v = .agg (evC b)
  | 10, v, q => ∃ g, v = .slice (some ⟨g, 0, none⟩) 1 1 ∧ Lies q g 24 (evC b)
  | 11, v, q => q.ownsRow B 24 5 v (z.length + 1) (rowsOf evF (z ++ [b]))
  | 12, v, q => q.ownsRow B 24 5 v (z.length + 1) (rowsOf evF (z ++ [a]))
  | 13, v, q => q.ownsRow B 24 5 v (z.length + 1) (rowsOf evF (z ++ [b]))
  | _, _, _ => True
/-- What a fact on a value asks of a world's turning: its block stays. -/
theorem onV_kept {B : Nat} {z : List Ev} {a b : Ev} {A : Option Addr} {c : Nat} {S : Nat → Prop} {w w' : World} (k : Kept S w w') {j : Nat} {u : Value} (hn : ∀ g, u.ownBlock = some g → ¬ S g) (h : onV B z a b A c j u w) : onV B z a b A c j u w' := by
  match j with
  | 0 => exact owns_kept h k (fun r _ e _ => hn r e)
  | 1 => exact h
  | 2 => exact owns_kept h k (fun r _ e _ => hn r e)
  | 3 => exact h
  | 4 => obtain ⟨g, rfl, hl⟩ := h; exact ⟨g, rfl, hl.kept k (hn g rfl)⟩
  | 5 => exact owns_kept h k (fun r _ e _ => hn r e)
  | 6 => exact owns_kept h k (fun r _ e _ => hn r e)
  | 7 => exact h
  | 8 => exact owns_kept h k (fun r _ e _ => hn r e)
  | 9 => exact h
  | 10 => obtain ⟨g, rfl, hl⟩ := h; exact ⟨g, rfl, hl.kept k (hn g rfl)⟩
  | 11 => exact owns_kept h k (fun r _ e _ => hn r e)
  | 12 => exact owns_kept h k (fun r _ e _ => hn r e)
  | 13 => exact owns_kept h k (fun r _ e _ => hn r e)
  | _ + 14 => trivial
/-- Behind an append to the row p the values of the other rows stand as they did. -/
theorem onV_grow {B : Nat} {w0 : World} {z : List Ev} {a b : Ev} {A : Option Addr} {c : Nat} {x : Nat → Value} {L : Nat → Bool} {q q' : World} {p : Nat} (h : OneS B w0 x L q) (hg : q.grownBy q' (x p).ownBlock) (hLp : L p = true) (hp9 : grp p < 9) (js : List Nat) (hj : js.all (fun j => decide (j < 14) && ((j == 1) || ((j == 3) || ((j == 7) || ((j == 9) || (decide (grp j < 9) && (grp j != grp p))))))) = true) :
    ∀ j ∈ js, (j < 14 → L j = true) → onV B z a b A c j (x j) q → onV B z a b A c j (x j) q' := by
  intro j hjm hL hV
  have h1 := List.all_eq_true.1 hj j hjm
  simp only [Bool.and_eq_true, Bool.or_eq_true, decide_eq_true_eq, beq_iff_eq, bne_iff_ne] at h1
  obtain ⟨h14, h1 | h1 | h1 | h1 | ⟨h1, h2⟩⟩ := h1
  · subst h1; exact hV
  · subst h1; exact hV
  · subst h1; exact hV
  · subst h1; exact hV
  · exact onV_kept (Kept.of_grown hg) (fun g hu hs => h.ap p j g hLp (hL h14) hp9 h1 (fun e => h2 e.symm) hs hu) hV
theorem append_argS_at {P : Program} {ops : Array Oper} {rest : List Oper} {o : Oper} {a : Act} {Q : Exit → Act → World → Prop} (w : World) (sz : Nat)
    (hg : o.guard = none) (s y : Operand) (t : TypeId) (hop : o.op = Op.call { callee := Callee.builtin Builtin.append, args := #[s, y], argTypes := #[t, t] })
    (base : Nat) (e : TypeId) (z : Value) (bytes : Nat) (ht : P.underlying t = some (.slice e)) (hi : (P.info? e).map (fun i => (i.zero, i.size, i.bytes)) = some (some z, sz, bytes))
    (hzs : z.cells.size = sz) (hsz : 0 < sz)
    (v : Value) (n : Nat) (ys : List Value) (hs : a.eval s = v) (hown : w.ownsRow base e sz v n ys) (A : Option Addr) (len cap : Nat) (hy : a.eval y = .slice A len cap)
    (xs : List Value) (hx : SeqS w sz (.slice A len cap) len xs) (h1 : ∀ u ∈ xs, u.oneCell' = true)
    (b1 : n + len ≤ maxLen) (b2 : (n + len) * bytes ≤ 140737488355328) (b3 : base ≤ w.heap.size)
    (hK : ∀ v' w', w'.ownsRow base e sz v' (n + len) (ys ++ xs) → Below base w w' → w.grownBy w' v.ownBlock → (v'.ownBlock = v.ownBlock ∨ (v'.ownBlock = some w.heap.size ∧ w.heap.size < w'.heap.size)) → wpList P ops Q rest (a.put o.dst v') w') :
    wpList P ops Q (o :: rest) a w := by
  obtain ⟨i0, hi, hz0, hz1, hz2⟩ := info_parts hi
  obtain ⟨hl, A', c', e1, hlc, hcm, h0, hcell⟩ := hx
  simp only [Value.slice.injEq, true_and] at e1
  obtain ⟨rfl, rfl⟩ := e1
  cases A with
  | none =>
    have hc0 := h0 rfl
    subst hc0
    obtain rfl : len = 0 := by omega
    have hx0 : xs = [] := List.length_eq_zero_iff.1 (by simpa using hl)
    subst hx0
    refine wpList_append_own_none hg s y t hop base e i0 sz ht hi v n ys hs hown hy ?_
    exact hK v w (by simpa using hown) (Below.refl _ _) ⟨rfl, rfl, rfl, Nat.le_refl _, fun _ _ _ => rfl⟩ (.inl rfl)
  | some ad =>
    refine wpList_append_own_at _ hg s y t hop base e i0 z sz bytes ht hi hz0 hz1 hz2 hzs hsz v n ys hs hown ad len cap xs hy hl ?_ h1 b1 b2 b3 ?_
    · intro j u hj
      obtain ⟨b, off, he, hc⟩ := hcell j u hj
      injection he with he
      subst he
      rw [addr_plus]; exact hc
    · intro v' w' ho hgr _ hat
      refine hK v' w' ho ((Below.refl _ _).grown hgr b3 (fun k hk => (hown.lt k hk).1)) hgr ?_
      rcases hat with hat | hat
      · exact .inl hat
      · exact .inr ⟨hat, (ho.lt _ hat).2⟩
end Go.Proofs.YtndcnflboikodaaDoor
