/-
  Rows of elements of more cells than one: of the call's own, and such as came along.
-/
import Derived.Test.YtahojmioonpodaaKit
import Derived.Laws.OwnMore
namespace Go.Proofs.Ytahojmioonpodaa
open Go.RowKit
set_option linter.unusedVariables false
set_option linter.unusedSimpArgs false
/-- The slice value v leads to n elements of sz cells each: xs. -/
def SeqS (w : World) (sz : Nat) (v : Value) (n : Nat) (xs : List Value) : Prop :=
  xs.length = n * sz ∧ ∃ A c, v = .slice A n c ∧ n ≤ c ∧ c ≤ maxLen ∧ (A = none → c = 0) ∧ ∀ k u, xs[k]? = some u → ∃ b off, A = some ⟨b, off, none⟩ ∧ w.cell? ⟨b, off + k, none⟩ = some u
section
variable {w w' : World} {B : Nat} {e : TypeId} {sz n : Nat} {v : Value} {xs : List Value}
theorem SeqS.of_owns (h : w.ownsRow B e sz v n xs) : SeqS w sz v n xs := by
  refine ⟨h.1, ?_⟩
  rcases owns_row h with ⟨rfl, h0, rfl⟩ | ⟨r, cap, cur, rfl, _, _, h1, h2⟩
  · subst h0
    exact ⟨none, 0, rfl, Nat.le_refl _, by unfold maxLen; omega, fun _ => rfl, fun k u hu => by simp at hu⟩
  · exact ⟨_, cap, rfl, h1, h2, (fun h => by cases h), fun k u hu => ⟨r, 0, rfl, by
      have := h.cells (g := r) rfl k u hu
      rw [addr_add] at this
      rw [Nat.zero_add]; exact this⟩⟩
theorem SeqS.later (h : SeqS w sz v n xs) (hb : Below w.heap.size w w') : SeqS w' sz v n xs := by
  obtain ⟨h1, A, c, rfl, h2, h3, h0, h4⟩ := h
  refine ⟨h1, A, c, rfl, h2, h3, h0, fun k u hu => ?_⟩
  obtain ⟨b, off, rfl, hc⟩ := h4 k u hu
  exact ⟨b, off, rfl, (hb.cell (p := ⟨b, off + k, none⟩) (World.block_lt_of_cell? w _ hc)).trans hc⟩
theorem SeqS.nil (w : World) (sz : Nat) : SeqS w sz (.slice none 0 0) 0 [] := ⟨by simp, none, 0, rfl, Nat.le_refl _, by unfold maxLen; omega, fun _ => rfl, fun k u hu => by simp at hu⟩
/-- Of one element: its place, and its cells. -/
theorem SeqS.elem (h : SeqS w sz v n xs) {i : Nat} (hi : i < n) (hz : 0 < sz) : ∃ b off c, v = .slice (some ⟨b, off, none⟩) n c ∧ n ≤ c ∧ c ≤ maxLen ∧ ∀ j u, j < sz → xs[i * sz + j]? = some u → w.cell? ⟨b, off + i * sz + j, none⟩ = some u := by
  obtain ⟨h1, A, c, rfl, h2, h3, _, h4⟩ := h
  have hl : i * sz < xs.length := by rw [h1]; exact Nat.mul_lt_mul_of_pos_right hi hz
  obtain ⟨b, off, rfl, _⟩ := h4 (i * sz) _ (List.getElem?_eq_getElem hl)
  refine ⟨b, off, c, rfl, h2, h3, fun j u hj hu => ?_⟩
  obtain ⟨b', off', e, hc⟩ := h4 _ u hu
  cases e
  rw [Nat.add_assoc]; exact hc
theorem SeqS.form (h : SeqS w sz v n xs) : ∃ A c, v = .slice A n c ∧ n ≤ c ∧ c ≤ maxLen ∧ (A = none → c = 0) := by
  obtain ⟨h1, A, c, rfl, h2, h3, h0, _⟩ := h
  exact ⟨A, c, rfl, h2, h3, h0⟩
/-- What a row of the call's own is, if it isn't empty. -/
theorem owns_openS (h : w.ownsRow B e sz v n xs) (hn : 0 < n) : ∃ g cap, v = .slice (some ⟨g, 0, none⟩) n cap ∧ B ≤ g ∧ g < w.heap.size ∧ n ≤ cap ∧ cap ≤ maxLen := by
  rcases owns_row h with ⟨_, h0, _⟩ | ⟨r, cap, cur, rfl, hb, hl, h1, h2⟩
  · omega
  · exact ⟨r, cap, rfl, hb, hl.lt, h1, h2⟩
end
/-- 'append(out, x)', one element of sz cells. -/
theorem append_oneS {P : Program} {ops : Array Oper} {rest : List Oper} {o : Oper} {a : Act} {Q : Exit → Act → World → Prop} (w : World) (x : Array Value) (sz : Nat)
    (hg : o.guard = none) (s y : Operand) (t : TypeId) (hop : o.op = Op.call { callee := Callee.builtin Builtin.append, args := #[s, y], argTypes := #[t, t] })
    (base : Nat) (e : TypeId) (z : Value) (bytes : Nat) (ht : P.underlying t = some (.slice e)) (hi : (P.info? e).map (fun i => (i.zero, i.size, i.bytes)) = some (some z, sz, bytes))
    (hzs : z.cells.size = sz) (hsz : 0 < sz) (hxs : x.size = sz) (hx1 : ∀ u ∈ x.toList, u.oneCell' = true)
    (v : Value) (n : Nat) (xs : List Value) (hs : a.eval s = v) (hown : w.ownsRow base e sz v n xs) (hy : a.eval y = .slice (some ⟨w.heap.size, 0, none⟩) 1 1)
    (b1 : n + 1 ≤ maxLen) (b2 : (n + 1) * bytes ≤ 140737488355328) (b3 : base ≤ w.heap.size)
    (hK : ∀ v' w', w'.ownsRow base e sz v' (n + 1) (xs ++ x.toList) → Below base w w' → (w.alloc (.cells x e)).grownBy w' v.ownBlock → wpList P ops Q rest (a.put o.dst v') w') :
    wpList P ops Q (o :: rest) a (w.alloc (.cells x e)) := by
  obtain ⟨i0, hi, hz0, hz1, hz2⟩ := info_parts hi
  refine wpList_append_own _ hg s y t hop base e i0 z sz bytes ht hi hz0 hz1 hz2 hzs hsz v n xs hs (hown.alloc _) ⟨w.heap.size, 0, none⟩ 1 1 x.toList hy (by simp [hxs]) ?_ hx1 b1 b2 (by simp; omega) ?_
  · intro j u hj
    rw [addr_add, (Lies.made w e x).cell j]
    simpa using hj
  · intro v' w' ho hgr _
    exact hK v' w' ho (below_of_grown hown b3 hgr) hgr
/-- Pairs of numbers as cells. -/
def cells2 (l : List (Nat × Nat)) : List Value := l.flatMap fun p => [Value.int .u64 (p.1 : Int), Value.int .u64 (p.2 : Int)]
theorem cells2_length (l : List (Nat × Nat)) : (cells2 l).length = l.length * 2 := by
  induction l with
  | nil => rfl
  | cons p l ih => simp only [cells2, List.flatMap_cons, List.length_append, List.length_cons, List.length_nil] at *; omega
theorem cells2_append (l m : List (Nat × Nat)) : cells2 (l ++ m) = cells2 l ++ cells2 m := by simp [cells2]
theorem cells2_one (a b : Nat) : cells2 [(a, b)] = [Value.int .u64 (a : Int), Value.int .u64 (b : Int)] := rfl
theorem cells2_get : ∀ {l : List (Nat × Nat)} {i : Nat} {p : Nat × Nat}, l[i]? = some p → (cells2 l)[i * 2 + 0]? = some (Value.int .u64 (p.1 : Int)) ∧ (cells2 l)[i * 2 + 1]? = some (Value.int .u64 (p.2 : Int))
  | q :: l, 0, p, h => by simp at h; subst h; exact ⟨rfl, rfl⟩
  | q :: l, i + 1, p, h => by
    have := cells2_get (l := l) (i := i) (p := p) (by simpa using h)
    rw [show (i + 1) * 2 + 0 = (i * 2 + 0) + 1 + 1 by omega, show (i + 1) * 2 + 1 = (i * 2 + 1) + 1 + 1 by omega]
    exact this
theorem cells2_set (l : List (Nat × Nat)) (a b c : Nat) : (cells2 (l ++ [(a, b)])).set (l.length * 2 + 1) (Value.int .u64 (c : Int)) = cells2 (l ++ [(a, c)]) := by
  rw [cells2_append, List.set_append_right _ _ (by rw [cells2_length]; omega), cells2_length, show l.length * 2 + 1 - l.length * 2 = 1 by omega, cells2_append]
  rfl
/-- The last one of a row of pairs, and its second part turned. -/
theorem own_last {w : World} {B : Nat} {e : TypeId} {g n cap x y : Nat} {d : List (Nat × Nat)} (h : w.ownsRow B e 2 (.slice (some ⟨g, 0, none⟩) n cap) n (cells2 (d ++ [(x, y)]))) (hn : n = d.length + 1) :
    w.cell? ⟨g, d.length * 2, none⟩ = some (.int .u64 (x : Int)) ∧ w.cell? ⟨g, d.length * 2 + 1, none⟩ = some (.int .u64 (y : Int)) ∧ w.frozen? ⟨g, d.length * 2 + 1, none⟩ = false ∧
      ∀ z : Nat, (w.setCell ⟨g, d.length * 2 + 1, none⟩ (.int .u64 (z : Int))).ownsRow B e 2 (.slice (some ⟨g, 0, none⟩) n cap) n (cells2 (d ++ [(x, z)])) := by
  obtain ⟨h1, h2⟩ := cells2_get (l := d ++ [(x, y)]) (i := d.length) (p := (x, y)) (by simp)
  refine ⟨?_, ?_, h.frozenAt _, fun z => ?_⟩
  · rw [h.cellAt _ (by omega), ← h1, Nat.add_zero]
  · rw [h.cellAt _ (by omega), h2]
  · have := (h.stored (d.length * 2 + 1) (.int .u64 (z : Int))).1
    rwa [cells2_set] at this
/-- 's[:k]'. -/
theorem SeqS.front {w : World} {sz n c : Nat} {A : Option Addr} {xs : List Value} (h : SeqS w sz (.slice A n c) n xs) {k : Nat} (hk : k ≤ n) : SeqS w sz (.slice A k c) k (xs.take (k * sz)) := by
  obtain ⟨h1, A', c', e, h2, h3, h0, h4⟩ := h
  simp only [Value.slice.injEq, true_and] at e
  obtain ⟨rfl, rfl⟩ := e
  have hm : k * sz ≤ n * sz := Nat.mul_le_mul_right sz hk
  refine ⟨by rw [List.length_take]; omega, A, c, rfl, by omega, h3, h0, fun j u hu => ?_⟩
  rw [List.getElem?_take] at hu
  split at hu
  · exact h4 j u hu
  · cases hu
theorem cells2_take (l : List (Nat × Nat)) (k : Nat) : cells2 (l.take k) = (cells2 l).take (k * 2) := by
  induction k generalizing l with
  | zero => simp [cells2]
  | succ k ih =>
    cases l with
    | nil => simp [cells2]
    | cons p l =>
      have := ih l
      rw [show (k + 1) * 2 = k * 2 + 1 + 1 by omega]
      simp only [cells2, List.take_succ_cons, List.flatMap_cons] at this ⊢
      rw [this]; rfl
theorem SeqS.front2 {w : World} {n c : Nat} {A : Option Addr} {rs : List (Nat × Nat)} (h : SeqS w 2 (.slice A n c) n (cells2 rs)) (hn : n = rs.length) {k : Nat} (hk : k ≤ n) :
    SeqS w 2 (.slice A k c) (rs.take k).length (cells2 (rs.take k)) := by
  rw [cells2_take, List.length_take, Nat.min_eq_left (by omega)]
  exact h.front hk
theorem SeqS.drewN {w : World} {sz n : Nat} {v : Value} {xs : List Value} (h : SeqS w sz v n xs) (k : Nat) : SeqS (w.drewN k) sz v n xs := h
theorem SeqS.drew {w : World} {sz n : Nat} {v : Value} {xs : List Value} (h : SeqS w sz v n xs) : SeqS w.drew sz v n xs := h
/-- 'append(out, l...)', elements of sz cells; out a row of the call's own, l a list that lies elsewhere or is nil. -/
theorem append_argS {P : Program} {ops : Array Oper} {rest : List Oper} {o : Oper} {a : Act} {Q : Exit → Act → World → Prop} (w : World) (sz : Nat)
    (hg : o.guard = none) (s y : Operand) (t : TypeId) (hop : o.op = Op.call { callee := Callee.builtin Builtin.append, args := #[s, y], argTypes := #[t, t] })
    (base : Nat) (e : TypeId) (z : Value) (bytes : Nat) (ht : P.underlying t = some (.slice e)) (hi : (P.info? e).map (fun i => (i.zero, i.size, i.bytes)) = some (some z, sz, bytes))
    (hzs : z.cells.size = sz) (hsz : 0 < sz)
    (v : Value) (n : Nat) (ys : List Value) (hs : a.eval s = v) (hown : w.ownsRow base e sz v n ys) (A : Option Addr) (len cap : Nat) (hy : a.eval y = .slice A len cap)
    (xs : List Value) (hx : SeqS w sz (.slice A len cap) len xs) (h1 : ∀ u ∈ xs, u.oneCell' = true)
    (b1 : n + len ≤ maxLen) (b2 : (n + len) * bytes ≤ 140737488355328) (b3 : base ≤ w.heap.size)
    (hK : ∀ v' w', w'.ownsRow base e sz v' (n + len) (ys ++ xs) → Below base w w' → w.grownBy w' v.ownBlock → wpList P ops Q rest (a.put o.dst v') w') :
    wpList P ops Q (o :: rest) a w := by
  obtain ⟨i0, hi, hz0, hz1, hz2⟩ := info_parts hi
  obtain ⟨hl, A', c', e1, hlc, hcm, h0, hcell⟩ := hx
  simp only [Value.slice.injEq, true_and] at e1
  obtain ⟨rfl, rfl⟩ := e1
  cases A with
  | none =>
    have hc0 := h0 rfl
    subst hc0
    obtain rfl : len = 0 := by omega
    have hx0 : xs = [] := List.length_eq_zero_iff.1 (by simpa using hl)
    subst hx0
    refine wpList_append_own_none hg s y t hop base e i0 sz ht hi v n ys hs hown hy ?_
    exact hK v w (by simpa using hown) (Below.refl _ _) ⟨rfl, rfl, rfl, Nat.le_refl _, fun _ _ _ => rfl⟩
  | some ad =>
    refine wpList_append_own _ hg s y t hop base e i0 z sz bytes ht hi hz0 hz1 hz2 hzs hsz v n ys hs hown ad len cap xs hy hl ?_ h1 b1 b2 b3 ?_
    · intro j u hj
      obtain ⟨b, off, he, hc⟩ := hcell j u hj
      injection he with he
      subst he
      rw [addr_plus]; exact hc
    · intro v' w' ho hgr _
      exact hK v' w' ho ((Below.refl _ _).grown hgr b3 (fun k hk => (hown.lt k hk).1)) hgr
theorem cells2_one' (l : List (Nat × Nat)) : ∀ u ∈ cells2 l, u.oneCell' = true := fun u hu => by
  obtain ⟨p, _, hp⟩ := List.mem_flatMap.1 hu
  simp at hp
  rcases hp with rfl | rfl <;> rfl
theorem SeqS.rest2 {w : World} {b o n cp : Nat} {p : Nat × Nat} {rs : List (Nat × Nat)} (h : SeqS w 2 (.slice (some ⟨b, o, none⟩) (n + 1) cp) (n + 1) (cells2 (p :: rs))) : SeqS w 2 (.slice (some ⟨b, o + 2, none⟩) n (cp - 1)) n (cells2 rs) := by
  obtain ⟨h1, A, c, e, h2, h3, _, h4⟩ := h
  simp only [Value.slice.injEq, true_and] at e
  obtain ⟨rfl, rfl⟩ := e
  have hl : (cells2 (p :: rs)).length = (cells2 rs).length + 2 := by simp [cells2]
  refine ⟨by omega, _, cp - 1, rfl, by omega, by omega, fun h => (by cases h), fun k u hu => ?_⟩
  obtain ⟨b', o', e, hc⟩ := h4 (k + 1 + 1) u (by simpa [cells2] using hu)
  simp only [Option.some.injEq, Addr.mk.injEq, and_true] at e
  obtain ⟨rfl, rfl⟩ := e
  exact ⟨b, o + 2, rfl, by rw [show o + 2 + k = o + (k + 1 + 1) by omega]; exact hc⟩
theorem SeqS.none2 {w : World} {b o : Nat} : SeqS w 2 (.slice (some ⟨b, o, none⟩) 0 0) 0 [] := ⟨by simp, _, 0, rfl, Nat.le_refl _, by unfold maxLen; omega, fun _ => rfl, fun k u hu => by simp at hu⟩
end Go.Proofs.Ytahojmioonpodaa
