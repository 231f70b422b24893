/-
  Rows of elements of any one width, told by a function from element to cells: lengths, places, joins, stores; and structs of integers that came along.
-/
import Derived.Test.YtahojmioonpodaaArgrows
namespace Go.Proofs.Ytahojmioonpodaa
open Go.RowKit
set_option linter.unusedVariables false
set_option linter.unusedSimpArgs false
section
variable {α : Type} {f : α → List Value} {sz : Nat}
def rowsOf (f : α → List Value) (l : List α) : List Value := l.flatMap f
theorem rowsOf_length (hf : ∀ x, (f x).length = sz) (l : List α) : (rowsOf f l).length = l.length * sz := by
  induction l with
  | nil => simp [rowsOf]
  | cons a l ih => simp only [rowsOf, List.flatMap_cons, List.length_append, List.length_cons, Nat.add_mul, hf] at *; omega
theorem rowsOf_append (l m : List α) : rowsOf f (l ++ m) = rowsOf f l ++ rowsOf f m := by simp [rowsOf]
theorem rowsOf_one (a : α) : rowsOf f [a] = f a := by simp [rowsOf]
theorem rowsOf_cons (a : α) (l : List α) : rowsOf f (a :: l) = f a ++ rowsOf f l := by simp [rowsOf]
theorem rowsOf_get (hf : ∀ x, (f x).length = sz) : ∀ {l : List α} {i : Nat} {x : α} (_ : l[i]? = some x) {j : Nat} (_ : j < sz), (rowsOf f l)[i * sz + j]? = (f x)[j]?
  | a :: l, 0, x, h, j, hj => by
    simp at h; subst h
    rw [rowsOf_cons, Nat.zero_mul, Nat.zero_add, List.getElem?_append_left (by rw [hf]; exact hj)]
  | a :: l, i + 1, x, h, j, hj => by
    rw [rowsOf_cons, List.getElem?_append_right (by rw [hf, Nat.add_mul]; omega), hf, show (i + 1) * sz + j - sz = i * sz + j by rw [Nat.add_mul]; omega]
    exact rowsOf_get hf (by simpa using h) hj
theorem rowsOf_take (hf : ∀ x, (f x).length = sz) (l : List α) (k : Nat) : rowsOf f (l.take k) = (rowsOf f l).take (k * sz) := by
  induction k generalizing l with
  | zero => simp [rowsOf]
  | succ k ih =>
    cases l with
    | nil => simp [rowsOf]
    | cons a l => rw [List.take_succ_cons, rowsOf_cons, rowsOf_cons, ih, Nat.add_mul, Nat.one_mul, Nat.add_comm, List.take_append, hf, List.take_of_length_le (l := f a) (by rw [hf]; omega), Nat.add_sub_cancel_left]
theorem rowsOf_drop (hf : ∀ x, (f x).length = sz) (l : List α) (k : Nat) : rowsOf f (l.drop k) = (rowsOf f l).drop (k * sz) := by
  induction k generalizing l with
  | zero => simp
  | succ k ih =>
    cases l with
    | nil => simp [rowsOf]
    | cons a l => rw [List.drop_succ_cons, rowsOf_cons, ih, Nat.add_mul, Nat.one_mul, Nat.add_comm, List.drop_append, hf, List.drop_of_length_le (l := f a) (by rw [hf]; omega), List.nil_append, Nat.add_sub_cancel_left]
/-- All cells of one element turned. -/
theorem rowsOf_set (hf : ∀ x, (f x).length = sz) (l : List α) (i : Nat) (x : α) (h : i < l.length) : (rowsOf f l).take (i * sz) ++ f x ++ (rowsOf f l).drop ((i + 1) * sz) = rowsOf f (l.set i x) := by
  rw [← rowsOf_take hf, ← rowsOf_drop hf, ← rowsOf_one (f := f) x, ← rowsOf_append, ← rowsOf_append]
  congr 1
  rw [List.set_eq_take_append_cons_drop, if_pos h]; simp
/-- One cell of one element turned. -/
theorem rowsOf_set1 (hf : ∀ x, (f x).length = sz) : ∀ {l : List α} {i : Nat} {x y : α} {j : Nat} {u : Value} (_ : l[i]? = some x) (_ : j < sz) (_ : f y = (f x).set j u), (rowsOf f l).set (i * sz + j) u = rowsOf f (l.set i y)
  | a :: l, 0, x, y, j, u, h, hj, hy => by
    simp at h; subst h
    rw [rowsOf_cons, Nat.zero_mul, Nat.zero_add, List.set_append_left _ _ (by rw [hf]; exact hj), ← hy, List.set_cons_zero, rowsOf_cons]
  | a :: l, i + 1, x, y, j, u, h, hj, hy => by
    rw [rowsOf_cons, List.set_append_right _ _ (by rw [hf, Nat.add_mul]; omega), hf, show (i + 1) * sz + j - sz = i * sz + j by rw [Nat.add_mul]; omega, rowsOf_set1 hf (by simpa using h) hj hy, List.set_cons_succ, rowsOf_cons]
theorem rowsOf_mem {l : List α} {u : Value} (h : u ∈ rowsOf f l) : ∃ x ∈ l, u ∈ f x := List.mem_flatMap.1 h
theorem rowsOf_inj (hf : ∀ x, (f x).length = sz) (hs : 0 < sz) (hi : ∀ x y, f x = f y → x = y) : ∀ (l m : List α), rowsOf f l = rowsOf f m → l = m
  | [], [], _ => rfl
  | [], b :: m, h => by have := congrArg List.length h; rw [rowsOf_cons, List.length_append, hf] at this; simp [rowsOf] at this; omega
  | a :: l, [], h => by have := congrArg List.length h; rw [rowsOf_cons, List.length_append, hf] at this; simp [rowsOf] at this; omega
  | a :: l, b :: m, h => by
    rw [rowsOf_cons, rowsOf_cons] at h
    obtain ⟨h1, h2⟩ := List.append_inj h (by rw [hf, hf])
    rw [hi _ _ h1, rowsOf_inj hf hs hi l m h2]
/-- One element of a slice that reads so. -/
theorem SeqS.at_ {w : World} {A : Option Addr} {n c : Nat} {l : List α} (hf : ∀ x, (f x).length = sz) (hs : 0 < sz) (h : SeqS w sz (.slice A n c) n (rowsOf f l)) {k : Nat} {x : α} (hx : l[k]? = some x) :
    ∃ b off, A = some ⟨b, off, none⟩ ∧ b < w.heap.size ∧ ∀ j u, j < sz → (f x)[j]? = some u → w.cell? ⟨b, off + k * sz + j, none⟩ = some u := by
  have hk : k < n := by
    have h1 := h.1
    rw [rowsOf_length hf] at h1
    have := Nat.eq_of_mul_eq_mul_right hs h1
    rw [← this]; exact (List.getElem?_eq_some_iff.1 hx).1
  obtain ⟨b, off, c', hA, _, _, hc⟩ := h.elem (i := k) hk hs
  simp only [Value.slice.injEq] at hA
  obtain ⟨rfl, _, _⟩ := hA
  have hg := fun j u hj hu => hc j u hj (by rw [rowsOf_get hf hx hj]; exact hu)
  refine ⟨b, off, rfl, ?_, hg⟩
  have hl := hf x
  exact World.block_lt_of_cell? w _ (hg 0 _ hs (List.getElem?_eq_getElem (by omega)))
theorem SeqS.len_ {w : World} {v : Value} {n : Nat} {l : List α} (hf : ∀ x, (f x).length = sz) (hs : 0 < sz) (h : SeqS w sz v n (rowsOf f l)) : l.length = n := by
  have h1 := h.1
  rw [rowsOf_length hf] at h1
  exact Nat.eq_of_mul_eq_mul_right hs h1
theorem range_rows (g : Nat → α) (n : Nat) : (List.range n).flatMap (fun i => f (g i)) = rowsOf f ((List.range n).map g) := by unfold rowsOf; rw [List.flatMap_map]
end
section
variable {P : Program} {W : World} {H : Type} {enc : TypeId × Value → H}
/-- One field of a struct that is an integer of one cell. -/
def IntField (P : Program) (k : IntKind) (i : Nat) (f : Field) : Prop := P.underlying f.type = some (.int k) ∧ f.offset = i ∧ P.cellsOf f.type = 1
theorem int_field {e : TypeId} {fs : Array Field} {n : Nat} {cs : List Value} {y : DataW H × List MemPlace} (he : P.underlying e = some (.struct fs)) (h : DataW.trod enc P W 0 (fun _ => true) true n e cs = some y)
    {i : Nat} {f : Field} {k : IntKind} (hf : fs[i]? = some f) (hk : IntField P k i f) : ∃ z, cs[i]? = some (.int k z) ∧ (Lit.int k z).wf = true := by
  obtain ⟨xs, m, _, _, hl, hn, hx⟩ := DataW.trod_struct he h
  obtain ⟨k1, k2, k3⟩ := hk
  have := hx i f hf
  rw [k2, k3] at this
  have hi : i < xs.length := by rw [hn]; exact (Array.getElem?_eq_some_iff.1 hf).1
  rw [List.getElem?_eq_getElem hi] at this
  obtain ⟨z, e1, _, e2⟩ := DataW.trod_int k1 this
  refine ⟨z, ?_, e2⟩
  have e3 : ((cs.drop i).take 1)[0]? = some (.int k z) := by rw [e1]; rfl
  rw [List.getElem?_take, if_pos (by decide), List.getElem?_drop] at e3
  exact e3
def BoolField (P : Program) (i : Nat) (f : Field) : Prop := P.underlying f.type = some .bool ∧ f.offset = i ∧ P.cellsOf f.type = 1
theorem bool_field {e : TypeId} {fs : Array Field} {n : Nat} {cs : List Value} {y : DataW H × List MemPlace} (he : P.underlying e = some (.struct fs)) (h : DataW.trod enc P W 0 (fun _ => true) true n e cs = some y)
    {i : Nat} {f : Field} (hf : fs[i]? = some f) (hk : BoolField P i f) : ∃ z, cs[i]? = some (.bool z) := by
  obtain ⟨xs, m, _, _, hl, hn, hx⟩ := DataW.trod_struct he h
  obtain ⟨k1, k2, k3⟩ := hk
  have := hx i f hf
  rw [k2, k3] at this
  have hi : i < xs.length := by rw [hn]; exact (Array.getElem?_eq_some_iff.1 hf).1
  rw [List.getElem?_eq_getElem hi] at this
  obtain ⟨z, e1, _⟩ := DataW.trod_bool k1 this
  refine ⟨z, ?_⟩
  have e3 : ((cs.drop i).take 1)[0]? = some (.bool z) := by rw [e1]; rfl
  rw [List.getElem?_take, if_pos (by decide), List.getElem?_drop] at e3
  exact e3
theorem list3 {α : Type} {l : List α} (h : l.length = 3) : ∃ a b c, l = [a, b, c] := by
  match l, h with | [a, b, c], _ => exact ⟨a, b, c, rfl⟩
theorem list4 {α : Type} {l : List α} (h : l.length = 4) : ∃ a b c d, l = [a, b, c, d] := by
  match l, h with | [a, b, c, d], _ => exact ⟨a, b, c, d, rfl⟩
theorem list5 {α : Type} {l : List α} (h : l.length = 5) : ∃ a b c d e, l = [a, b, c, d, e] := by
  match l, h with | [a, b, c, d, e], _ => exact ⟨a, b, c, d, e, rfl⟩
theorem list6 {α : Type} {l : List α} (h : l.length = 6) : ∃ a b c d e f, l = [a, b, c, d, e, f] := by
  match l, h with | [a, b, c, d, e, f], _ => exact ⟨a, b, c, d, e, f, rfl⟩
/-- A slice of structs that came along, as a list of what they hold. -/
def ArgOf {α : Type} (f : α → List Value) (sz : Nat) (ok : α → Prop) (w : World) (a : Option Addr) (len cap : Nat) (l : List α) : Prop :=
  (a = none → len = 0 ∧ cap = 0) ∧ l.length = len ∧ SeqS w sz (.slice a len cap) len (rowsOf f l) ∧ ∀ x ∈ l, ok x
theorem argOf {α : Type} [Inhabited α] {f : α → List Value} {sz : Nat} {ok : α → Prop} {t e : TypeId} {a : Option Addr} {len cap : Nat} {d : DataW H} {p : List MemPlace} (ht : P.underlying t = some (.slice e)) (hc : P.cellsOf e = sz) (hsz : 0 < sz)
    (hopen : ∀ n cs y, cs.length = sz → DataW.trod enc P W 0 (fun _ => true) true n e cs = some y → ∃ x, cs = f x ∧ ok x)
    (h : DataW.Trod enc P W 0 (fun _ => true) true t (.slice a len cap) d p) : ∃ l, ArgOf f sz ok W a len cap l := by
  obtain ⟨h1, rows, h2, h3⟩ := argRows (sz := sz) ht hc hsz h
  obtain ⟨z, hz⟩ := Deep.choose_lt (α := α) (n := len) (p := fun i q => rows i = f q ∧ ok q) (fun i hi => by
    obtain ⟨g1, n, y, g2⟩ := h2 i hi
    exact hopen n _ y g1 g2)
  have he : (List.range len).flatMap rows = rowsOf f ((List.range len).map z) := by
    rw [← range_rows]
    exact flatMap_congr_range len (fun i hi => (hz i hi).1)
  rw [he] at h3
  refine ⟨(List.range len).map z, h1, by simp, h3, fun q hq => ?_⟩
  obtain ⟨i, hi, rfl⟩ := List.mem_map.1 hq
  exact (hz i (List.mem_range.1 hi)).2
end
end Go.Proofs.Ytahojmioonpodaa
