/-
  Words for memory that all texts of this seat use: an append of one element to a row of the call's own, what it leaves below; a row's cells.
-/
import Derived.WalkKit
import Derived.ProofKit
import Derived.Lib.Hide
import Derived.Lib.AppendStr
import Derived.Lib.SlBytesRow
import Derived.Laws.AppendOwnNone
import Derived.Deep.AppendLies
import Derived.Deep.Draws
import Derived.BigQuiet
import Derived.Deep.QuietTactic
import Derived.Deep.RegionWith
import Derived.OpenShut
import Derived.Outline
import Derived.Deep.Slices
import Derived.ChangeSame
import Derived.Laws.IdiomStrings
import Derived.SliceStrings
import Derived.Laws.DeepStrings4
import Derived.SizedLaws
namespace Go.Proofs.Ytahojmioonpodaa
open Go.RowKit
set_option linter.unusedVariables false
set_option linter.unusedSimpArgs false

/-- One call behind the other, each of which makes memory. -/
theorem then_ {w w1 w2 : World} (h : Below w.heap.size w w1) (h2 : Below w1.heap.size w1 w2) : Below w.heap.size w w2 := h.trans (h2.mono h.size)

/-- What an append to a row of the call's own leaves: below the base nothing turned. -/
theorem below_of_grown {w w' : World} {base : Nat} {e : TypeId} {size : Nat} {v : Value} {n : Nat} {xs : List Value} {o : Obj}
    (hown : w.ownsRow base e size v n xs) (hb : base ≤ w.heap.size) (hg : (w.alloc o).grownBy w' v.ownBlock) : Below base w w' :=
  ((Below.refl _ _).alloc hb o).grown hg (by simp; omega) (fun k hk => by have := hown.lt k hk; omega)

/-- 'append(out, x)', one element of one cell: the row of the call's own grows by it; what lies below the base stays. -/
theorem append_one {P : Program} {ops : Array Oper} {rest : List Oper} {o : Oper} {a : Act} {Q : Exit → Act → World → Prop} (w : World) (x : Value)
    (hg : o.guard = none) (s y : Operand) (t : TypeId) (hop : o.op = Op.call { callee := Callee.builtin Builtin.append, args := #[s, y], argTypes := #[t, t] })
    (base : Nat) (e : TypeId) (z : Value) (bytes : Nat) (ht : P.underlying t = some (.slice e)) (hi : (P.info? e).map (fun i => (i.zero, i.size, i.bytes)) = some (some z, 1, bytes))
    (hzs : z.cells.size = 1) (hx1 : x.oneCell' = true)
    (v : Value) (n : Nat) (xs : List Value) (hs : a.eval s = v) (hown : w.ownsRow base e 1 v n xs) (hy : a.eval y = .slice (some ⟨w.heap.size, 0, none⟩) 1 1)
    (b1 : n + 1 ≤ maxLen) (b2 : (n + 1) * bytes ≤ 140737488355328) (b3 : base ≤ w.heap.size)
    (hK : ∀ v' w', w'.ownsRow base e 1 v' (n + 1) (xs ++ [x]) → Below base w w' → (w.alloc (.cells #[x] e)).grownBy w' v.ownBlock → wpList P ops Q rest (a.put o.dst v') w') :
    wpList P ops Q (o :: rest) a (w.alloc (.cells #[x] e)) := by
  obtain ⟨i0, hi, hz0, hz1, hz2⟩ := info_parts hi
  refine wpList_append_own _ hg s y t hop base e i0 z 1 bytes ht hi hz0 hz1 hz2 hzs (by decide) v n xs hs (hown.alloc _) ⟨w.heap.size, 0, none⟩ 1 1 [x] hy rfl ?_ ?_ b1 b2 (by simp; omega) ?_
  · intro j u hj
    match j, hj with
    | 0, hj => simp at hj; subst hj; simp [Addr.add, World.cell?_alloc_at]
  · intro u hu; simp at hu; subst hu; exact hx1
  · intro v' w' ho hgr _
    exact hK v' w' ho (below_of_grown hown b3 hgr) hgr

theorem addr_add (g j : Nat) : (⟨g, 0, none⟩ : Addr).add j = ⟨g, j, none⟩ := by unfold Addr.add; split <;> simp_all

/-- A row that is owned and not empty: the slice's form, and its cells. -/
theorem ownsRow_open {w : World} {base : Nat} {e : TypeId} {v : Value} {n : Nat} {xs : List Value} (h : w.ownsRow base e 1 v n xs) (hn : 0 < n) :
    ∃ g cap, v = .slice (some ⟨g, 0, none⟩) n cap ∧ base ≤ g ∧ g < w.heap.size ∧ n ≤ cap ∧ cap ≤ maxLen ∧ ∀ j u, xs[j]? = some u → w.cell? ⟨g, j, none⟩ = some u := by
  rcases h.2 with ⟨_, rfl⟩ | ⟨g, cap, cur, rfl, hb, hg, hc, hm, _, ht⟩
  · omega
  · refine ⟨g, cap, rfl, hb, (Array.getElem?_eq_some_iff.1 hg).1, hc, hm, fun j u hu => ?_⟩
    have := h.cells (g := g) rfl j u hu
    rwa [addr_add] at this

theorem ret_int {k : IntKind} {a b : Int} (h : a = b) : Ending.returned (.int k a) = .returned (.int k b) := by rw [h]
theorem ret_bool {a b : Bool} (h : a = b) : Ending.returned (.bool a) = .returned (.bool b) := by rw [h]

/-! ## Blocks that are known whole, and what a call leaves as it was -/
/-- Block g holds just the cells cs, of type t; none of them is frozen. -/
def Lies (w : World) (g : Nat) (t : TypeId) (cs : Array Value) : Prop := w.heap[g]? = some (.cells cs t (0, 0))

theorem Lies.lt {w : World} {g : Nat} {t : TypeId} {cs : Array Value} (h : Lies w g t cs) : g < w.heap.size := by
  unfold Lies at h
  exact (Array.getElem?_eq_some_iff.1 h).1
theorem Lies.cell {w : World} {g : Nat} {t : TypeId} {cs : Array Value} (h : Lies w g t cs) (i : Nat) : w.cell? ⟨g, i, none⟩ = cs[i]? := by
  unfold Lies at h
  simp [World.cell?, h]
theorem Lies.free {w : World} {g : Nat} {t : TypeId} {cs : Array Value} (h : Lies w g t cs) (i : Nat) : w.frozen? ⟨g, i, none⟩ = false := by
  unfold Lies at h
  simp [World.frozen?, h]
theorem Lies.made (w : World) (t : TypeId) (cs : Array Value) : Lies (w.alloc (.cells cs t)) w.heap.size t cs := heap_alloc_new w _
theorem Lies.put {w : World} {g : Nat} {t : TypeId} {cs : Array Value} (h : Lies w g t cs) (i : Nat) (u : Value) : Lies (w.setCell ⟨g, i, none⟩ u) g t (cs.setIfInBounds i u) := by
  unfold Lies at h ⊢
  simp [World.setCell, Array.getElem?_modify, h]
theorem Lies.same {w : World} {g : Nat} {t t' : TypeId} {cs cs' : Array Value} (h : Lies w g t cs) (h' : Lies w g t' cs') : t = t' ∧ cs = cs' := by
  unfold Lies at h h'
  rw [h] at h'
  injection h' with h'
  injection h' with h1 h2 _
  exact ⟨h2, h1⟩

/-- w2 is w1, but for new blocks and for the old ones that S holds of. -/
structure Kept (S : Nat → Prop) (w1 w2 : World) : Prop where
  os : w2.os = w1.os
  tape : w2.tape = w1.tape
  output : w2.output = w1.output
  size : w1.heap.size ≤ w2.heap.size
  at_ : ∀ k, k < w1.heap.size → ¬ S k → w2.heap[k]? = w1.heap[k]?

/-- No old block has turned. -/
def noRow : Nat → Prop := fun _ => False
/-- One old block may have turned. -/
def oneRow (g : Nat) : Nat → Prop := fun k => k = g

theorem Kept.refl (S : Nat → Prop) (w : World) : Kept S w w := ⟨rfl, rfl, rfl, Nat.le_refl _, fun _ _ _ => rfl⟩
theorem Kept.trans {S T : Nat → Prop} {a b c : World} (h : Kept S a b) (k : Kept T b c) (hs : ∀ i, i < a.heap.size → T i → S i) : Kept S a c :=
  ⟨k.os.trans h.os, k.tape.trans h.tape, k.output.trans h.output, Nat.le_trans h.size k.size, fun i hi hn =>
    (k.at_ i (Nat.lt_of_lt_of_le hi h.size) (fun ht => hn (hs i hi ht))).trans (h.at_ i hi hn)⟩
theorem Kept.mono {S T : Nat → Prop} {a b : World} (h : Kept S a b) (hs : ∀ i, i < a.heap.size → S i → T i) : Kept T a b :=
  ⟨h.os, h.tape, h.output, h.size, fun i hi hn => h.at_ i hi (fun ht => hn (hs i hi ht))⟩
theorem Kept.drewN (S : Nat → Prop) (w : World) (n : Nat) : Kept S w (w.drewN n) := ⟨rfl, rfl, rfl, Nat.le_refl _, fun _ _ _ => rfl⟩
theorem Kept.alloc (S : Nat → Prop) (w : World) (o : Obj) : Kept S w (w.alloc o) := ⟨rfl, rfl, rfl, by simp, fun _ hk _ => heap_alloc_old w o hk⟩
theorem Kept.put (w : World) (g i : Nat) (u : Value) : Kept (oneRow g) w (w.setCell ⟨g, i, none⟩ u) :=
  ⟨rfl, rfl, rfl, by simp, fun k _ hn => Below.heap_setCell _ _ _ _ (fun e => hn e)⟩
theorem Kept.of_grown {w w' : World} {row : Option Nat} (h : w.grownBy w' row) : Kept (fun k => row = some k) w w' :=
  ⟨h.os, h.tape, h.output, h.size, fun k hk hn => h.block k hk (fun e => hn e.symm)⟩
theorem Kept.of_below {w w' : World} (h : Below w.heap.size w w') : Kept noRow w w' := ⟨h.os, h.tape, h.output, h.size, fun k hk _ => h.block k hk⟩
theorem Kept.below {S : Nat → Prop} {B : Nat} {w w' : World} (h : Kept S w w') (hB : B ≤ w.heap.size) (hs : ∀ k, k < B → ¬ S k) : Below B w w' :=
  ⟨h.os, h.tape, h.output, h.size, fun k hk => h.at_ k (by omega) (hs k hk)⟩
theorem Kept.all {w w' : World} (h : Kept noRow w w') : Below w.heap.size w w' := h.below (Nat.le_refl _) (fun _ _ hf => hf)

section
variable {S : Nat → Prop} {w w' : World} {g : Nat} {t : TypeId} {cs : Array Value} {B : Nat} {e : TypeId} {size : Nat} {v : Value} {n : Nat} {xs : List Value}
theorem Lies.kept (h : Lies w g t cs) (k : Kept S w w') (hn : ¬ S g) : Lies w' g t cs := (k.at_ g h.lt hn).trans h
theorem Lies.below (h : Lies w g t cs) (k : Below B w w') (hg : g < B) : Lies w' g t cs := (k.block g hg).trans h
theorem Lies.drewN (h : Lies w g t cs) (m : Nat) : Lies (w.drewN m) g t cs := h
theorem Lies.alloc (h : Lies w g t cs) (o : Obj) : Lies (w.alloc o) g t cs := (heap_alloc_old w o h.lt).trans h
theorem Lies.far (h : Lies w g t cs) {p : Addr} (hp : g ≠ p.block) (u : Value) : Lies (w.setCell p u) g t cs := (Below.heap_setCell w p u g hp).trans h

/-- What a call owns, by its row: nil, or a block of that element type. -/
theorem owns_row (h : w.ownsRow B e size v n xs) : (v = .slice none 0 0 ∧ n = 0 ∧ xs = []) ∨ ∃ r cap cur, v = .slice (some ⟨r, 0, none⟩) n cap ∧ B ≤ r ∧ Lies w r e cur ∧ n ≤ cap ∧ cap ≤ maxLen := by
  rcases h.2 with ⟨rfl, rfl⟩ | ⟨r, cap, cur, rfl, hb, hh, h1, h2, _⟩
  · exact .inl ⟨rfl, rfl, by have := h.1; simpa using this⟩
  · exact .inr ⟨r, cap, cur, rfl, hb, hh, h1, h2⟩
theorem owns_kept (h : w.ownsRow B e size v n xs) (k : Kept S w w') (hn : ∀ r cur, v.ownBlock = some r → Lies w r e cur → ¬ S r) : w'.ownsRow B e size v n xs := by
  refine ⟨h.1, ?_⟩
  rcases h.2 with h2 | ⟨r, cap, cur, rfl, hb, hh, rest⟩
  · exact .inl h2
  · exact .inr ⟨r, cap, cur, rfl, hb, (k.at_ r (Array.getElem?_eq_some_iff.1 hh).1 (hn r cur rfl hh)).trans hh, rest⟩
theorem owns_put (h : w.ownsRow B e size v n xs) (hg : Lies w g t cs) (hne : e ≠ t) (i : Nat) (u : Value) : (w.setCell ⟨g, i, none⟩ u).ownsRow B e size v n xs :=
  owns_kept h (Kept.put w g i u) (fun r cur _ hl hr => by
    have : r = g := hr
    subst this
    exact hne (hl.same hg).1)
theorem own_ne (h : w.ownsRow B e size v n xs) (hl : Lies w g t cs) (hne : e ≠ t) : ¬ v.ownBlock = some g := by
  intro hv
  rcases owns_row h with ⟨rfl, _⟩ | ⟨r, cap, cur, rfl, hr, hl2, _⟩
  · cases hv
  · obtain rfl : r = g := by simpa [Value.ownBlock] using hv
    exact hne (hl2.same hl).1
theorem kept_grown {o : Obj} {row : Option Nat} (h : (w.alloc o).grownBy w' row) : Kept (fun k => row = some k) w w' :=
  (Kept.alloc _ w o).trans (Kept.of_grown h) (fun _ _ h => h)
/-- An append to a row that is newer than the call leaves what is older. -/
theorem kept_append {a : World} {o : Obj} (k : Kept S a w) (ho : w.ownsRow B e size v n xs) (hB : a.heap.size ≤ B) (h : (w.alloc o).grownBy w' v.ownBlock) : Kept S a w' :=
  k.trans (kept_grown h) (fun i hi hv => by have := (ho.lt i hv).1; omega)
/-- A store into a row of the call's own. -/
theorem owns_set {r cap k : Nat} {u : Value} (h : w.ownsRow B e 1 (.slice (some ⟨r, 0, none⟩) n cap) n xs) (hk : k < n) :
    (w.setCell ⟨r, k, none⟩ u).ownsRow B e 1 (.slice (some ⟨r, 0, none⟩) n cap) n (xs.set k u) := by
  obtain ⟨h1, h2⟩ := h
  refine ⟨by rw [List.length_set]; exact h1, ?_⟩
  rcases h2 with ⟨h2, _⟩ | ⟨r', cap', cur, hv, hb, hh, hc, hm, hs, ht⟩
  · cases h2
  · simp only [Value.slice.injEq, Option.some.injEq, Addr.mk.injEq] at hv
    obtain ⟨⟨rfl, _, _⟩, _, rfl⟩ := hv
    refine .inr ⟨r, cap, cur.setIfInBounds k u, rfl, hb, ?_, hc, hm, by rw [Array.size_setIfInBounds]; exact hs, ?_⟩
    · simp [World.setCell, Array.getElem?_modify, hh]
    · rw [← ht, Array.toList_setIfInBounds]
      exact List.take_set
theorem owns_free {r cap k : Nat} (h : w.ownsRow B e 1 (.slice (some ⟨r, 0, none⟩) n cap) n xs) (hk : k < n) : w.frozen? ⟨r, k, none⟩ = false := by
  rcases h.2 with ⟨h2, _⟩ | ⟨r', cap', cur, hv, hb, hh, _⟩
  · cases h2
  · simp only [Value.slice.injEq, Option.some.injEq, Addr.mk.injEq] at hv
    obtain ⟨⟨rfl, _, _⟩, _, _⟩ := hv
    simp [World.frozen?, hh]
theorem owns_cell {r cap k : Nat} {u : Value} (h : w.ownsRow B e 1 (.slice (some ⟨r, 0, none⟩) n cap) n xs) (hk : xs[k]? = some u) : w.cell? ⟨r, k, none⟩ = some u := by
  have := h.cells (g := r) rfl k u hk
  rwa [addr_add] at this
/-- 'make([]T, n)': n zeros. -/
theorem zeros_made (z : Value) (hz : z.cells = #[z]) (n : Nat) : (madeCells z.cells (n * 1)).toList = List.replicate n z := by
  rw [Nat.mul_one, hz]
  apply List.ext_getElem
  · simp [size_madeCells]
  · intro i h1 h2
    simp [madeCells, Nat.mod_one]
theorem set_next (A : List Value) (z u : Value) (m k : Nat) (hA : A.length = k) : (A ++ List.replicate (m + 1) z).set k u = A ++ [u] ++ List.replicate m z := by
  subst hA
  rw [List.set_append_right _ _ (Nat.le_refl _), Nat.sub_self, List.replicate_succ, List.set_cons_zero]
  simp
theorem owns_mono (h : w.ownsRow B e size v n xs) {B' : Nat} (hB : B' ≤ B) : w.ownsRow B' e size v n xs := by
  refine ⟨h.1, ?_⟩
  rcases h.2 with h2 | ⟨r, cap, cur, rfl, hb, rest⟩
  · exact .inl h2
  · exact .inr ⟨r, cap, cur, rfl, by omega, rest⟩
end
/-- 's[i:j]' of a string, both bounds reckoned. -/
theorem slice_text {P : Program} (T : TypeId) (hT : P.underlying T = some .string) (s : ByteArray) (i j : Nat) (a b : Int) (ha : a = i) (hb : b = j) (hij : i ≤ j) (hj : j ≤ s.size) (W : World) :
    (Instr.slice T (.string s) (some (.int .i64 a)) (some (.int .i64 b)) none).run P W = .ok (.string (s.extract i j)) W := by
  subst ha hb
  rw [run_slice_string_if W T s _ _ _ _ hT, if_pos ⟨by omega, by omega⟩, if_pos ⟨by omega, by omega⟩]
  rfl
/-- One call behind the other: what is older than the law's own call stays. -/
theorem onto {S : Nat → Prop} {w a b : World} (h : Below w.heap.size w a) (k : Kept S a b) (hs : ∀ i, i < w.heap.size → ¬ S i) : Below w.heap.size w b :=
  h.trans (k.below h.size hs)
theorem onto_none {w a b : World} (h : Below w.heap.size w a) (k : Kept noRow a b) : Below w.heap.size w b := onto h k (fun _ _ h => h)
theorem onto_one {w a b : World} {g : Nat} (h : Below w.heap.size w a) (k : Kept (oneRow g) a b) (hg : w.heap.size ≤ g) : Below w.heap.size w b :=
  onto h k (fun i hi (e : i = g) => by omega)
/-! ## Lists that came along as arguments -/
/-- The slice value's address leads to the cells xs; they are older than the call. -/
def ArgRow (w : World) (a : Option Addr) (xs : List Value) : Prop := ∀ k v, xs[k]? = some v → ∃ b off, a = some ⟨b, off, none⟩ ∧ b < w.heap.size ∧ w.cell? ⟨b, off + k, none⟩ = some v
theorem ArgRow.get {w w' : World} {a : Option Addr} {xs : List Value} (h : ArgRow w a xs) (hb : Below w.heap.size w w') {k : Nat} {v : Value} (hk : xs[k]? = some v) :
    ∃ b off, a = some ⟨b, off, none⟩ ∧ w'.cell? ⟨b, off + k, none⟩ = some v := by
  obtain ⟨b, off, e, hl, hc⟩ := h k v hk
  exact ⟨b, off, e, (hb.cell (p := ⟨b, off + k, none⟩) hl).trans hc⟩
def ArgInts (k : IntKind) (w : World) (a : Option Addr) (len cap : Nat) (zs : List Int) : Prop := (a = none → len = 0 ∧ cap = 0) ∧ len ≤ cap ∧ cap ≤ maxLen ∧ zs.length = len ∧ ArgRow w a (zs.map (Value.int k)) ∧ ∀ n ∈ zs, (Lit.int k n).wf = true
def ArgStrs (w : World) (a : Option Addr) (len cap : Nat) (ss : List ByteArray) : Prop := (a = none → len = 0 ∧ cap = 0) ∧ len ≤ cap ∧ cap ≤ maxLen ∧ ss.length = len ∧ ArgRow w a (ss.map Value.string) ∧ ∀ s ∈ ss, s.size ≤ maxLen
theorem addr_plus (b off k : Nat) : (⟨b, off, none⟩ : Addr).add k = ⟨b, off + k, none⟩ := by unfold Addr.add; split <;> simp_all
theorem add_cell {x : Addr} {w : World} {k : Nat} {v v0 : Value} (h0 : w.cell? (x.add 0) = some v0) (h : w.cell? (x.add k) = some v) : ∃ b off, x = ⟨b, off, none⟩ ∧ b < w.heap.size ∧ w.cell? ⟨b, off + k, none⟩ = some v := by
  obtain ⟨b, off, spot⟩ := x
  have hl := World.block_lt_of_cell? w _ h0
  have hs := World.cell?_spot h0
  simp [Addr.add] at hl hs
  subst hs
  rw [addr_plus] at h
  exact ⟨b, off, rfl, hl, h⟩
section
variable {P : Program} {W : World} {H : Type} {enc : TypeId × Value → H}
theorem argInts_of {k : IntKind} {t e : TypeId} {a : Option Addr} {len cap : Nat} {d : DataW H} {p : List MemPlace} (ht : P.underlying t = some (.slice e)) (he : P.underlying e = some (.int k)) (hc : P.cellsOf e = 1)
    (h : DataW.Trod enc P W 0 (fun _ => true) true t (.slice a len cap) d p) : ∃ zs, ArgInts k W a len cap zs := by
  obtain ⟨fuel, hf⟩ := h
  rcases ChangeShapes.open_ints ht he hc hf with ⟨hcs, _⟩ | ⟨x, l, c, zs, hcs, _, hl, hm, hz, _, hcell, hwz⟩
  · simp [Value.cells] at hcs
    obtain ⟨rfl, rfl, rfl⟩ := hcs
    exact ⟨[], fun _ => ⟨rfl, rfl⟩, by omega, by unfold maxLen; omega, rfl, fun k v hv => by simp at hv, fun n hn => by simp at hn⟩
  · simp [Value.cells] at hcs
    obtain ⟨rfl, rfl, rfl⟩ := hcs
    simp at hz
    refine ⟨zs.take len, (fun h => by cases h), hl, hm, (by simp; omega), fun k v hv => ?_, fun n hn => hwz n (List.mem_of_mem_take hn)⟩
    rw [List.getElem?_map, List.getElem?_take] at hv
    split at hv
    · obtain ⟨n, hn, rfl⟩ := Option.map_eq_some_iff.1 hv
      have := hcell k (by omega)
      rw [List.getD_eq_getElem?_getD, hn] at this
      obtain ⟨b, off, rfl, h1, h2⟩ := add_cell (hcell 0 (by omega)) this
      exact ⟨b, off, rfl, h1, h2⟩
    · simp at hv
theorem argStrs_of {t e : TypeId} {a : Option Addr} {len cap : Nat} {d : DataW H} {p : List MemPlace} (ht : P.underlying t = some (.slice e)) (he : P.underlying e = some .string) (hc : P.cellsOf e = 1)
    (h : DataW.Trod enc P W 0 (fun _ => true) true t (.slice a len cap) d p) : ∃ ss, ArgStrs W a len cap ss := by
  obtain ⟨fuel, hf⟩ := h
  rcases ChangeShapes.open_strings ht he hc hf with ⟨hcs, _⟩ | ⟨x, l, c, zs, hcs, _, hl, hm, hz, _, hcell, hwz⟩
  · simp [Value.cells] at hcs
    obtain ⟨rfl, rfl, rfl⟩ := hcs
    exact ⟨[], fun _ => ⟨rfl, rfl⟩, by omega, by unfold maxLen; omega, rfl, fun k v hv => by simp at hv, fun n hn => by simp at hn⟩
  · simp [Value.cells] at hcs
    obtain ⟨rfl, rfl, rfl⟩ := hcs
    simp at hz
    refine ⟨zs.take len, (fun h => by cases h), hl, hm, (by simp; omega), fun k v hv => ?_, fun n hn => hwz n (List.mem_of_mem_take hn)⟩
    rw [List.getElem?_map, List.getElem?_take] at hv
    split at hv
    · obtain ⟨n, hn, rfl⟩ := Option.map_eq_some_iff.1 hv
      have := hcell k (by omega)
      rw [List.getD_eq_getElem?_getD, hn] at this
      obtain ⟨b, off, rfl, h1, h2⟩ := add_cell (hcell 0 (by omega)) this
      exact ⟨b, off, rfl, h1, h2⟩
    · simp at hv
/-- A slice of whatever elements of sz cells: each element's cells, and that they read. -/
theorem argSlice_of {t e : TypeId} {a : Option Addr} {len cap sz : Nat} {d : DataW H} {p : List MemPlace} (ht : P.underlying t = some (.slice e)) (hc : P.cellsOf e = sz) (hsz : 0 < sz)
    (h : DataW.Trod enc P W 0 (fun _ => true) true t (.slice a len cap) d p) :
    len ≤ cap ∧ cap ≤ maxLen ∧ ∃ rows : Nat → List Value, ∀ i, i < len → (rows i).length = sz ∧ (∃ n y, DataW.trod enc P W 0 (fun _ => true) true n e (rows i) = some y) ∧
      ∃ b off, a = some ⟨b, off, none⟩ ∧ b < W.heap.size ∧ ∀ j, j < sz → W.cell? ⟨b, off + i * sz + j, none⟩ = (rows i)[j]? := by
  obtain ⟨fuel, hf⟩ := h
  rcases Deep.open_slice ht hf with ⟨hcs, _⟩ | ⟨x, l, c, m, n, D, Pl, hcs, _, hl, hm, hmm, _, hx⟩
  · simp [Value.cells] at hcs
    obtain ⟨rfl, rfl, rfl⟩ := hcs
    exact ⟨by omega, by unfold maxLen; omega, fun _ => [], fun i hi => by omega⟩
  · simp [Value.cells] at hcs
    obtain ⟨rfl, rfl, rfl⟩ := hcs
    simp at hmm
    subst hmm
    refine ⟨hl, hm, ?_⟩
    obtain ⟨rows, hr⟩ := Deep.choose_lt (α := List Value) (n := len) (p := fun i cs => W.cells? 0 (x.add (i * P.cellsOf e)) (P.cellsOf e) = some cs ∧ DataW.trod enc P W 0 (fun _ => true) true n e cs = some (D i, Pl i)) (fun i hi => hx i (by omega))
    refine ⟨rows, fun i hi => ?_⟩
    obtain ⟨h1, h2⟩ := hr i hi
    obtain ⟨h01, _⟩ := hr 0 (by omega)
    rw [hc] at h1 h01
    obtain ⟨_, g2, g3⟩ := World.cells?_some h1
    obtain ⟨_, g02, g03⟩ := World.cells?_some h01
    have z := g03 0 hsz
    rw [List.getElem?_eq_getElem (by omega), Nat.zero_mul] at z
    obtain ⟨b, off, spot⟩ := x
    have hlt := World.block_lt_of_cell? W _ z
    have hs := World.cell?_spot z
    simp [Addr.add] at hlt hs
    subst hs
    refine ⟨g2, ⟨n, _, h2⟩, b, off, rfl, hlt, fun j hj => ?_⟩
    have := g3 j hj
    rwa [addr_plus, addr_plus] at this
/-- A struct of two numbers. -/
theorem twoInts {e : TypeId} {f0 f1 : Field} {k0 k1 : IntKind} {n : Nat} {cs : List Value} {y : DataW H × List MemPlace} (he : P.underlying e = some (.struct #[f0, f1]))
    (h0 : P.underlying f0.type = some (.int k0)) (h1 : P.underlying f1.type = some (.int k1)) (o0 : f0.offset = 0) (o1 : f1.offset = 1) (c0 : P.cellsOf f0.type = 1) (c1 : P.cellsOf f1.type = 1) (hl : cs.length = 2)
    (h : DataW.trod enc P W 0 (fun _ => true) true n e cs = some y) : ∃ a b, cs = [.int k0 a, .int k1 b] ∧ (Lit.int k0 a).wf = true ∧ (Lit.int k1 b).wf = true := by
  obtain ⟨y0, y1, m, _, _, r0, r1⟩ := ChangeShapes.trod_struct2 he h
  obtain ⟨a, ea, _, wa⟩ := DataW.trod_int h0 r0
  obtain ⟨b, eb, _, wb⟩ := DataW.trod_int h1 r1
  rw [o0, c0] at ea
  rw [o1, c1] at eb
  match cs, hl with
  | [u, v], _ =>
    simp at ea eb
    exact ⟨a, b, by rw [ea, eb], wa, wb⟩
end
/-- '[]byte(s)': a new row whose first cells are the bytes of s. -/
theorem bytes_made (w : World) (e : TypeId) (s : ByteArray) (c : Nat) (fr : Nat × Nat) :
    Kept noRow w (w.drew.alloc (.cells (bytesRow s c) e fr)) ∧ ∀ j u, (Lib.strCells s)[j]? = some u → (w.drew.alloc (.cells (bytesRow s c) e fr)).cell? ((⟨w.heap.size, 0, none⟩ : Addr).add j) = some u := by
  refine ⟨⟨rfl, rfl, rfl, by simp, fun k hk _ => heap_alloc_old w.drew _ hk⟩, fun j u hu => ?_⟩
  rw [addr_add]
  have hh : (w.drew.alloc (.cells (bytesRow s c) e fr)).heap[w.heap.size]? = some (.cells (bytesRow s c) e fr) := heap_alloc_new w.drew _
  have hlt : j < (Lib.strCells s).length := (List.getElem?_eq_some_iff.1 hu).1
  simp only [World.cell?, hh]
  simp [bytesRow, Lib.strCells] at hu ⊢
  rw [Array.getElem?_append_left (by simpa [Lib.strCells] using hlt)]
  simpa using hu
/-- 'append(out, l...)', out a row of the call's own, l a list that lies elsewhere or is nil. -/
theorem append_arg {P : Program} {ops : Array Oper} {rest : List Oper} {o : Oper} {a : Act} {Q : Exit → Act → World → Prop} (w : World)
    (hg : o.guard = none) (s y : Operand) (t : TypeId) (hop : o.op = Op.call { callee := Callee.builtin Builtin.append, args := #[s, y], argTypes := #[t, t] })
    (base : Nat) (e : TypeId) (z : Value) (bytes : Nat) (ht : P.underlying t = some (.slice e)) (hi : (P.info? e).map (fun i => (i.zero, i.size, i.bytes)) = some (some z, 1, bytes))
    (hzs : z.cells.size = 1)
    (v : Value) (n : Nat) (ys : List Value) (hs : a.eval s = v) (hown : w.ownsRow base e 1 v n ys) (A : Option Addr) (len cap : Nat) (hy : a.eval y = .slice A len cap)
    (xs : List Value) (hl : xs.length = len) (h0 : A = none → len = 0 ∧ cap = 0) (hx : ∀ k u, xs[k]? = some u → ∃ b off, A = some ⟨b, off, none⟩ ∧ w.cell? ⟨b, off + k, none⟩ = some u) (h1 : ∀ u ∈ xs, u.oneCell' = true)
    (b1 : n + len ≤ maxLen) (b2 : (n + len) * bytes ≤ 140737488355328) (b3 : base ≤ w.heap.size)
    (hK : ∀ v' w', w'.ownsRow base e 1 v' (n + len) (ys ++ xs) → Below base w w' → w.grownBy w' v.ownBlock → wpList P ops Q rest (a.put o.dst v') w') :
    wpList P ops Q (o :: rest) a w := by
  obtain ⟨i0, hi, hz0, hz1, hz2⟩ := info_parts hi
  cases A with
  | none =>
    obtain ⟨rfl, rfl⟩ := h0 rfl
    have hx0 : xs = [] := List.length_eq_zero_iff.1 hl
    subst hx0
    refine wpList_append_own_none hg s y t hop base e i0 1 ht hi v n ys hs hown hy ?_
    exact hK v w (by simpa using hown) (Below.refl _ _) ⟨rfl, rfl, rfl, Nat.le_refl _, fun _ _ _ => rfl⟩
  | some ad =>
    refine wpList_append_own _ hg s y t hop base e i0 z 1 bytes ht hi hz0 hz1 hz2 hzs (by decide) v n ys hs hown ad len cap xs hy (by rw [hl, Nat.mul_one]) ?_ h1 b1 b2 b3 ?_
    · intro j u hj
      obtain ⟨b, off, he, hc⟩ := hx j u hj
      injection he with he
      subst he
      rw [addr_plus]; exact hc
    · intro v' w' ho hgr _
      exact hK v' w' ho ((Below.refl _ _).grown hgr b3 (fun k hk => (hown.lt k hk).1)) hgr
/-! ## A slice that reads as a list, whoever made it -/
def SeqAt (w : World) (v : Value) (xs : List Value) : Prop := ∃ A c, v = .slice A xs.length c ∧ xs.length ≤ c ∧ c ≤ maxLen ∧ ∀ k u, xs[k]? = some u → ∃ b off, A = some ⟨b, off, none⟩ ∧ w.cell? ⟨b, off + k, none⟩ = some u
theorem SeqAt.of_owns {w : World} {B : Nat} {e : TypeId} {v : Value} {n : Nat} {xs : List Value} (h : w.ownsRow B e 1 v n xs) : SeqAt w v xs := by
  have hn : xs.length = n := by have := h.1; omega
  rcases owns_row h with ⟨rfl, h0, rfl⟩ | ⟨r, cap, cur, rfl, _, _, h1, h2⟩
  · exact ⟨none, 0, rfl, by simp, by unfold maxLen; simp, fun k u hu => by simp at hu⟩
  · subst hn
    exact ⟨_, cap, rfl, h1, h2, fun k u hu => ⟨r, 0, rfl, by
      have := h.cells (g := r) rfl k u hu
      rw [addr_add] at this
      rw [Nat.zero_add]; exact this⟩⟩
theorem SeqAt.of_arg {w w' : World} {a : Option Addr} {len cap : Nat} {xs : List Value} (h : ArgRow w a xs) (hb : Below w.heap.size w w') (hn : xs.length = len) (hc : len ≤ cap) (hm : cap ≤ maxLen) : SeqAt w' (.slice a len cap) xs := by
  subst hn
  exact ⟨a, cap, rfl, hc, hm, fun k u hu => h.get hb hu⟩
theorem eq_of_data {a b : ByteArray} (h : a.data.toList = b.data.toList) : a = b := ByteArray.ext (Array.toList_inj.1 h)
theorem text_ne {a b : ByteArray} (h : a ≠ b) : (a.toList == b.toList) = false := by
  rw [beq_eq_false_iff_ne, ByteArray.toList_eq, ByteArray.toList_eq]
  exact fun h2 => h (eq_of_data h2)
theorem strCells_append (a b : ByteArray) : Lib.strCells (a ++ b) = Lib.strCells a ++ Lib.strCells b := by
  simp [Lib.strCells]
/-- How many bytes a slice takes that came along: what every row says of itself. -/
theorem slice_sized {H : Type} {enc : TypeId × Value → H} {P : Program} {W : World} {ts : List TypeId} {ds : List (DataW H)} (h : (DataW.weightsEach P ts ds).all (· ≤ reachBytes) = true)
    {j : Nat} {t e : TypeId} {a : Option Addr} {len cap : Nat} {d : DataW H} {p : List MemPlace} (ht : ts[j]? = some t) (hd : ds[j]? = some d) (hu : P.underlying t = some (.slice e))
    (k : DataW.Trod enc P W 0 (fun _ => true) true t (.slice a len cap) d p) : cap * P.bytesOf e ≤ reachBytes := by
  obtain ⟨fuel, hf⟩ := k
  rcases Deep.open_slice hu hf with ⟨hcs, _⟩ | ⟨x, l, c, m, n, D, Pl, hcs, _, hl, hm, hmm, hx, _⟩
  · simp [Value.cells] at hcs
    obtain ⟨rfl, rfl, rfl⟩ := hcs
    simp
  · simp [Value.cells] at hcs
    obtain ⟨rfl, rfl, rfl⟩ := hcs
    simp at hmm
    subst hmm
    simp only [Prod.mk.injEq] at hx
    rw [hx.1] at hd
    have := sized_slice h ht hd hu
    simpa [Nat.add_sub_cancel' hl] using this
theorem or_add {a b k : Nat} (ha : a < 2 ^ k) : a ||| b * 2 ^ k = a + b * 2 ^ k := by
  have := Nat.shiftLeft_add_eq_or_of_lt ha b
  rw [Nat.shiftLeft_eq] at this
  rw [Nat.or_comm, ← this, Nat.add_comm]
/-- What a slice leads to, in a later world. -/
theorem SeqAt.get {w w' : World} {A : Option Addr} {c n : Nat} {xs : List Value} (h : SeqAt w (.slice A n c) xs) (hb : Below w.heap.size w w') {k : Nat} {u : Value} (hk : xs[k]? = some u) :
    ∃ b off, A = some ⟨b, off, none⟩ ∧ b < w.heap.size ∧ w'.cell? ⟨b, off + k, none⟩ = some u := by
  obtain ⟨A', c', e, _, _, h3⟩ := h
  injection e with e1 e2 e3
  subst e1
  obtain ⟨b, off, e, hc⟩ := h3 k u hk
  have hl := World.block_lt_of_cell? w _ hc
  exact ⟨b, off, e, hl, (hb.cell (p := ⟨b, off + k, none⟩) hl).trans hc⟩
theorem below_drewN {B : Nat} {a w : World} (h : Below B a w) (n : Nat) : Below B a (w.drewN n) := ⟨h.os, h.tape, h.output, h.size, h.block⟩
/-- What every call that leaves old memory alone keeps. -/
theorem keep_callS {P : Program} {n : Nat} {args : Array Value} {w w0 : World} {B : Nat} {F : World → Prop} {v : Value} (hF : ∀ a b, Below a.heap.size a b → F a → F b)
    (hc : Calls P n args w fun e w' => e = .returned v ∧ Below w.heap.size w w') (h : F w ∧ Below B w0 w ∧ B ≤ w.heap.size) :
    Calls P n args w fun e w' => e = .returned v ∧ (F w' ∧ Below B w0 w' ∧ B ≤ w'.heap.size) :=
  hc.mono fun e w' q => ⟨q.1, hF _ _ q.2 h.1, h.2.1.trans (q.2.mono h.2.2), Nat.le_trans h.2.2 q.2.size⟩
theorem cell_later {w w' : World} {p : Addr} {v : Value} (h : w.cell? p = some v) (hb : Below w.heap.size w w') : w'.cell? p = some v := (hb.cell (World.block_lt_of_cell? w _ h)).trans h
theorem SeqAt.later_ {w w' : World} {v : Value} {xs : List Value} (h : SeqAt w v xs) (hb : Below w.heap.size w w') : SeqAt w' v xs := by
  obtain ⟨A, c, e, h1, h2, h3⟩ := h
  refine ⟨A, c, e, h1, h2, fun k u hu => ?_⟩
  obtain ⟨b, off, e2, hc⟩ := h3 k u hu
  exact ⟨b, off, e2, cell_later hc hb⟩
theorem Lies.drew {w : World} {g : Nat} {t : TypeId} {cs : Array Value} (h : Lies w g t cs) : Lies w.drew g t cs := h
theorem owns_drew {w : World} {B : Nat} {e : TypeId} {size n : Nat} {v : Value} {xs : List Value} (h : w.ownsRow B e size v n xs) : w.drew.ownsRow B e size v n xs := h
theorem Kept.drew (S : Nat → Prop) (w : World) : Kept S w w.drew := Kept.drewN S w 1
theorem kept_below_ {S : Nat → Prop} {a w w' : World} (k : Kept S a w) (hb : Below w.heap.size w w') : Kept S a w' := k.trans (Kept.of_below hb) (fun _ _ hf => hf.elim)
end Go.Proofs.Ytahojmioonpodaa
