import Derived.WalkKit
import Derived.ProofKit
import Derived.Lib.Hide
import Derived.Lib.AppendStr
import Derived.Lib.SlBytesRow
import Derived.Laws.AppendOwnNone
import Derived.Deep.AppendLies
import Derived.Deep.Draws
import Derived.BigQuiet
import Derived.Deep.QuietTactic
import Derived.Deep.RegionWith
import Derived.OpenShut
import Derived.Outline
import Derived.Deep.Slices
import Derived.ChangeSame
import Derived.Laws.IdiomStrings
import Derived.SliceStrings
import Derived.Laws.DeepStrings4
import Derived.SizedLaws
import Derived.Laws.OwnMore
import Derived.Test.YtdffpbfebgcmaaaGreatRows
import Derived.Deep.OwnRows
import Derived.Laws.StructEq
import Derived.RegionTactic
import Derived.Laws.Bits64
import Derived.Laws.Bits64b
import Derived.Deep.DeepCutAuto
import Derived.IntWalk
import Derived.Deep.RegionHeld
import Derived.Lib.SliceRun
import Derived.Deep.RegionLaw
import Derived.StillTailTactics
import Derived.Deep.MidRow
import Derived.Great.BuildSlice
import Derived.ShutString
import Derived.ChangeOld
import Derived.Below
namespace Go.Proofs.YtdffpbfebgcmaaaGreat
open Go.RowKit
set_option linter.unusedVariables false
set_option linter.unusedSimpArgs false
theorem then_ {w w1 w2 : World} (h : Below w.heap.size w w1) (h2 : Below w1.heap.size w1 w2) : Below w.heap.size w w2 := h.trans (h2.mono h.size)
theorem addr_add (g j : Nat) : (⟨g, 0, none⟩ : Addr).add j = ⟨g, j, none⟩ := by unfold Addr.add; split <;> simp_all
theorem ret_int {k : IntKind} {a b : Int} (h : a = b) : Ending.returned (.int k a) = .returned (.int k b) := by rw [h]
theorem ret_bool {a b : Bool} (h : a = b) : Ending.returned (.bool a) = .returned (.bool b) := by rw [h]
def Lies (w : World) (g : Nat) (t : TypeId) (cs : Array Value) : Prop := w.heap[g]? = some (.cells cs t (0, 0))
theorem Lies.lt {w : World} {g : Nat} {t : TypeId} {cs : Array Value} (h : Lies w g t cs) : g < w.heap.size := by
 unfold Lies at h
 exact (Array.getElem?_eq_some_iff.1 h).1
theorem Lies.cell {w : World} {g : Nat} {t : TypeId} {cs : Array Value} (h : Lies w g t cs) (i : Nat) : w.cell? ⟨g, i, none⟩ = cs[i]? := by
 unfold Lies at h
 simp [World.cell?, h]
theorem Lies.free {w : World} {g : Nat} {t : TypeId} {cs : Array Value} (h : Lies w g t cs) (i : Nat) : w.frozen? ⟨g, i, none⟩ = false := by
 unfold Lies at h
 simp [World.frozen?, h]
theorem Lies.made (w : World) (t : TypeId) (cs : Array Value) : Lies (w.alloc (.cells cs t)) w.heap.size t cs := heap_alloc_new w _
theorem Lies.put {w : World} {g : Nat} {t : TypeId} {cs : Array Value} (h : Lies w g t cs) (i : Nat) (u : Value) : Lies (w.setCell ⟨g, i, none⟩ u) g t (cs.setIfInBounds i u) := by
 unfold Lies at h ⊢
 simp [World.setCell, Array.getElem?_modify, h]
theorem Lies.same {w : World} {g : Nat} {t t' : TypeId} {cs cs' : Array Value} (h : Lies w g t cs) (h' : Lies w g t' cs') : t = t' ∧ cs = cs' := by
 unfold Lies at h h'
 rw [h] at h'
 injection h' with h'
 injection h' with h1 h2 _
 exact ⟨h2, h1⟩
structure Kept (S : Nat → Prop) (w1 w2 : World) : Prop where
 os : w2.os = w1.os
 tape : w2.tape = w1.tape
 output : w2.output = w1.output
 size : w1.heap.size ≤ w2.heap.size
 at_ : ∀ k, k < w1.heap.size → ¬ S k → w2.heap[k]? = w1.heap[k]?
def noRow : Nat → Prop := fun _ => False
def oneRow (g : Nat) : Nat → Prop := fun k => k = g
theorem Kept.refl (S : Nat → Prop) (w : World) : Kept S w w := ⟨rfl, rfl, rfl, Nat.le_refl _, fun _ _ _ => rfl⟩
theorem Kept.trans {S T : Nat → Prop} {a b c : World} (h : Kept S a b) (k : Kept T b c) (hs : ∀ i, i < a.heap.size → T i → S i) : Kept S a c :=
 ⟨k.os.trans h.os, k.tape.trans h.tape, k.output.trans h.output, Nat.le_trans h.size k.size, fun i hi hn =>
  (k.at_ i (Nat.lt_of_lt_of_le hi h.size) (fun ht => hn (hs i hi ht))).trans (h.at_ i hi hn)⟩
theorem Kept.mono {S T : Nat → Prop} {a b : World} (h : Kept S a b) (hs : ∀ i, i < a.heap.size → S i → T i) : Kept T a b :=
 ⟨h.os, h.tape, h.output, h.size, fun i hi hn => h.at_ i hi (fun ht => hn (hs i hi ht))⟩
theorem Kept.drewN (S : Nat → Prop) (w : World) (n : Nat) : Kept S w (w.drewN n) := ⟨rfl, rfl, rfl, Nat.le_refl _, fun _ _ _ => rfl⟩
theorem Kept.alloc (S : Nat → Prop) (w : World) (o : Obj) : Kept S w (w.alloc o) := ⟨rfl, rfl, rfl, by simp, fun _ hk _ => heap_alloc_old w o hk⟩
theorem Kept.put (w : World) (g i : Nat) (u : Value) : Kept (oneRow g) w (w.setCell ⟨g, i, none⟩ u) :=
 ⟨rfl, rfl, rfl, by simp, fun k _ hn => Below.heap_setCell _ _ _ _ (fun e => hn e)⟩
theorem Kept.of_grown {w w' : World} {row : Option Nat} (h : w.grownBy w' row) : Kept (fun k => row = some k) w w' :=
 ⟨h.os, h.tape, h.output, h.size, fun k hk hn => h.block k hk (fun e => hn e.symm)⟩
theorem Kept.of_below {w w' : World} (h : Below w.heap.size w w') : Kept noRow w w' := ⟨h.os, h.tape, h.output, h.size, fun k hk _ => h.block k hk⟩
theorem Kept.below {S : Nat → Prop} {B : Nat} {w w' : World} (h : Kept S w w') (hB : B ≤ w.heap.size) (hs : ∀ k, k < B → ¬ S k) : Below B w w' :=
 ⟨h.os, h.tape, h.output, h.size, fun k hk => h.at_ k (by omega) (hs k hk)⟩
section
variable {S : Nat → Prop} {w w' : World} {g : Nat} {t : TypeId} {cs : Array Value} {B : Nat} {e : TypeId} {size : Nat} {v : Value} {n : Nat} {xs : List Value}
theorem Lies.kept (h : Lies w g t cs) (k : Kept S w w') (hn : ¬ S g) : Lies w' g t cs := (k.at_ g h.lt hn).trans h
theorem Lies.below (h : Lies w g t cs) (k : Below B w w') (hg : g < B) : Lies w' g t cs := (k.block g hg).trans h
theorem Lies.drewN (h : Lies w g t cs) (m : Nat) : Lies (w.drewN m) g t cs := h
theorem Lies.alloc (h : Lies w g t cs) (o : Obj) : Lies (w.alloc o) g t cs := (heap_alloc_old w o h.lt).trans h
theorem Lies.far (h : Lies w g t cs) {p : Addr} (hp : g ≠ p.block) (u : Value) : Lies (w.setCell p u) g t cs := (Below.heap_setCell w p u g hp).trans h
theorem owns_row (h : w.ownsRow B e size v n xs) : (v = .slice none 0 0 ∧ n = 0 ∧ xs = []) ∨ ∃ r cap cur, v = .slice (some ⟨r, 0, none⟩) n cap ∧ B ≤ r ∧ Lies w r e cur ∧ n ≤ cap ∧ cap ≤ maxLen := by
 rcases h.2 with ⟨rfl, rfl⟩ | ⟨r, cap, cur, rfl, hb, hh, h1, h2, _⟩
 ·exact .inl ⟨rfl, rfl, by have := h.1; simpa using this⟩
 ·exact .inr ⟨r, cap, cur, rfl, hb, hh, h1, h2⟩
theorem owns_kept (h : w.ownsRow B e size v n xs) (k : Kept S w w') (hn : ∀ r cur, v.ownBlock = some r → Lies w r e cur → ¬ S r) : w'.ownsRow B e size v n xs := by
 refine ⟨h.1, ?_⟩
 rcases h.2 with h2 | ⟨r, cap, cur, rfl, hb, hh, rest⟩
 ·exact .inl h2
 ·exact .inr ⟨r, cap, cur, rfl, hb, (k.at_ r (Array.getElem?_eq_some_iff.1 hh).1 (hn r cur rfl hh)).trans hh, rest⟩
theorem owns_put (h : w.ownsRow B e size v n xs) (hg : Lies w g t cs) (hne : e ≠ t) (i : Nat) (u : Value) : (w.setCell ⟨g, i, none⟩ u).ownsRow B e size v n xs :=
 owns_kept h (Kept.put w g i u) (fun r cur _ hl hr => by
  have : r = g := hr
  subst this
  exact hne (hl.same hg).1)
theorem own_ne (h : w.ownsRow B e size v n xs) (hl : Lies w g t cs) (hne : e ≠ t) : ¬ v.ownBlock = some g := by
 intro hv
 rcases owns_row h with ⟨rfl, _⟩ | ⟨r, cap, cur, rfl, hr, hl2, _⟩
 ·cases hv
 ·obtain rfl : r = g := by simpa [Value.ownBlock] using hv
  exact hne (hl2.same hl).1
theorem kept_grown {o : Obj} {row : Option Nat} (h : (w.alloc o).grownBy w' row) : Kept (fun k => row = some k) w w' :=
 (Kept.alloc _ w o).trans (Kept.of_grown h) (fun _ _ h => h)
theorem owns_mono (h : w.ownsRow B e size v n xs) {B' : Nat} (hB : B' ≤ B) : w.ownsRow B' e size v n xs := by
 refine ⟨h.1, ?_⟩
 rcases h.2 with h2 | ⟨r, cap, cur, rfl, hb, rest⟩
 ·exact .inl h2
 ·exact .inr ⟨r, cap, cur, rfl, by omega, rest⟩
end
theorem addr_plus (b off k : Nat) : (⟨b, off, none⟩ : Addr).add k = ⟨b, off + k, none⟩ := by unfold Addr.add; split <;> simp_all
section
variable {P : Program} {W : World} {H : Type} {enc : TypeId × Value → H}
theorem argSlice_of {t e : TypeId} {a : Option Addr} {len cap sz : Nat} {d : DataW H} {p : List MemPlace} (ht : P.underlying t = some (.slice e)) (hc : P.cellsOf e = sz) (hsz : 0 < sz)
  (h : DataW.Trod enc P W 0 (fun _ => true) true t (.slice a len cap) d p) :
  len ≤ cap ∧ cap ≤ maxLen ∧ ∃ rows : Nat → List Value, ∀ i, i < len → (rows i).length = sz ∧ (∃ n y, DataW.trod enc P W 0 (fun _ => true) true n e (rows i) = some y) ∧
   ∃ b off, a = some ⟨b, off, none⟩ ∧ b < W.heap.size ∧ ∀ j, j < sz → W.cell? ⟨b, off + i * sz + j, none⟩ = (rows i)[j]? := by
 obtain ⟨fuel, hf⟩ := h
 rcases Deep.open_slice ht hf with ⟨hcs, _⟩ | ⟨x, l, c, m, n, D, Pl, hcs, _, hl, hm, hmm, _, hx⟩
 ·simp [Value.cells] at hcs
  obtain ⟨rfl, rfl, rfl⟩ := hcs
  exact ⟨by omega, by unfold maxLen; omega, fun _ => [], fun i hi => by omega⟩
 ·simp [Value.cells] at hcs
  obtain ⟨rfl, rfl, rfl⟩ := hcs
  simp at hmm
  subst hmm
  refine ⟨hl, hm, ?_⟩
  obtain ⟨rows, hr⟩ := Deep.choose_lt (α := List Value) (n := len) (p := fun i cs => W.cells? 0 (x.add (i * P.cellsOf e)) (P.cellsOf e) = some cs ∧ DataW.trod enc P W 0 (fun _ => true) true n e cs = some (D i, Pl i)) (fun i hi => hx i (by omega))
  refine ⟨rows, fun i hi => ?_⟩
  obtain ⟨h1, h2⟩ := hr i hi
  obtain ⟨h01, _⟩ := hr 0 (by omega)
  rw [hc] at h1 h01
  obtain ⟨_, g2, g3⟩ := World.cells?_some h1
  obtain ⟨_, g02, g03⟩ := World.cells?_some h01
  have z := g03 0 hsz
  rw [List.getElem?_eq_getElem (by omega), Nat.zero_mul] at z
  obtain ⟨b, off, spot⟩ := x
  have hlt := World.block_lt_of_cell? W _ z
  have hs := World.cell?_spot z
  simp [Addr.add] at hlt hs
  subst hs
  refine ⟨g2, ⟨n, _, h2⟩, b, off, rfl, hlt, fun j hj => ?_⟩
  have := g3 j hj
  rwa [addr_plus, addr_plus] at this
end
def SeqAt (w : World) (v : Value) (xs : List Value) : Prop := ∃ A c, v = .slice A xs.length c ∧ xs.length ≤ c ∧ c ≤ maxLen ∧ ∀ k u, xs[k]? = some u → ∃ b off, A = some ⟨b, off, none⟩ ∧ w.cell? ⟨b, off + k, none⟩ = some u
theorem SeqAt.of_owns {w : World} {B : Nat} {e : TypeId} {v : Value} {n : Nat} {xs : List Value} (h : w.ownsRow B e 1 v n xs) : SeqAt w v xs := by
 have hn : xs.length = n := by have := h.1; omega
 rcases owns_row h with ⟨rfl, h0, rfl⟩ | ⟨r, cap, cur, rfl, _, _, h1, h2⟩
 ·exact ⟨none, 0, rfl, by simp, by unfold maxLen; simp, fun k u hu => by simp at hu⟩
 ·subst hn
  exact ⟨_, cap, rfl, h1, h2, fun k u hu => ⟨r, 0, rfl, by
   have := h.cells (g := r) rfl k u hu
   rw [addr_add] at this
   rw [Nat.zero_add]; exact this⟩⟩
theorem SeqAt.get {w w' : World} {A : Option Addr} {c n : Nat} {xs : List Value} (h : SeqAt w (.slice A n c) xs) (hb : Below w.heap.size w w') {k : Nat} {u : Value} (hk : xs[k]? = some u) :
  ∃ b off, A = some ⟨b, off, none⟩ ∧ b < w.heap.size ∧ w'.cell? ⟨b, off + k, none⟩ = some u := by
 obtain ⟨A', c', e, _, _, h3⟩ := h
 injection e with e1 e2 e3
 subst e1
 obtain ⟨b, off, e, hc⟩ := h3 k u hk
 have hl := World.block_lt_of_cell? w _ hc
 exact ⟨b, off, e, hl, (hb.cell (p := ⟨b, off + k, none⟩) hl).trans hc⟩
theorem below_drewN {B : Nat} {a w : World} (h : Below B a w) (n : Nat) : Below B a (w.drewN n) := ⟨h.os, h.tape, h.output, h.size, h.block⟩
theorem cell_later {w w' : World} {p : Addr} {v : Value} (h : w.cell? p = some v) (hb : Below w.heap.size w w') : w'.cell? p = some v := (hb.cell (World.block_lt_of_cell? w _ h)).trans h
theorem SeqAt.later_ {w w' : World} {v : Value} {xs : List Value} (h : SeqAt w v xs) (hb : Below w.heap.size w w') : SeqAt w' v xs := by
 obtain ⟨A, c, e, h1, h2, h3⟩ := h
 refine ⟨A, c, e, h1, h2, fun k u hu => ?_⟩
 obtain ⟨b, off, e2, hc⟩ := h3 k u hu
 exact ⟨b, off, e2, cell_later hc hb⟩
theorem Lies.drew {w : World} {g : Nat} {t : TypeId} {cs : Array Value} (h : Lies w g t cs) : Lies w.drew g t cs := h
theorem owns_drew {w : World} {B : Nat} {e : TypeId} {size n : Nat} {v : Value} {xs : List Value} (h : w.ownsRow B e size v n xs) : w.drew.ownsRow B e size v n xs := h
theorem Kept.drew (S : Nat → Prop) (w : World) : Kept S w w.drew := Kept.drewN S w 1
def SeqS (w : World) (sz : Nat) (v : Value) (n : Nat) (xs : List Value) : Prop :=
 xs.length = n * sz ∧ ∃ A c, v = .slice A n c ∧ n ≤ c ∧ c ≤ maxLen ∧ (A = none → c = 0) ∧ ∀ k u, xs[k]? = some u → ∃ b off, A = some ⟨b, off, none⟩ ∧ w.cell? ⟨b, off + k, none⟩ = some u
section
variable {w w' : World} {B : Nat} {e : TypeId} {sz n : Nat} {v : Value} {xs : List Value}
theorem SeqS.of_owns (h : w.ownsRow B e sz v n xs) : SeqS w sz v n xs := by
 refine ⟨h.1, ?_⟩
 rcases owns_row h with ⟨rfl, h0, rfl⟩ | ⟨r, cap, cur, rfl, _, _, h1, h2⟩
 ·subst h0
  exact ⟨none, 0, rfl, Nat.le_refl _, by unfold maxLen; omega, fun _ => rfl, fun k u hu => by simp at hu⟩
 ·exact ⟨_, cap, rfl, h1, h2, (fun h => by cases h), fun k u hu => ⟨r, 0, rfl, by
   have := h.cells (g := r) rfl k u hu
   rw [addr_add] at this
   rw [Nat.zero_add]; exact this⟩⟩
theorem SeqS.later (h : SeqS w sz v n xs) (hb : Below w.heap.size w w') : SeqS w' sz v n xs := by
 obtain ⟨h1, A, c, rfl, h2, h3, h0, h4⟩ := h
 refine ⟨h1, A, c, rfl, h2, h3, h0, fun k u hu => ?_⟩
 obtain ⟨b, off, rfl, hc⟩ := h4 k u hu
 exact ⟨b, off, rfl, (hb.cell (p := ⟨b, off + k, none⟩) (World.block_lt_of_cell? w _ hc)).trans hc⟩
theorem SeqS.elem (h : SeqS w sz v n xs) {i : Nat} (hi : i < n) (hz : 0 < sz) : ∃ b off c, v = .slice (some ⟨b, off, none⟩) n c ∧ n ≤ c ∧ c ≤ maxLen ∧ ∀ j u, j < sz → xs[i * sz + j]? = some u → w.cell? ⟨b, off + i * sz + j, none⟩ = some u := by
 obtain ⟨h1, A, c, rfl, h2, h3, _, h4⟩ := h
 have hl : i * sz < xs.length := by rw [h1]; exact Nat.mul_lt_mul_of_pos_right hi hz
 obtain ⟨b, off, rfl, _⟩ := h4 (i * sz) _ (List.getElem?_eq_getElem hl)
 refine ⟨b, off, c, rfl, h2, h3, fun j u hj hu => ?_⟩
 obtain ⟨b', off', e, hc⟩ := h4 _ u hu
 cases e
 rw [Nat.add_assoc]; exact hc
theorem SeqS.form (h : SeqS w sz v n xs) : ∃ A c, v = .slice A n c ∧ n ≤ c ∧ c ≤ maxLen ∧ (A = none → c = 0) := by
 obtain ⟨h1, A, c, rfl, h2, h3, h0, _⟩ := h
 exact ⟨A, c, rfl, h2, h3, h0⟩
end
theorem append_argS {P : Program} {ops : Array Oper} {rest : List Oper} {o : Oper} {a : Act} {Q : Exit → Act → World → Prop} (w : World) (sz : Nat)
  (hg : o.guard = none) (s y : Operand) (t : TypeId) (hop : o.op = Op.call { callee := Callee.builtin Builtin.append, args := #[s, y], argTypes := #[t, t] })
  (base : Nat) (e : TypeId) (z : Value) (bytes : Nat) (ht : P.underlying t = some (.slice e)) (hi : (P.info? e).map (fun i => (i.zero, i.size, i.bytes)) = some (some z, sz, bytes))
  (hzs : z.cells.size = sz) (hsz : 0 < sz)
  (v : Value) (n : Nat) (ys : List Value) (hs : a.eval s = v) (hown : w.ownsRow base e sz v n ys) (A : Option Addr) (len cap : Nat) (hy : a.eval y = .slice A len cap)
  (xs : List Value) (hx : SeqS w sz (.slice A len cap) len xs) (h1 : ∀ u ∈ xs, u.oneCell' = true)
  (b1 : n + len ≤ maxLen) (b2 : (n + len) * bytes ≤ 140737488355328) (b3 : base ≤ w.heap.size)
  (hK : ∀ v' w', w'.ownsRow base e sz v' (n + len) (ys ++ xs) → Below base w w' → w.grownBy w' v.ownBlock → wpList P ops Q rest (a.put o.dst v') w') :
  wpList P ops Q (o :: rest) a w := by
 obtain ⟨i0, hi, hz0, hz1, hz2⟩ := info_parts hi
 obtain ⟨hl, A', c', e1, hlc, hcm, h0, hcell⟩ := hx
 simp only [Value.slice.injEq, true_and] at e1
 obtain ⟨rfl, rfl⟩ := e1
 cases A with
 | none =>
  have hc0 := h0 rfl
  subst hc0
  obtain rfl : len = 0 := by omega
  have hx0 : xs = [] := List.length_eq_zero_iff.1 (by simpa using hl)
  subst hx0
  refine wpList_append_own_none hg s y t hop base e i0 sz ht hi v n ys hs hown hy ?_
  exact hK v w (by simpa using hown) (Below.refl _ _) ⟨rfl, rfl, rfl, Nat.le_refl _, fun _ _ _ => rfl⟩
 | some ad =>
  refine wpList_append_own _ hg s y t hop base e i0 z sz bytes ht hi hz0 hz1 hz2 hzs hsz v n ys hs hown ad len cap xs hy hl ?_ h1 b1 b2 b3 ?_
  ·intro j u hj
   obtain ⟨b, off, he, hc⟩ := hcell j u hj
   injection he with he
   subst he
   rw [addr_plus]; exact hc
  ·intro v' w' ho hgr _
   exact hK v' w' ho ((Below.refl _ _).grown hgr b3 (fun k hk => (hown.lt k hk).1)) hgr
theorem flat_length {rows : Nat → List Value} {sz : Nat} : ∀ n, (∀ i, i < n → (rows i).length = sz) → ((List.range n).flatMap rows).length = n * sz
 | 0, _ => by simp
 | n + 1, h => by
  rw [List.range_succ, List.flatMap_append, List.length_append, flat_length n (fun i hi => h i (by omega))]
  simp [h n (by omega), Nat.add_mul]
theorem flat_get {rows : Nat → List Value} {sz : Nat} : ∀ n, (∀ i, i < n → (rows i).length = sz) → ∀ i j, i < n → j < sz → ((List.range n).flatMap rows)[i * sz + j]? = (rows i)[j]?
 | 0, _, i, j, hi, _ => by omega
 | n + 1, h, i, j, hi, hj => by
  have hl := flat_length n (fun i hi => h i (by omega))
  rw [List.range_succ, List.flatMap_append]
  by_cases e : i = n
  ·subst e
   rw [List.getElem?_append_right (by omega), hl, Nat.add_sub_cancel_left]
   simp
  ·have hm : i * sz + sz ≤ n * sz := by
    have := Nat.mul_le_mul_right sz (show i + 1 ≤ n by omega)
    rw [Nat.add_mul] at this; omega
   rw [List.getElem?_append_left (by omega)]
   exact flat_get n (fun i hi => h i (by omega)) i j (by omega) hj
section
variable {P : Program} {W : World} {H : Type} {enc : TypeId × Value → H}
theorem argRows {t e : TypeId} {a : Option Addr} {len cap sz : Nat} {d : DataW H} {p : List MemPlace} (ht : P.underlying t = some (.slice e)) (hc : P.cellsOf e = sz) (hsz : 0 < sz)
  (h : DataW.Trod enc P W 0 (fun _ => true) true t (.slice a len cap) d p) :
  (a = none → len = 0 ∧ cap = 0) ∧ ∃ rows : Nat → List Value, (∀ i, i < len → (rows i).length = sz ∧ ∃ n y, DataW.trod enc P W 0 (fun _ => true) true n e (rows i) = some y) ∧ SeqS W sz (.slice a len cap) len ((List.range len).flatMap rows) := by
 have hn : a = none → len = 0 ∧ cap = 0 := by
  obtain ⟨fuel, hf⟩ := h
  rcases Deep.open_slice ht hf with ⟨hcs, _⟩ | ⟨x, l, c, m, n, D, Pl, hcs, _⟩
  ·simp [Value.cells] at hcs
   exact fun _ => hcs.2
  ·simp [Value.cells] at hcs
   intro ha; rw [ha] at hcs; exact absurd hcs.1 (by simp)
 obtain ⟨h1, h2, rows, hr⟩ := argSlice_of ht hc hsz h
 refine ⟨hn, rows, fun i hi => ⟨(hr i hi).1, (hr i hi).2.1⟩, ?_⟩
 have hl := flat_length (rows := rows) (sz := sz) len (fun i hi => (hr i hi).1)
 refine ⟨hl, a, cap, rfl, h1, h2, fun ha => (hn ha).2, fun k u hu => ?_⟩
 have hk : k < len * sz := by rw [← hl]; exact (List.getElem?_eq_some_iff.1 hu).1
 have hi : k / sz < len := (Nat.div_lt_iff_lt_mul hsz).2 hk
 have hj : k % sz < sz := Nat.mod_lt _ hsz
 have hkk : k / sz * sz + k % sz = k := by rw [Nat.mul_comm]; exact Nat.div_add_mod k sz
 have hg := flat_get (rows := rows) (sz := sz) len (fun i hi => (hr i hi).1) (k / sz) (k % sz) hi hj
 rw [hkk, hu] at hg
 obtain ⟨_, _, b, off, ea, _, hc⟩ := hr (k / sz) hi
 refine ⟨b, off, ea, ?_⟩
 have := hc (k % sz) hj
 rw [Nat.add_assoc, hkk] at this
 rw [this, ← hg]
end
theorem flatMap_congr_range {α : Type} {f g : Nat → List α} : ∀ n, (∀ i, i < n → f i = g i) → (List.range n).flatMap f = (List.range n).flatMap g
 | 0, _ => rfl
 | n + 1, h => by
  rw [List.range_succ, List.flatMap_append, List.flatMap_append, flatMap_congr_range n (fun i hi => h i (by omega))]
  simp [h n (by omega)]
section
variable {α : Type} {f : α → List Value} {sz : Nat}
def rowsOf (f : α → List Value) (l : List α) : List Value := l.flatMap f
theorem rowsOf_length (hf : ∀ x, (f x).length = sz) (l : List α) : (rowsOf f l).length = l.length * sz := by
 induction l with
 | nil => simp [rowsOf]
 | cons a l ih => simp only [rowsOf, List.flatMap_cons, List.length_append, List.length_cons, Nat.add_mul, hf] at *; omega
theorem rowsOf_append (l m : List α) : rowsOf f (l ++ m) = rowsOf f l ++ rowsOf f m := by simp [rowsOf]
theorem rowsOf_cons (a : α) (l : List α) : rowsOf f (a :: l) = f a ++ rowsOf f l := by simp [rowsOf]
theorem rowsOf_get (hf : ∀ x, (f x).length = sz) : ∀ {l : List α} {i : Nat} {x : α} (_ : l[i]? = some x) {j : Nat} (_ : j < sz), (rowsOf f l)[i * sz + j]? = (f x)[j]?
 | a :: l, 0, x, h, j, hj => by
  simp at h; subst h
  rw [rowsOf_cons, Nat.zero_mul, Nat.zero_add, List.getElem?_append_left (by rw [hf]; exact hj)]
 | a :: l, i + 1, x, h, j, hj => by
  rw [rowsOf_cons, List.getElem?_append_right (by rw [hf, Nat.add_mul]; omega), hf, show (i + 1) * sz + j - sz = i * sz + j by rw [Nat.add_mul]; omega]
  exact rowsOf_get hf (by simpa using h) hj
theorem rowsOf_set1 (hf : ∀ x, (f x).length = sz) : ∀ {l : List α} {i : Nat} {x y : α} {j : Nat} {u : Value} (_ : l[i]? = some x) (_ : j < sz) (_ : f y = (f x).set j u), (rowsOf f l).set (i * sz + j) u = rowsOf f (l.set i y)
 | a :: l, 0, x, y, j, u, h, hj, hy => by
  simp at h; subst h
  rw [rowsOf_cons, Nat.zero_mul, Nat.zero_add, List.set_append_left _ _ (by rw [hf]; exact hj), ← hy, List.set_cons_zero, rowsOf_cons]
 | a :: l, i + 1, x, y, j, u, h, hj, hy => by
  rw [rowsOf_cons, List.set_append_right _ _ (by rw [hf, Nat.add_mul]; omega), hf, show (i + 1) * sz + j - sz = i * sz + j by rw [Nat.add_mul]; omega, rowsOf_set1 hf (by simpa using h) hj hy, List.set_cons_succ, rowsOf_cons]
theorem rowsOf_mem {l : List α} {u : Value} (h : u ∈ rowsOf f l) : ∃ x ∈ l, u ∈ f x := List.mem_flatMap.1 h
theorem SeqS.at_ {w : World} {A : Option Addr} {n c : Nat} {l : List α} (hf : ∀ x, (f x).length = sz) (hs : 0 < sz) (h : SeqS w sz (.slice A n c) n (rowsOf f l)) {k : Nat} {x : α} (hx : l[k]? = some x) :
  ∃ b off, A = some ⟨b, off, none⟩ ∧ b < w.heap.size ∧ ∀ j u, j < sz → (f x)[j]? = some u → w.cell? ⟨b, off + k * sz + j, none⟩ = some u := by
 have hk : k < n := by
  have h1 := h.1
  rw [rowsOf_length hf] at h1
  have := Nat.eq_of_mul_eq_mul_right hs h1
  rw [← this]; exact (List.getElem?_eq_some_iff.1 hx).1
 obtain ⟨b, off, c', hA, _, _, hc⟩ := h.elem (i := k) hk hs
 simp only [Value.slice.injEq] at hA
 obtain ⟨rfl, _, _⟩ := hA
 have hg := fun j u hj hu => hc j u hj (by rw [rowsOf_get hf hx hj]; exact hu)
 refine ⟨b, off, rfl, ?_, hg⟩
 have hl := hf x
 exact World.block_lt_of_cell? w _ (hg 0 _ hs (List.getElem?_eq_getElem (by omega)))
theorem SeqS.len_ {w : World} {v : Value} {n : Nat} {l : List α} (hf : ∀ x, (f x).length = sz) (hs : 0 < sz) (h : SeqS w sz v n (rowsOf f l)) : l.length = n := by
 have h1 := h.1
 rw [rowsOf_length hf] at h1
 exact Nat.eq_of_mul_eq_mul_right hs h1
theorem range_rows (g : Nat → α) (n : Nat) : (List.range n).flatMap (fun i => f (g i)) = rowsOf f ((List.range n).map g) := by unfold rowsOf; rw [List.flatMap_map]
end
section
variable {P : Program} {W : World} {H : Type} {enc : TypeId × Value → H}
def IntField (P : Program) (k : IntKind) (i : Nat) (f : Field) : Prop := P.underlying f.type = some (.int k) ∧ f.offset = i ∧ P.cellsOf f.type = 1
theorem int_field {e : TypeId} {fs : Array Field} {n : Nat} {cs : List Value} {y : DataW H × List MemPlace} (he : P.underlying e = some (.struct fs)) (h : DataW.trod enc P W 0 (fun _ => true) true n e cs = some y)
  {i : Nat} {f : Field} {k : IntKind} (hf : fs[i]? = some f) (hk : IntField P k i f) : ∃ z, cs[i]? = some (.int k z) ∧ (Lit.int k z).wf = true := by
 obtain ⟨xs, m, _, _, hl, hn, hx⟩ := DataW.trod_struct he h
 obtain ⟨k1, k2, k3⟩ := hk
 have := hx i f hf
 rw [k2, k3] at this
 have hi : i < xs.length := by rw [hn]; exact (Array.getElem?_eq_some_iff.1 hf).1
 rw [List.getElem?_eq_getElem hi] at this
 obtain ⟨z, e1, _, e2⟩ := DataW.trod_int k1 this
 refine ⟨z, ?_, e2⟩
 have e3 : ((cs.drop i).take 1)[0]? = some (.int k z) := by rw [e1]; rfl
 rw [List.getElem?_take, if_pos (by decide), List.getElem?_drop] at e3
 exact e3
def ArgOf {α : Type} (f : α → List Value) (sz : Nat) (ok : α → Prop) (w : World) (a : Option Addr) (len cap : Nat) (l : List α) : Prop :=
 (a = none → len = 0 ∧ cap = 0) ∧ l.length = len ∧ SeqS w sz (.slice a len cap) len (rowsOf f l) ∧ ∀ x ∈ l, ok x
theorem argOf {α : Type} [Inhabited α] {f : α → List Value} {sz : Nat} {ok : α → Prop} {t e : TypeId} {a : Option Addr} {len cap : Nat} {d : DataW H} {p : List MemPlace} (ht : P.underlying t = some (.slice e)) (hc : P.cellsOf e = sz) (hsz : 0 < sz)
  (hopen : ∀ n cs y, cs.length = sz → DataW.trod enc P W 0 (fun _ => true) true n e cs = some y → ∃ x, cs = f x ∧ ok x)
  (h : DataW.Trod enc P W 0 (fun _ => true) true t (.slice a len cap) d p) : ∃ l, ArgOf f sz ok W a len cap l := by
 obtain ⟨h1, rows, h2, h3⟩ := argRows (sz := sz) ht hc hsz h
 obtain ⟨z, hz⟩ := Deep.choose_lt (α := α) (n := len) (p := fun i q => rows i = f q ∧ ok q) (fun i hi => by
  obtain ⟨g1, n, y, g2⟩ := h2 i hi
  exact hopen n _ y g1 g2)
 have he : (List.range len).flatMap rows = rowsOf f ((List.range len).map z) := by
  rw [← range_rows]
  exact flatMap_congr_range len (fun i hi => (hz i hi).1)
 rw [he] at h3
 refine ⟨(List.range len).map z, h1, by simp, h3, fun q hq => ?_⟩
 obtain ⟨i, hi, rfl⟩ := List.mem_map.1 hq
 exact (hz i (List.mem_range.1 hi)).2
end
structure Sl where
 s : Nat
 v : Nat
 l : Int
instance : Inhabited Sl := ⟨⟨0, 0, 0⟩⟩
def slF (x : Sl) : List Value := [.int .u64 (x.s : Int), .int .u64 (x.v : Int), .int .i64 x.l]
theorem slF_length (x : Sl) : (slF x).length = 3 := rfl
theorem slF_one : ∀ (l : List Sl), ∀ u ∈ rowsOf slF l, u.oneCell' = true := fun l u hu => by
 obtain ⟨x, _, hx⟩ := rowsOf_mem hu
 simp [slF] at hx
 rcases hx with rfl | rfl | rfl <;> rfl
def everyN (r : Nat) : Int := 2 ^ r - 1
def slX (L : List Sl) (t : Nat) : Sl := L.getD (t % L.length) ⟨0, 0, 0⟩
theorem slX_get {L : List Sl} (h : 0 < L.length) (t : Nat) : L[t % L.length]? = some (slX L t) := by
 unfold slX; rw [List.getD_eq_getElem?_getD, List.getElem?_eq_getElem (Nat.mod_lt _ h)]; rfl
def freeB (L : List Sl) (t : Nat) : Bool := decide (t < 4611686018427387904 ∧ (slX L t).s = 2 * t)
def putE (L : List Sl) (t : Nat) : Nat := if 4611686018427387904 ≤ t then 1 else if (slX L t).s < 2 * t then 8 else if 2 * t < (slX L t).s then 11 else 0
def putS (r : Nat) (L : List Sl) (t v : Nat) : List Sl := if putE L t = 0 then L.set (t % L.length) ⟨2 * t + 1, v, everyN r⟩ else L
def hasBit (l : Int) (j : Nat) : Bool := decide (l / 2 ^ j % 2 = 1)
def getE (r : Nat) (L : List Sl) (j : Int) (t : Nat) : Nat :=
 if 4611686018427387904 ≤ t ∨ j < 0 ∨ (r : Int) ≤ j then 1 else if (slX L t).s < 2 * t + 1 then 9 else if 2 * t + 1 < (slX L t).s ∨ hasBit (slX L t).l j.toNat = false then 11 else 0
def getV (r : Nat) (L : List Sl) (j : Int) (t : Nat) : Nat := if getE r L j t = 0 then (slX L t).v else 0
def gotX (c : Nat) (x : Sl) (j t : Nat) : Sl := if x.l - 2 ^ j = 0 then ⟨2 * (t + c), 0, 0⟩ else ⟨x.s, x.v, x.l - 2 ^ j⟩
def getS (r : Nat) (L : List Sl) (j : Int) (t : Nat) : List Sl := if getE r L j t = 0 then L.set (t % L.length) (gotX L.length (slX L t) j.toNat t) else L
def newS (c : Nat) : List Sl := (List.range c).map fun i => ⟨2 * i, 0, 0⟩
def slOk (r : Nat) (x : Sl) : Prop := x.s < 18446744073709551616 ∧ x.v < 18446744073709551616 ∧ 0 ≤ x.l ∧ x.l ≤ everyN r
def SlOk (r : Nat) (L : List Sl) : Prop := 1 ≤ L.length ∧ L.length ≤ 64 ∧ 1 ≤ r ∧ r ≤ 8 ∧ ∀ x ∈ L, slOk r x
theorem everyN_pos {r : Nat} (h : r ≤ 8) : 0 ≤ everyN r ∧ everyN r ≤ 255 := by
 unfold everyN
 rcases (show r = 0 ∨ r = 1 ∨ r = 2 ∨ r = 3 ∨ r = 4 ∨ r = 5 ∨ r = 6 ∨ r = 7 ∨ r = 8 by omega) with rfl | rfl | rfl | rfl | rfl | rfl | rfl | rfl | rfl <;> decide
theorem newS_length (c : Nat) : (newS c).length = c := by simp [newS]
theorem newS_ok {c r : Nat} (h1 : 1 ≤ c) (h2 : c ≤ 64) (h3 : 1 ≤ r) (h4 : r ≤ 8) : SlOk r (newS c) := by
 refine ⟨by rw [newS_length]; exact h1, by rw [newS_length]; exact h2, h3, h4, fun x hx => ?_⟩
 obtain ⟨i, hi, rfl⟩ := List.mem_map.1 hx
 have := List.mem_range.1 hi
 have := everyN_pos h4
 exact ⟨by simp only; omega, by simp only; omega, by simp only; omega, by simp only; omega⟩
theorem slX_ok {r : Nat} {L : List Sl} (h : SlOk r L) (t : Nat) : slOk r (slX L t) := h.2.2.2.2 _ (List.mem_of_getElem? (slX_get h.1 t))
theorem SlOk.set {r : Nat} {L : List Sl} (h : SlOk r L) {x : Sl} (hx : slOk r x) (i : Nat) : SlOk r (L.set i x) := by
 refine ⟨by rw [List.length_set]; exact h.1, by rw [List.length_set]; exact h.2.1, h.2.2.1, h.2.2.2.1, fun y hy => ?_⟩
 rcases List.mem_or_eq_of_mem_set hy with hy | rfl
 ·exact h.2.2.2.2 y hy
 ·exact hx
theorem putS_length (r : Nat) (L : List Sl) (t v : Nat) : (putS r L t v).length = L.length := by unfold putS; split <;> simp
theorem getS_length (r : Nat) (L : List Sl) (j : Int) (t : Nat) : (getS r L j t).length = L.length := by unfold getS; split <;> simp
theorem putS_ok {r : Nat} {L : List Sl} (h : SlOk r L) (t v : Nat) (hv : v < 18446744073709551616) : SlOk r (putS r L t v) := by
 unfold putS
 split
 ·rename_i he
  refine h.set ⟨?_, hv, ?_⟩ _
  ·unfold putE at he
   by_cases ht : 4611686018427387904 ≤ t
   ·rw [if_pos ht] at he; exact absurd he (by decide)
   ·simp only; omega
  ·have := everyN_pos h.2.2.2.1
   exact ⟨this.1, by simp⟩
 ·exact h
theorem hasBit_le {l : Int} {j : Nat} (h0 : 0 ≤ l) (h : hasBit l j = true) : 2 ^ j ≤ l := by
 have h1 := of_decide_eq_true h
 have hp : (0 : Int) < 2 ^ j := Int.pow_pos (by decide)
 rcases Int.lt_or_le l (2 ^ j) with h2 | h2
 ·rw [Int.ediv_eq_zero_of_lt h0 h2] at h1; exact absurd h1 (by decide)
 ·exact h2
theorem getE_ok {r : Nat} {L : List Sl} {j : Int} {t : Nat} (h : getE r L j t = 0) : t < 4611686018427387904 ∧ 0 ≤ j ∧ j < (r : Int) ∧ (slX L t).s = 2 * t + 1 ∧ hasBit (slX L t).l j.toNat = true := by
 unfold getE at h
 split at h
 ·exact absurd h (by decide)
 ·split at h
  ·exact absurd h (by decide)
  ·split at h
   ·exact absurd h (by decide)
   ·rename_i h1 h2 h3
    refine ⟨by omega, by omega, by omega, by omega, ?_⟩
    by_cases hb : hasBit (slX L t).l j.toNat = true
    ·exact hb
    ·exact absurd (.inr (by simpa using hb)) h3
theorem gotX_ok {r c : Nat} {x : Sl} {j t : Nat} (h : slOk r x) (hb : hasBit x.l j = true) (ht : t < 4611686018427387904) (hc : c ≤ 64) (hr : r ≤ 8) : slOk r (gotX c x j t) := by
 obtain ⟨h1, h2, h3, h4⟩ := h
 have := hasBit_le h3 hb
 have hp : (0 : Int) < 2 ^ j := Int.pow_pos (by decide)
 have := everyN_pos hr
 unfold gotX
 split
 ·exact ⟨by simp only; omega, by simp only; omega, by simp only; omega, by simp only; omega⟩
 ·exact ⟨h1, h2, by simp only; omega, by simp only; omega⟩
theorem getS_ok {r : Nat} {L : List Sl} (h : SlOk r L) (j : Int) (t : Nat) : SlOk r (getS r L j t) := by
 unfold getS
 split
 ·rename_i he
  obtain ⟨h1, _, _, _, h5⟩ := getE_ok he
  exact h.set (gotX_ok (slX_ok h t) h5 h1 h.2.1 h.2.2.2.1) _
 ·exact h
def slObj (r : Nat) (L M : List Sl) : List Value := [.int .i64 (L.length : Int), .int .i64 (r : Int)] ++ rowsOf slF (L ++ M)
def SlAt (w : World) (g : Nat) (T : TypeId) (pre post : List Value) (r : Nat) (L : List Sl) : Prop :=
 ∃ M, (L ++ M).length = 64 ∧ SlOk r L ∧ Lies w g T (pre ++ (slObj r L M ++ post)).toArray
theorem Lies.putL {w : World} {g : Nat} {T : TypeId} {l : List Value} (h : Lies w g T l.toArray) (i : Nat) (u : Value) : Lies (w.setCell ⟨g, i, none⟩ u) g T (l.set i u).toArray := by
 have := h.put i u
 rwa [List.setIfInBounds_toArray] at this
theorem mid_set (pre ob post : List Value) (k : Nat) (u : Value) (h : k < ob.length) : (pre ++ (ob ++ post)).set (pre.length + k) u = pre ++ (ob.set k u ++ post) := by
 rw [List.set_append_right _ _ (by omega), Nat.add_sub_cancel_left, List.set_append_left _ _ h]
theorem mid_get (pre ob post : List Value) (k : Nat) (h : k < ob.length) : (pre ++ (ob ++ post))[pre.length + k]? = ob[k]? := by
 rw [List.getElem?_append_right (by omega), Nat.add_sub_cancel_left, List.getElem?_append_left h]
theorem slObj_length (r : Nat) (L M : List Sl) : (slObj r L M).length = 2 + (L ++ M).length * 3 := by
 unfold slObj; rw [List.length_append, rowsOf_length slF_length]; rfl
theorem slObj_get {r : Nat} {L M : List Sl} {i : Nat} {x : Sl} (h : L[i]? = some x) {j : Nat} (hj : j < 3) : (slObj r L M)[2 + i * 3 + j]? = (slF x)[j]? := by
 unfold slObj
 have hi : i < L.length := (List.getElem?_eq_some_iff.1 h).1
 rw [List.getElem?_append_right (by simp; omega)]
 rw [show 2 + i * 3 + j - [Value.int .i64 (L.length : Int), Value.int .i64 (r : Int)].length = i * 3 + j by simp; omega]
 exact rowsOf_get slF_length (by rw [List.getElem?_append_left hi]; exact h) hj
theorem slObj_set {r : Nat} {L M : List Sl} {i : Nat} {x y : Sl} (h : L[i]? = some x) {j : Nat} (hj : j < 3) {u : Value} (hy : slF y = (slF x).set j u) : (slObj r L M).set (2 + i * 3 + j) u = slObj r (L.set i y) M := by
 have hi : i < L.length := (List.getElem?_eq_some_iff.1 h).1
 unfold slObj
 rw [List.set_append_right _ _ (by simp; omega)]
 rw [show 2 + i * 3 + j - [Value.int .i64 (L.length : Int), Value.int .i64 (r : Int)].length = i * 3 + j by simp; omega]
 rw [rowsOf_set1 slF_length (by rw [List.getElem?_append_left hi]; exact h) hj hy, List.set_append_left _ _ hi, List.length_set]
section
variable {w w' : World} {g : Nat} {T : TypeId} {pre post : List Value} {r : Nat} {L : List Sl}
theorem SlAt.kept {S : Nat → Prop} (h : SlAt w g T pre post r L) (k : Kept S w w') (hn : ¬ S g) : SlAt w' g T pre post r L := by
 obtain ⟨M, h1, h2, h3⟩ := h
 exact ⟨M, h1, h2, h3.kept k hn⟩
theorem SlAt.later (h : SlAt w g T pre post r L) (hb : Below w.heap.size w w') : SlAt w' g T pre post r L := h.kept (Kept.of_below hb) (fun hf => hf)
theorem SlAt.lt (h : SlAt w g T pre post r L) : g < w.heap.size := by obtain ⟨_, _, _, h3⟩ := h; exact h3.lt
theorem SlAt.ok (h : SlAt w g T pre post r L) : SlOk r L := by obtain ⟨_, _, h2, _⟩ := h; exact h2
theorem SlAt.free (h : SlAt w g T pre post r L) (i : Nat) : w.frozen? ⟨g, i, none⟩ = false := by obtain ⟨_, _, _, h3⟩ := h; exact h3.free i
theorem SlAt.heads (h : SlAt w g T pre post r L) : w.cell? ⟨g, pre.length, none⟩ = some (.int .i64 (L.length : Int)) ∧ w.cell? ⟨g, pre.length + 1, none⟩ = some (.int .i64 (r : Int)) := by
 obtain ⟨M, h1, h2, h3⟩ := h
 have hl := slObj_length r L M
 constructor
 ·rw [h3.cell]
  have := mid_get pre (slObj r L M) post 0 (by omega)
  rw [List.getElem?_toArray]; rw [Nat.add_zero] at this; rw [this]; rfl
 ·rw [h3.cell]
  have := mid_get pre (slObj r L M) post 1 (by omega)
  rw [List.getElem?_toArray, this]; rfl
theorem SlAt.cells {i : Nat} {x : Sl} (h : SlAt w g T pre post r L) (hx : L[i]? = some x) :
  w.cell? ⟨g, pre.length + 2 + i * 3, none⟩ = some (.int .u64 (x.s : Int)) ∧ w.cell? ⟨g, pre.length + 2 + i * 3 + 1, none⟩ = some (.int .u64 (x.v : Int)) ∧ w.cell? ⟨g, pre.length + 2 + i * 3 + 2, none⟩ = some (.int .i64 x.l) := by
 obtain ⟨M, h1, h2, h3⟩ := h
 have hi : i < L.length := (List.getElem?_eq_some_iff.1 hx).1
 have hl := slObj_length r L M
 rw [List.length_append] at h1 hl
 have hg : ∀ j, j < 3 → w.cell? ⟨g, pre.length + 2 + i * 3 + j, none⟩ = (slF x)[j]? := fun j hj => by
  rw [h3.cell, List.getElem?_toArray, show pre.length + 2 + i * 3 + j = pre.length + (2 + i * 3 + j) by omega, mid_get _ _ _ _ (by omega), slObj_get hx hj]
 exact ⟨hg 0 (by decide), hg 1 (by decide), hg 2 (by decide)⟩
theorem SlAt.put1 {i j : Nat} {x y : Sl} {u : Value} (h : SlAt w g T pre post r L) (hx : L[i]? = some x) (hj : j < 3) (hy : slF y = (slF x).set j u) (hok : slOk r y) :
  SlAt (w.setCell ⟨g, pre.length + 2 + i * 3 + j, none⟩ u) g T pre post r (L.set i y) := by
 obtain ⟨M, h1, h2, h3⟩ := h
 have hi : i < L.length := (List.getElem?_eq_some_iff.1 hx).1
 have hl := slObj_length r L M
 rw [List.length_append] at h1 hl
 refine ⟨M, by rw [List.length_append, List.length_set]; exact h1, h2.set hok i, ?_⟩
 have := h3.putL (pre.length + 2 + i * 3 + j) u
 rw [show pre.length + 2 + i * 3 + j = pre.length + (2 + i * 3 + j) by omega, mid_set _ _ _ _ _ (by omega), slObj_set hx hj hy] at this
 rwa [show pre.length + 2 + i * 3 + j = pre.length + (2 + i * 3 + j) by omega]
theorem SlAt.put3 {i : Nat} {x y : Sl} (h : SlAt w g T pre post r L) (hx : L[i]? = some x) (hok : slOk r y) :
  SlAt (((w.setCell ⟨g, pre.length + 2 + i * 3, none⟩ (.int .u64 (y.s : Int))).setCell ⟨g, pre.length + 2 + i * 3 + 1, none⟩ (.int .u64 (y.v : Int))).setCell ⟨g, pre.length + 2 + i * 3 + 2, none⟩ (.int .i64 y.l)) g T pre post r (L.set i y) := by
 have hi : i < L.length := (List.getElem?_eq_some_iff.1 hx).1
 have hxo := h.ok.2.2.2.2 x (List.mem_of_getElem? hx)
 have h1 := h.put1 (j := 0) (y := ⟨y.s, x.v, x.l⟩) (u := .int .u64 (y.s : Int)) hx (by decide) rfl ⟨hok.1, hxo.2.1, hxo.2.2.1, hxo.2.2.2⟩
 have h2 := h1.put1 (i := i) (j := 1) (x := ⟨y.s, x.v, x.l⟩) (y := ⟨y.s, y.v, x.l⟩) (u := .int .u64 (y.v : Int)) (by simp [hi]) (by decide) rfl ⟨hok.1, hok.2.1, hxo.2.2.1, hxo.2.2.2⟩
 have h3 := h2.put1 (i := i) (j := 2) (x := ⟨y.s, y.v, x.l⟩) (y := y) (u := .int .i64 y.l) (by simp [hi]) (by decide) rfl hok
 rw [List.set_set, List.set_set] at h3
 exact h3
end
section
variable {P : Program} {f : FuncId} {args : Array Value} {W : World} {v : Value} {F : Nat → World}
theorem quiet_same3 (h : Calls P f args W fun e w' => e = .returned v ∧ W = w') (hW : ∃ n, W = F n) : Calls P f args W fun e w'' => e = .returned v ∧ ∃ m, w'' = F m :=
 h.mono fun e w' q => ⟨q.1, by obtain ⟨n, hn⟩ := hW; exact ⟨n, q.2.symm.trans hn⟩⟩
end
theorem owned_below {w w' : World} {B : Nat} {e : TypeId} {size n : Nat} {v : Value} {xs : List Value} (h : w.ownsRow B e size v n xs) (k : Below w.heap.size w w') : w'.ownsRow B e size v n xs :=
 owns_kept h (Kept.of_below k) (fun _ _ _ _ hf => hf)
theorem owned_empty {w : World} {B : Nat} (e : TypeId) (sz : Nat) (hB : B ≤ w.heap.size) : (w.alloc (.cells #[] e)).ownsRow B e sz (.slice (some ⟨w.heap.size, 0, none⟩) 0 0) 0 [] :=
 World.ownsRow_made (base := B) (e := e) (size := sz) w #[] 0 hB (by unfold maxLen; omega) (by simp)
theorem owned_set {w : World} {B : Nat} {e : TypeId} {sz n cap r k : Nat} {xs : List Value} {u : Value} (h : w.ownsRow B e sz (.slice (some ⟨r, 0, none⟩) n cap) n xs) (hk : k < xs.length) :
  (w.setCell ⟨r, k, none⟩ u).ownsRow B e sz (.slice (some ⟨r, 0, none⟩) n cap) n (xs.set k u) := (h.stored k u).1
theorem made_rows {α : Type} {f : α → List Value} {sz : Nat} (hf : ∀ x, (f x).length = sz) (hs : 0 < sz) (x : α) (zc : Array Value) (hz : zc.toList = f x) (n : Nat) : (madeCells zc (n * sz)).toList = rowsOf f (List.replicate n x) := by
 have hzn : zc.size = sz := by rw [← Array.length_toList, hz, hf]
 apply List.ext_getElem?
 intro k
 by_cases hk : k < n * sz
 ·have hi : k / sz < n := (Nat.div_lt_iff_lt_mul hs).2 hk
  have hj : k % sz < sz := Nat.mod_lt _ hs
  have hkk : k / sz * sz + k % sz = k := by rw [Nat.mul_comm]; exact Nat.div_add_mod k sz
  have hg := rowsOf_get hf (l := List.replicate n x) (i := k / sz) (x := x) (by rw [List.getElem?_replicate, if_pos hi]) hj
  rw [hkk] at hg
  rw [hg, ← hz]
  unfold madeCells
  simp only [Array.toList_map, List.getElem?_map, Array.toList_range, List.getElem?_range hk, Option.map_some, hzn]
  rw [Array.getElem?_toList, Array.getElem?_eq_getElem (by omega), getElem!_pos zc _ (by omega)]
 ·rw [List.getElem?_eq_none (by rw [Array.length_toList, size_madeCells]; omega), List.getElem?_eq_none (by rw [rowsOf_length hf, List.length_replicate]; omega)]
theorem run_make_rowS {P : Program} (t e : TypeId) (z : Value) (size bytes : Nat) (ht : P.underlying t = some (.slice e)) (hinfo : (P.info? e).map (fun i => (i.zero, i.size, i.bytes)) = some (some z, size, bytes))
  (kl kc : IntKind) (n : Nat) (hbytes : bytes * n ≤ 281474976710656) (hn : n ≤ 1099511627776) (w : World) :
  (Instr.makeSlice t (.int kl (n : Int)) (.int kc (n : Int))).run P w = .ok (.slice (some ⟨w.heap.size, 0, none⟩) n n) (w.alloc (.cells (madeCells z.cells (n * size)) e)) := by
 obtain ⟨i, hi, hz0, hz1, hz2⟩ := info_parts hinfo
 have hb' : (i.bytes : Int) * (n : Int) ≤ 281474976710656 := by
  have h : ((i.bytes * n : Nat) : Int) ≤ 281474976710656 := by rw [hz2]; omega
  rwa [Int.natCast_mul] at h
 have hr := run_make (P := P) w t e i z ht hi hz0 kl kc n n (by omega) (Int.le_refl _) hb' (by omega)
 simp only [Int.toNat_natCast, hz1] at hr
 exact hr
theorem owned_rows {α : Type} {f : α → List Value} {sz : Nat} (hf : ∀ x, (f x).length = sz) (hs : 0 < sz) (w : World) (e : TypeId) (x : α) (zc : Array Value) (hz : zc.toList = f x) (n : Nat) (hn : n ≤ maxLen) :
  (w.alloc (.cells (madeCells zc (n * sz)) e)).ownsRow w.heap.size e sz (.slice (some ⟨w.heap.size, 0, none⟩) n n) n (rowsOf f (List.replicate n x)) := by
 have := World.ownsRow_lit (base := w.heap.size) (e := e) (size := sz) w (madeCells zc (n * sz)) n (Nat.le_refl _) hn (size_madeCells _ _)
 rwa [made_rows hf hs x zc hz n] at this
instance : DecidableEq Sl := fun a b => if h : a.s = b.s ∧ a.v = b.v ∧ a.l = b.l then isTrue (by cases a; cases b; simp_all) else isFalse (fun e => h (by rw [e]; simp))
theorem Tryz.infoSlot : (Tryz.prog.info? 90).map (fun i => (i.zero, i.size, i.bytes)) = some (some (.agg #[.int .u64 0, .int .u64 0, .int .i64 0]), 3, 24) := by kernel_rfl
theorem slF_set3 (L : List Sl) (i : Nat) (x : Sl) (h : i < L.length) : (((rowsOf slF L).set (i * 3) (.int .u64 (x.s : Int))).set (i * 3 + 1) (.int .u64 (x.v : Int))).set (i * 3 + 2) (.int .i64 x.l) = rowsOf slF (L.set i x) := by
 obtain ⟨y, hy⟩ : ∃ y, L[i]? = some y := ⟨_, List.getElem?_eq_getElem h⟩
 have h1 := rowsOf_set1 (f := slF) (sz := 3) slF_length (l := L) (i := i) (x := y) (y := ⟨x.s, y.v, y.l⟩) (j := 0) (u := .int .u64 (x.s : Int)) hy (by decide) rfl
 have h2 := rowsOf_set1 (f := slF) (sz := 3) slF_length (l := L.set i ⟨x.s, y.v, y.l⟩) (i := i) (x := ⟨x.s, y.v, y.l⟩) (y := ⟨x.s, x.v, y.l⟩) (j := 1) (u := .int .u64 (x.v : Int)) (by simp [h]) (by decide) rfl
 have h3 := rowsOf_set1 (f := slF) (sz := 3) slF_length (l := (L.set i ⟨x.s, y.v, y.l⟩).set i ⟨x.s, x.v, y.l⟩) (i := i) (x := ⟨x.s, x.v, y.l⟩) (y := x) (j := 2) (u := .int .i64 x.l) (by simp [h]) (by decide) rfl
 rw [Nat.add_zero] at h1
 rw [h1, h2, h3, List.set_set, List.set_set]
theorem own_put3 {w : World} {B : Nat} {e : TypeId} {n cap r : Nat} {L : List Sl} (h : w.ownsRow B e 3 (.slice (some ⟨r, 0, none⟩) n cap) n (rowsOf slF L)) {i : Nat} (x : Sl) (hi : i < L.length) :
  (((w.setCell ⟨r, i * 3, none⟩ (.int .u64 (x.s : Int))).setCell ⟨r, i * 3 + 1, none⟩ (.int .u64 (x.v : Int))).setCell ⟨r, i * 3 + 2, none⟩ (.int .i64 x.l)).ownsRow B e 3 (.slice (some ⟨r, 0, none⟩) n cap) n (rowsOf slF (L.set i x)) := by
 have hl := rowsOf_length slF_length L
 have h1 := owned_set (k := i * 3) (u := .int .u64 (x.s : Int)) h (by omega)
 have h2 := owned_set (k := i * 3 + 1) (u := .int .u64 (x.v : Int)) h1 (by rw [List.length_set]; omega)
 have h3 := owned_set (k := i * 3 + 2) (u := .int .i64 x.l) h2 (by rw [List.length_set, List.length_set]; omega)
 rwa [slF_set3 L i x hi] at h3
theorem below_put3 {a w : World} {B r : Nat} (h : Below B a w) (hr : B ≤ r) (i j k : Nat) (u v x : Value) : Below B a (((w.setCell ⟨r, i, none⟩ u).setCell ⟨r, j, none⟩ v).setCell ⟨r, k, none⟩ x) :=
 ((h.setCell (p := ⟨r, i, none⟩) hr u).setCell (p := ⟨r, j, none⟩) hr v).setCell (p := ⟨r, k, none⟩) hr x
theorem slotsFree (t : Nat) (w : World) (ht : t ≤ 9223372036854775807) : Calls Tryz.prog 101 #[.int .u64 t] w fun e w' => e = .returned (.int .u64 (2 * t : Nat)) ∧ w = w' := by
 go_enter Tryz.func101, Tryz.ntmps101
 go_wp2
 go_ret
 exact ⟨by go_num, rfl⟩
theorem slotsHeld (t : Nat) (w : World) (ht : t ≤ 9223372036854775807) : Calls Tryz.prog 154 #[.int .u64 t] w fun e w' => e = .returned (.int .u64 (2 * t + 1 : Nat)) ∧ w = w' := by
 go_enter Tryz.func154, Tryz.ntmps154
 go_wp2
 go_ret
 exact ⟨by go_num, rfl⟩
theorem slotsBit (j : Nat) (w : World) (hj : j ≤ 8) : Calls Tryz.prog 155 #[.int .i64 j] w fun e w' => e = .returned (.int .i64 (2 ^ j)) ∧ w = w' := by
 have hp : (2 : Int) ^ j ≤ 256 := by
  rcases (show j = 0 ∨ j = 1 ∨ j = 2 ∨ j = 3 ∨ j = 4 ∨ j = 5 ∨ j = 6 ∨ j = 7 ∨ j = 8 by omega) with rfl | rfl | rfl | rfl | rfl | rfl | rfl | rfl | rfl <;> decide
 have hp0 : (0 : Int) < 2 ^ j := Int.pow_pos (by decide)
 go_enter Tryz.func155, Tryz.ntmps155
 go_wp2
 go_ret
 exact ⟨by go_num, rfl⟩
theorem slotsPlace (g o c t : Nat) (w : World) (h : w.cell? ⟨g, o, none⟩ = some (.int .i64 (c : Int))) (h1 : 1 ≤ c) (h2 : c ≤ 64) (ht : t ≤ 18446744073709551615) :
  Calls Tryz.prog 146 #[.pointer (some ⟨g, o, none⟩), .int .u64 t] w fun e w' => e = .returned (.int .u64 (t % c : Nat)) ∧ w = w' := by
 have hm : Int.tmod (t : Int) (c : Int) = ((t % c : Nat) : Int) := rfl
 have hml : t % c < c := Nat.mod_lt _ (by omega)
 have HM := Lib.hid hm
 clear hm
 go_enter Tryz.func146, Tryz.ntmps146
 go_wp2
 go_ret
 exact ⟨by go_num, rfl⟩
theorem slotsEveryone (g o r : Nat) (w : World) (h : w.cell? ⟨g, o + 1, none⟩ = some (.int .i64 (r : Int))) (h2 : r ≤ 8) :
  Calls Tryz.prog 148 #[.pointer (some ⟨g, o, none⟩)] w fun e w' => e = .returned (.int .i64 (everyN r)) ∧ w = w' := by
 have hb := slotsBit r w h2
 have he := everyN_pos h2
 unfold everyN at he ⊢
 have HB := Lib.hid hb
 clear hb
 go_enter Tryz.func148, Tryz.ntmps148
 go_wp2_with fail
 refine HB.out.mono ?_
 rintro e w' ⟨rfl, rfl⟩
 go_wp2
 go_ret
 exact ⟨by go_num, rfl⟩
section
variable {w : World} {g o : Nat} {T : TypeId} {pre post : List Value} {r : Nat} {L : List Sl}
theorem slotsIsFree (t : Nat) (h : SlAt w g T pre post r L) (ho : pre.length = o) (ht : t ≤ 18446744073709551615) :
  Calls Tryz.prog 124 #[.pointer (some ⟨g, o, none⟩), .int .u64 t] w fun e w' => e = .returned (.bool (freeB L t)) ∧ ∃ n, w' = w.drewN n := by
 subst ho
 obtain ⟨h1, h2⟩ := h.heads
 by_cases hb : t < 4611686018427387904
 ·have e0 : decide ((t : Int) < 4611686018427387904) = true := by rw [decide_eq_true_eq]; omega
  have hx := slX_get h.ok.1 t
  obtain ⟨c0, _, _⟩ := h.cells hx
  have hi : t % L.length < L.length := Nat.mod_lt _ h.ok.1
  have hl := h.ok.2.1
  have hxo := (slX_ok h.ok t).1
  have hfb : freeB L t = decide ((slX L t).s = 2 * t) := by
   unfold freeB
   by_cases hq : (slX L t).s = 2 * t
   ·rw [decide_eq_true hq, decide_eq_true ⟨hb, hq⟩]
   ·rw [decide_eq_false hq, decide_eq_false (fun h => hq h.2)]
  have HP := Lib.hid (fun n => slotsPlace g pre.length L.length t (w.drewN n) h1 h.ok.1 hl ht)
  have HF := Lib.hid (fun n => slotsFree t (w.drewN n) (by omega))
  have HFB := Lib.hid hfb
  have hi64 : ((t % L.length : Nat) : Int) < 64 := by omega
  clear hx hfb h hb h1 h2 hi
  generalize t % L.length = i at *
  generalize slX L t = x at *
  generalize pre.length = o at *
  go_enter Tryz.func124, Tryz.ntmps124
  go_wp2
  go_quiet (first | (go_at_call 146; exact quiet_same3 ((HP.out _)) ⟨_, rfl⟩) | (go_at_call 101; exact quiet_same3 ((HF.out _)) ⟨_, rfl⟩))
  go_wp2
  go_ret
  exact ⟨ret_bool (by rw [HFB.out]; rw [Bool.eq_iff_iff]; simp; omega), _, rfl⟩
 ·have e0 : decide ((t : Int) < 4611686018427387904) = false := by rw [decide_eq_false_iff_not]; omega
  have hfb : freeB L t = false := decide_eq_false (fun h => hb h.1)
  rw [hfb]
  clear h h1 h2 hfb hb
  go_enter Tryz.func124, Tryz.ntmps124
  go_wp2
  go_quiet (fail)
  go_wp2
  go_ret
  exact ⟨rfl, _, rfl⟩
end
theorem kept_put3 (w : World) (n g a b c : Nat) (u v x : Value) : Kept (oneRow g) w ((((w.drewN n).setCell ⟨g, a, none⟩ u).setCell ⟨g, b, none⟩ v).setCell ⟨g, c, none⟩ x) :=
 (((Kept.drewN _ w n).trans (Kept.put _ g a u) (fun _ _ h => h)).trans (Kept.put _ g b v) (fun _ _ h => h)).trans (Kept.put _ g c x) (fun _ _ h => h)
section
variable {w : World} {g o : Nat} {T : TypeId} {pre post : List Value} {r : Nat} {L : List Sl}
set_option maxHeartbeats 1000000 in
set_option maxRecDepth 100000 in
theorem slotsPut (t v : Nat) (h : SlAt w g T pre post r L) (ho : pre.length = o) (ht : t ≤ 18446744073709551615) (hv : v ≤ 18446744073709551615) :
  Calls Tryz.prog 144 #[.pointer (some ⟨g, o, none⟩), .int .u64 t, .int .u64 v] w fun e w' => e = .returned (.int .i64 (putE L t : Nat)) ∧ SlAt w' g T pre post r (putS r L t v) ∧ Kept (oneRow g) w w' := by
 subst ho
 obtain ⟨h1, h2⟩ := h.heads
 by_cases hb : t < 4611686018427387904
 ·have e0 : decide ((4611686018427387904 : Int) ≤ (t : Int)) = false := by rw [decide_eq_false_iff_not]; omega
  obtain ⟨d, hd⟩ : ∃ d, 2 * t = d := ⟨_, rfl⟩
  have hx := slX_get h.ok.1 t
  have ht62 : t ≤ 4611686018427387903 := by omega
  obtain ⟨c0, _, _⟩ := h.cells hx
  have hi : t % L.length < L.length := Nat.mod_lt _ h.ok.1
  have hl := h.ok.2.1
  have hr := h.ok.2.2.2.1
  have hxo := (slX_ok h.ok t).1
  have hE : putE L t = if (slX L t).s < 2 * t then 8 else if 2 * t < (slX L t).s then 11 else 0 := by unfold putE; rw [if_neg (by omega)]
  have hS : putS r L t v = if putE L t = 0 then L.set (t % L.length) ⟨2 * t + 1, v, everyN r⟩ else L := rfl
  have hey := everyN_pos hr
  have hpt : slOk r ⟨2 * t + 1, v, everyN r⟩ := ⟨by simp only; omega, by simp only; omega, hey.1, by simp⟩
  have hp3 := h.put3 hx hpt
  have HP := Lib.hid (fun n => slotsPlace g pre.length L.length t (w.drewN n) h1 h.ok.1 hl ht)
  have hF := fun w => slotsFree t w (by omega)
  have hH := fun w => slotsHeld t w (by omega)
  rw [hd] at hF hH hE hS hpt hp3
  have HF := Lib.hid hF
  have HH := Lib.hid hH
  have HE := Lib.hid (fun w' (h : ∀ p, w'.cell? p = w.cell? p) => slotsEveryone g pre.length r w' (by rw [h]; exact h2) hr)
  have f0 := h.free (pre.length + 2 + t % L.length * 3)
  have f1 := h.free (pre.length + 2 + t % L.length * 3 + 1)
  have f2 := h.free (pre.length + 2 + t % L.length * 3 + 2)
  have c1 := (h.cells hx).2.1
  have c2 := (h.cells hx).2.2
  have H := Lib.hid h
  have HEE := Lib.hid hE
  have HS := Lib.hid hS
  have H3 := Lib.hid hp3
  have hi64 : ((t % L.length : Nat) : Int) < 64 := by omega
  clear hx h hb h1 h2 hi hE hS hp3 hpt hF hH
  generalize t % L.length = i at *
  generalize slX L t = x at *
  generalize pre.length = o at *
  by_cases q1 : x.s < d
  ·have e1 : decide (x.s < d) = true := by simpa using q1
   have hE := HEE.out
   rw [if_pos q1] at hE
   have hS := HS.out
   rw [hE, if_neg (by decide)] at hS
   rw [hE, hS]
   clear q1 HEE HS H3 hE hS
   go_enter Tryz.func144, Tryz.ntmps144
   go_wp2
   go_quiet ((go_at_call 146; exact quiet_same3 ((HP.out _)) ⟨_, rfl⟩))
   go_wp2
   go_quiet ((go_at_call 101; exact quiet_same3 ((HF.out _)) ⟨_, rfl⟩))
   go_wp2
   go_ret
   exact ⟨rfl, H.out, rfl, rfl, rfl, Nat.le_refl _, fun _ _ _ => rfl⟩
  ·have e1 : decide (x.s < d) = false := by simpa using q1
   have hE := HEE.out
   rw [if_neg q1] at hE
   by_cases q2 : d < x.s
   ·have e2 : decide (d < x.s) = true := by simpa using q2
    rw [if_pos q2] at hE
    have hS := HS.out
    rw [hE, if_neg (by decide)] at hS
    rw [hE, hS]
    clear q1 q2 HEE HS H3 hE hS
    go_enter Tryz.func144, Tryz.ntmps144
    go_wp2
    go_quiet ((go_at_call 146; exact quiet_same3 ((HP.out _)) ⟨_, rfl⟩))
    go_wp2
    go_quiet ((go_at_call 101; exact quiet_same3 ((HF.out _)) ⟨_, rfl⟩))
    go_wp2
    go_quiet ((go_at_call 101; exact quiet_same3 ((HF.out _)) ⟨_, rfl⟩))
    go_wp2
    go_ret
    exact ⟨rfl, H.out, rfl, rfl, rfl, Nat.le_refl _, fun _ _ _ => rfl⟩
   ·have e2 : decide (d < x.s) = false := by simpa using q2
    rw [if_neg q2] at hE
    have hS := HS.out
    rw [hE, if_pos rfl] at hS
    rw [hE, hS]
    clear q1 q2 HEE HS hE hS
    go_enter Tryz.func144, Tryz.ntmps144
    go_wp2
    go_quiet ((go_at_call 146; exact quiet_same3 ((HP.out _)) ⟨_, rfl⟩))
    go_wp2
    go_quiet ((go_at_call 101; exact quiet_same3 ((HF.out _)) ⟨_, rfl⟩))
    go_wp2
    go_quiet ((go_at_call 101; exact quiet_same3 ((HF.out _)) ⟨_, rfl⟩))
    go_wp2_with fail
    refine (HH.out _).mono ?_
    rintro e w' ⟨rfl, rfl⟩
    go_wp2_with fail
    refine Calls.mono (HE.out _ ?_) ?_
    ·intro _; rfl
    rintro e w' ⟨rfl, rfl⟩
    go_wp2
    go_ret
    exact ⟨rfl, H3.out, kept_put3 _ _ _ _ _ _ _ _ _⟩
 ·have e0 : decide ((4611686018427387904 : Int) ≤ (t : Int)) = true := by rw [decide_eq_true_eq]; omega
  have hE : putE L t = 1 := if_pos (by omega)
  have hS : putS r L t v = L := by unfold putS; rw [hE, if_neg (by decide)]
  rw [hE, hS]
  have H := Lib.hid h
  clear h h1 h2 hE hS hb
  go_enter Tryz.func144, Tryz.ntmps144
  go_wp2
  go_ret
  exact ⟨rfl, H.out, Kept.refl _ _⟩
end
theorem and_bits : ∀ n : Nat, n < 256 → ∀ j : Nat, j < 8 → bits .and .i64 (n : Int) (2 ^ j) = (if (n : Int) / 2 ^ j % 2 = 1 then 2 ^ j else 0) ∧ ((n : Int) / 2 ^ j % 2 = 1 → bits .andNot .i64 (n : Int) (2 ^ j) = (n : Int) - 2 ^ j) := by decide +kernel
theorem and_bit {l : Int} {j : Nat} (h0 : 0 ≤ l) (h1 : l ≤ 255) (hj : j < 8) : (bits .and .i64 l (2 ^ j) == 0) = !hasBit l j := by
 obtain ⟨n, rfl⟩ : ∃ n : Nat, l = n := ⟨l.toNat, by omega⟩
 have hp : (0 : Int) < 2 ^ j := Int.pow_pos (by decide)
 have := (and_bits n (by omega) j hj).1
 rw [this]
 unfold hasBit
 by_cases h : (n : Int) / 2 ^ j % 2 = 1
 ·rw [if_pos h, decide_eq_true h, beq_eq_false_iff_ne.2 (by omega)]; rfl
 ·rw [if_neg h, decide_eq_false h]; rfl
theorem andNot_bit {l : Int} {j : Nat} (h0 : 0 ≤ l) (h1 : l ≤ 255) (hj : j < 8) (hb : hasBit l j = true) : bits .andNot .i64 l (2 ^ j) = l - 2 ^ j := by
 obtain ⟨n, rfl⟩ : ∃ n : Nat, l = n := ⟨l.toNat, by omega⟩
 exact (and_bits n (by omega) j hj).2 (of_decide_eq_true hb)
section
variable {w : World} {g o : Nat} {T : TypeId} {pre post : List Value} {r : Nat} {L : List Sl}
set_option maxHeartbeats 1000000 in
set_option maxRecDepth 100000 in
theorem slotsMay (j : Int) (t : Nat) (h : SlAt w g T pre post r L) (ho : pre.length = o) (ht : t ≤ 18446744073709551615) :
  Calls Tryz.prog 147 #[.pointer (some ⟨g, o, none⟩), .int .i64 j, .int .u64 t] w fun e w' => e = .returned (.int .i64 (getE r L j t : Nat)) ∧ Below w.heap.size w w' := by
 subst ho
 obtain ⟨h1, h2⟩ := h.heads
 by_cases hb : 4611686018427387904 ≤ t
 ·have e0 : decide ((4611686018427387904 : Int) ≤ (t : Int)) = true := by rw [decide_eq_true_eq]; omega
  have hE : getE r L j t = 1 := if_pos (.inl hb)
  rw [hE]
  clear h hb hE
  go_enter Tryz.func147, Tryz.ntmps147
  go_wp2
  go_ret
  exact ⟨rfl, Below.refl _ _⟩
 have e0 : decide ((4611686018427387904 : Int) ≤ (t : Int)) = false := by rw [decide_eq_false_iff_not]; omega
 by_cases hj0 : j < 0
 ·have e1 : decide (j < (0 : Int)) = true := by simpa using hj0
  have hE : getE r L j t = 1 := if_pos (.inr (.inl hj0))
  rw [hE]
  clear h hb hE hj0
  go_enter Tryz.func147, Tryz.ntmps147
  go_wp2
  go_ret
  exact ⟨rfl, Below.refl _ _⟩
 have e1 : decide (j < (0 : Int)) = false := by simpa using hj0
 obtain ⟨jn, rfl⟩ : ∃ n : Nat, j = n := ⟨j.toNat, by omega⟩
 by_cases hjr : r ≤ jn
 ·have e2 : decide (r ≤ jn) = true := by simpa using hjr
  have hE : getE r L jn t = 1 := if_pos (.inr (.inr (by omega)))
  rw [hE]
  clear h hb hE hj0 hjr
  go_enter Tryz.func147, Tryz.ntmps147
  go_wp2
  go_ret
  exact ⟨rfl, Below.refl _ _⟩
 have e2 : decide (r ≤ jn) = false := by simpa using hjr
 have hx := slX_get h.ok.1 t
 obtain ⟨c0, c1, c2⟩ := h.cells hx
 have hi : t % L.length < L.length := Nat.mod_lt _ h.ok.1
 have hl := h.ok.2.1
 have hr := h.ok.2.2.2.1
 obtain ⟨x0, x1, x2, x3⟩ := slX_ok h.ok t
 have hey := everyN_pos hr
 have hE : getE r L jn t = if (slX L t).s < 2 * t + 1 then 9 else if 2 * t + 1 < (slX L t).s ∨ hasBit (slX L t).l jn = false then 11 else 0 := by
  unfold getE; rw [if_neg (by omega)]; rfl
 have hab := and_bit (l := (slX L t).l) (j := jn) x2 (by omega) (by omega)
 have hP := fun w' (hc : w'.cell? ⟨g, pre.length, none⟩ = w.cell? ⟨g, pre.length, none⟩) => slotsPlace g pre.length L.length t w' (by rw [hc]; exact h1) h.ok.1 hl ht
 have hH := fun w => slotsHeld t w (by omega)
 have hB := fun w => slotsBit jn w (by omega)
 have hli : Lies (w.alloc (.cells #[.int .u64 ((slX L t).s : Int), .int .u64 ((slX L t).v : Int), .int .i64 (slX L t).l] 90)).drew w.heap.size 90 #[.int .u64 ((slX L t).s : Int), .int .u64 ((slX L t).v : Int), .int .i64 (slX L t).l] := Lies.drew (Lies.made _ _ _)
 have hbl : Below w.heap.size w (w.alloc (.cells #[.int .u64 ((slX L t).s : Int), .int .u64 ((slX L t).v : Int), .int .i64 (slX L t).l] 90)).drew := below_drewN ((Below.refl _ _).alloc (Nat.le_refl _) _) 1
 have hlt := h.lt
 generalize hd : 2 * t + 1 = d at *
 generalize (2 : Int) ^ jn = p at *
 have HP := Lib.hid hP
 have HH := Lib.hid hH
 have HB := Lib.hid hB
 have HE := Lib.hid hE
 have HAB := Lib.hid hab
 have hi64 : ((t % L.length : Nat) : Int) < 64 := by omega
 clear hx h hb h1 hi hE hP hH hB hab hd hj0 hjr
 generalize t % L.length = i at *
 generalize slX L t = x at *
 generalize pre.length = o at *
 generalize L.length = c at *
 clear hey x3 hl hr
 go_enter Tryz.func147, Tryz.ntmps147
 go_wp2
 go_region_with (go_at_call 146; refine (HP.out _ ?_).mono ?_; exact (by simp [go_sem, hlt]); rintro e w' ⟨rfl, rfl⟩)
 all_goals
  have d0 := (hli.cell 0).trans (show _ = some (Value.int .u64 (x.s : Int)) from rfl)
  have d2 := (hli.cell 2).trans (show _ = some (Value.int .i64 x.l) from rfl)
  clear c0 c1 c2 hli HP hlt
  generalize World.drew (w.alloc (.cells #[.int .u64 (x.s : Int), .int .u64 (x.v : Int), .int .i64 x.l] 90)) = w1 at *
  by_cases q1 : x.s < d
  ·have f1 : decide (x.s < d) = true := by simpa using q1
   have hE := HE.out
   rw [if_pos q1] at hE
   have HE9 := Lib.hid hE
   clear q1 HE hE
   go_wp2
   go_quiet ((go_at_call 154; exact quiet_same3 ((HH.out _)) ⟨_, rfl⟩))
   go_wp2
   go_ret
   exact ⟨by rw [HE9.out]; rfl, below_drewN hbl _⟩
  have f1 : decide (x.s < d) = false := by simpa using q1
  have hE := HE.out
  rw [if_neg q1] at hE
  by_cases q2 : d < x.s
  ·have f2 : decide (d < x.s) = true := by simpa using q2
   rw [if_pos (.inl q2)] at hE
   have HE9 := Lib.hid hE
   clear q1 q2 HE hE
   go_wp2
   go_quiet ((go_at_call 154; exact quiet_same3 ((HH.out _)) ⟨_, rfl⟩))
   go_wp2
   go_quiet ((go_at_call 154; exact quiet_same3 ((HH.out _)) ⟨_, rfl⟩))
   go_wp2
   go_ret
   exact ⟨by rw [HE9.out]; rfl, below_drewN (below_drewN hbl _) _⟩
  have f2 : decide (d < x.s) = false := by simpa using q2
  by_cases q3 : hasBit x.l jn = true
  ·have f3 : (bits .and .i64 x.l p == 0) = false := by rw [HAB.out, q3]; rfl
   rw [if_neg (by rw [q3]; simp [q2])] at hE
   have HE9 := Lib.hid hE
   clear q1 q2 q3 HE hE
   go_wp2
   go_quiet ((go_at_call 154; exact quiet_same3 ((HH.out _)) ⟨_, rfl⟩))
   go_wp2
   go_quiet (first | (go_at_call 154; exact quiet_same3 ((HH.out _)) ⟨_, rfl⟩) | (go_at_call 155; exact quiet_same3 ((HB.out _)) ⟨_, rfl⟩))
   go_wp2
   go_ret
   exact ⟨by rw [HE9.out]; rfl, below_drewN (below_drewN hbl _) _⟩
  ·have q3 : hasBit x.l jn = false := by simpa using q3
   have f3 : (bits .and .i64 x.l p == 0) = true := by rw [HAB.out, q3]; rfl
   rw [if_pos (.inr q3)] at hE
   have HE9 := Lib.hid hE
   clear q1 q2 q3 HE hE
   go_wp2
   go_quiet ((go_at_call 154; exact quiet_same3 ((HH.out _)) ⟨_, rfl⟩))
   go_wp2
   go_quiet (first | (go_at_call 154; exact quiet_same3 ((HH.out _)) ⟨_, rfl⟩) | (go_at_call 155; exact quiet_same3 ((HB.out _)) ⟨_, rfl⟩))
   go_wp2
   go_ret
   exact ⟨by rw [HE9.out]; rfl, below_drewN (below_drewN hbl _) _⟩
end
theorem kept_one_put3 {a w : World} (n g i j k : Nat) (u v x : Value) (h : Kept (oneRow g) a w) : Kept (oneRow g) a ((((w.drewN n).setCell ⟨g, i, none⟩ u).setCell ⟨g, j, none⟩ v).setCell ⟨g, k, none⟩ x) :=
 h.trans (kept_put3 w n g i j k u v x) (fun _ _ h => h)
theorem kept_one_put {a w : World} (g i : Nat) (u : Value) (h : Kept (oneRow g) a w) : Kept (oneRow g) a (w.setCell ⟨g, i, none⟩ u) := h.trans (Kept.put w g i u) (fun _ _ h => h)
theorem kept_one_drewN {a w : World} {g : Nat} (n : Nat) (h : Kept (oneRow g) a w) : Kept (oneRow g) a (w.drewN n) := h.trans (Kept.drewN (oneRow g) w n) (fun _ _ h => h)
section
variable {w : World} {g o : Nat} {T : TypeId} {pre post : List Value} {r : Nat} {L : List Sl}
theorem slotsHas (j : Int) (t : Nat) (h : SlAt w g T pre post r L) (ho : pre.length = o) (ht : t ≤ 18446744073709551615) :
  Calls Tryz.prog 127 #[.pointer (some ⟨g, o, none⟩), .int .i64 j, .int .u64 t] w fun e w' => e = .returned (.bool (decide (getE r L j t = 0))) ∧ Below w.heap.size w w' := by
 have HM := Lib.hid (slotsMay j t h ho ht)
 clear h ht ho
 generalize getE r L j t = E at *
 go_enter Tryz.func127, Tryz.ntmps127
 go_wp2_with fail
 refine HM.out.mono ?_
 rintro e w1 ⟨rfl, hb⟩
 go_wp2
 go_ret
 exact ⟨ret_bool (by rw [Bool.eq_iff_iff]; simp; try omega), hb⟩
set_option maxHeartbeats 1000000 in
set_option maxRecDepth 100000 in
theorem slotsGet (j : Int) (t : Nat) (h : SlAt w g T pre post r L) (ho : pre.length = o) (ht : t ≤ 18446744073709551615) :
  Calls Tryz.prog 145 #[.pointer (some ⟨g, o, none⟩), .int .i64 j, .int .u64 t] w fun e w' =>
   e = .returned (.tuple #[.int .u64 (getV r L j t : Nat), .int .i64 (getE r L j t : Nat)]) ∧ SlAt w' g T pre post r (getS r L j t) ∧ Kept (oneRow g) w w' := by
 have HM := Lib.hid (slotsMay j t h ho ht)
 subst ho
 by_cases hE : getE r L j t = 0
 ·obtain ⟨ht2, hj0, hjr, hxs, hxb⟩ := getE_ok hE
  obtain ⟨jn, rfl⟩ : ∃ n : Nat, j = n := ⟨j.toNat, by omega⟩
  have hxb : hasBit (slX L t).l jn = true := hxb
  have hV : getV r L jn t = (slX L t).v := by unfold getV; rw [if_pos hE]
  have hS : getS r L jn t = L.set (t % L.length) (gotX L.length (slX L t) jn t) := by unfold getS; rw [if_pos hE]; rfl
  have hG : gotX L.length (slX L t) jn t = if (slX L t).l - 2 ^ jn = 0 then ⟨2 * (t + L.length), 0, 0⟩ else ⟨(slX L t).s, (slX L t).v, (slX L t).l - 2 ^ jn⟩ := rfl
  have hx := slX_get h.ok.1 t
  have hi : t % L.length < L.length := Nat.mod_lt _ h.ok.1
  have hl := h.ok.2.1
  have hl1 := h.ok.1
  have hr := h.ok.2.2.2.1
  obtain ⟨x0, x1, x2, x3⟩ := slX_ok h.ok t
  have hey := everyN_pos hr
  have hle := hasBit_le x2 hxb
  have han := andNot_bit (l := (slX L t).l) (j := jn) x2 (by omega) (by omega) hxb
  have hpp : (0 : Int) < 2 ^ jn := Int.pow_pos (by decide)
  have hP := fun w' (hc : SlAt w' g T pre post r L) => slotsPlace g pre.length L.length t w' hc.heads.1 hl1 hl ht
  have hF := fun w => slotsFree (t + L.length) w (by omega)
  have hB := fun w => slotsBit jn w (by omega)
  rw [hE] at HM
  obtain ⟨c, hc⟩ : ∃ c, L.length = c := ⟨_, rfl⟩
  generalize ho : pre.length = o at *
  generalize hi2 : t % L.length = i at *
  generalize slX L t = x at *
  generalize (2 : Int) ^ jn = p at *
  rw [hc] at hi hl hl1 hF hG hS
  rw [hE, hV, hS]
  have hi64 : ((i : Nat) : Int) < 64 := by omega
  have HP := Lib.hid hP
  have HF := Lib.hid hF
  have HB := Lib.hid hB
  have HG := Lib.hid hG
  have HX := Lib.hid hx
  have HC := Lib.hid hc
  have HO := Lib.hid ho
  have H := Lib.hid h
  have hvx : x.v ≤ 18446744073709551615 := by omega
  obtain ⟨y, hy⟩ : ∃ y : Int, x.l - p = y := ⟨_, rfl⟩
  rw [hy] at han HG
  have hy0 : 0 ≤ y := by omega
  have hy1 : y ≤ everyN r := by omega
  have hyok : slOk r ⟨x.s, x.v, y⟩ := ⟨x0, x1, hy0, hy1⟩
  have hzok : slOk r ⟨2 * (t + c), 0, 0⟩ := ⟨by simp only; omega, by simp only; omega, by simp only; omega, by simp only; omega⟩
  have HY := Lib.hid hyok
  have HZ := Lib.hid hzok
  clear hP hF hB hG hx hc h hE hV hS hi2 hxb hxs hle hyok hzok x3 x2 hy ho
  go_enter Tryz.func145, Tryz.ntmps145
  go_wp2_with fail
  refine HM.out.mono ?_
  rintro e w1 ⟨rfl, hb1⟩
  have H1 := Lib.hid (H.out.later hb1)
  have hk1 : Kept (oneRow g) w w1 := (Kept.of_below hb1).mono (fun _ _ hf => hf.elim)
  clear H hb1 HM
  go_wp2
  go_quiet ((go_at_call 146; exact quiet_same3 (HP.out _ H1.out) ⟨_, rfl⟩))
  have H2 : Hid (SlAt (w1.drewN nq) g T pre post r L) := H1
  have hk2 := kept_one_drewN nq hk1
  clear H1 hk1
  generalize w1.drewN nq = w2 at *
  obtain ⟨c0, c1, c2⟩ := H2.out.cells HX.out
  have f2 := H2.out.free (pre.length + 2 + i * 3 + 2)
  rw [HO.out] at c0 c1 c2 f2
  go_wp2
  go_region_with (go_at_call 155; refine (HB.out _).mono ?_; rintro e w' ⟨rfl, rfl⟩)
  all_goals
   have h3 := H2.out.put1 (j := 2) (y := ⟨x.s, x.v, y⟩) (u := .int .i64 y) HX.out (by decide) rfl HY.out
   rw [HO.out] at h3
   have H3 : Hid (SlAt (w2.setCell ⟨g, o + 2 + i * 3 + 2, none⟩ (.int .i64 y)).drew g T pre post r (L.set i ⟨x.s, x.v, y⟩)) := h3
   have hk3 : Kept (oneRow g) w (w2.setCell ⟨g, o + 2 + i * 3 + 2, none⟩ (.int .i64 y)).drew := kept_one_drewN 1 (kept_one_put g _ _ hk2)
   have hil : i < L.length := by rw [HC.out]; exact hi
   have hx3 : (L.set i ⟨x.s, x.v, y⟩)[i]? = some ⟨x.s, x.v, y⟩ := by rw [List.getElem?_set_self hil]
   clear c0 c1 c2 f2 H2 hk2 h3
   generalize World.drew (w2.setCell ⟨g, o + 2 + i * 3 + 2, none⟩ (.int .i64 y)) = w3 at *
   have d2 := (H3.out.cells hx3).2.2
   have d1 := (H3.out.cells hx3).2.1
   have d0 := (H3.out.cells hx3).1
   have dp := H3.out.heads.1
   rw [HO.out] at d0 d1 d2 dp
   rw [List.length_set, HC.out] at dp
   by_cases hz : y = 0
   ·have e3 : (y == 0) = true := by rw [beq_iff_eq]; exact hz
    have hG := HG.out
    rw [if_pos hz] at hG
    have hp3 := H3.out.put3 hx3 HZ.out
    have e4 : L.set i ⟨2 * (t + c), 0, 0⟩ = L.set i (gotX c x jn t) := by rw [hG]
    rw [HO.out, List.set_set, e4] at hp3
    have HP3 := Lib.hid hp3
    have f0 := H3.out.free (o + 2 + i * 3)
    have f1 := H3.out.free (o + 2 + i * 3 + 1)
    have f2 := H3.out.free (o + 2 + i * 3 + 2)
    clear hz hG HG hp3 H3 e4
    go_wp2_with fail
    refine (HF.out _).mono ?_
    rintro e w' ⟨rfl, rfl⟩
    go_wp2
    go_ret2
    exact ⟨rfl, HP3.out, kept_one_put3 0 _ _ _ _ _ _ _ hk3⟩
   ·have e3 : (y == 0) = false := by rw [beq_eq_false_iff_ne]; exact hz
    have hG := HG.out
    rw [if_neg hz] at hG
    have h4 := H3.out
    rw [← hG] at h4
    have H4 := Lib.hid h4
    clear hz hG HG H3 h4
    go_wp2
    go_ret2
    exact ⟨rfl, H4.out, hk3⟩
 ·have hV : getV r L j t = 0 := by unfold getV; rw [if_neg hE]
  have hS : getS r L j t = L := by unfold getS; rw [if_neg hE]
  rw [hV, hS]
  have H := Lib.hid h
  have hlt : getE r L j t ≤ 11 := by unfold getE; repeat' split
                                     all_goals omega
  clear h hV hS
  generalize getE r L j t = E at *
  have e1 : ((E : Int) != 0) = true := by simp; omega
  go_enter Tryz.func145, Tryz.ntmps145
  go_wp2_with fail
  refine HM.out.mono ?_
  rintro e w1 ⟨rfl, hb⟩
  go_wp2
  go_ret2
  exact ⟨rfl, H.out.later hb, (Kept.of_below hb).mono (fun _ _ hf => hf.elim)⟩
end
set_option maxRecDepth 100000 in
theorem slZero : ∀ w : World, (zeroValue 93).run Tryz.prog w = .ok (.agg ([Value.int .i64 0, .int .i64 0] ++ rowsOf slF (List.replicate 64 ⟨0, 0, 0⟩)).toArray) w := fun w => by kernel_rfl
def newK (p k : Nat) : List Sl := newS k ++ List.replicate (p - k) ⟨0, 0, 0⟩
theorem newK_length {p k : Nat} (h : k ≤ p) : (newK p k).length = p := by unfold newK; rw [List.length_append, newS_length, List.length_replicate]; omega
theorem newK_ok {p r k : Nat} (h1 : 1 ≤ p) (h2 : p ≤ 64) (h3 : 1 ≤ r) (h4 : r ≤ 8) (h : k ≤ p) : SlOk r (newK p k) := by
 refine ⟨by rw [newK_length h]; exact h1, by rw [newK_length h]; exact h2, h3, h4, fun x hx => ?_⟩
 have := everyN_pos h4
 unfold newK at hx
 rcases List.mem_append.1 hx with hx | hx
 ·obtain ⟨i, hi, rfl⟩ := List.mem_map.1 hx
  have := List.mem_range.1 hi
  exact ⟨by simp only; omega, by simp only; omega, by simp only; omega, by simp only; omega⟩
 ·obtain ⟨_, rfl⟩ := List.mem_replicate.1 hx
  exact ⟨by simp only; omega, by simp only; omega, by simp only; omega, by simp only; omega⟩
theorem newK_get {p k : Nat} (h : k < p) : (newK p k)[k]? = some ⟨0, 0, 0⟩ := by
 unfold newK
 rw [List.getElem?_append_right (by rw [newS_length]; omega), newS_length, Nat.sub_self, List.getElem?_replicate, if_pos (by omega)]
theorem newK_set {p k : Nat} (h : k < p) : (newK p k).set k ⟨2 * k, 0, 0⟩ = newK p (k + 1) := by
 unfold newK
 rw [List.set_append_right _ _ (by rw [newS_length]; omega), newS_length, Nat.sub_self, show p - k = p - (k + 1) + 1 by omega, List.replicate_succ, List.set_cons_zero]
 unfold newS
 rw [List.range_succ, List.map_append, List.append_assoc]; rfl
theorem newK_full (p : Nat) : newK p p = newS p := by unfold newK; rw [Nat.sub_self, List.replicate_zero, List.append_nil]
theorem sl_start (w : World) (p r : Nat) (T : TypeId) (h1 : 1 ≤ p) (h2 : p ≤ 64) (h3 : 1 ≤ r) (h4 : r ≤ 8) (zs : Array Value) (hzs : zs = ([Value.int .i64 0, .int .i64 0] ++ rowsOf slF (List.replicate 64 ⟨0, 0, 0⟩)).toArray) :
  SlAt (w.alloc (.cells ((zs.setIfInBounds 0 (.int .i64 (p : Int))).setIfInBounds 1 (.int .i64 (r : Int))) T)) w.heap.size T [] [] r (newK p 0) := by
 refine ⟨List.replicate (64 - p) ⟨0, 0, 0⟩, ?_, newK_ok h1 h2 h3 h4 (Nat.zero_le _), ?_⟩
 ·rw [List.length_append, newK_length (Nat.zero_le _), List.length_replicate]; omega
 ·have e : newK p 0 ++ List.replicate (64 - p) ⟨0, 0, 0⟩ = List.replicate 64 ⟨0, 0, 0⟩ := by
   unfold newK
   rw [show newS 0 = [] from rfl, List.nil_append, Nat.sub_zero, List.replicate_append_replicate]; congr 1; omega
  have e2 : slObj r (newK p 0) (List.replicate (64 - p) ⟨0, 0, 0⟩) = [.int .i64 (p : Int), .int .i64 (r : Int)] ++ rowsOf slF (List.replicate 64 ⟨0, 0, 0⟩) := by
   unfold slObj; rw [e, newK_length (Nat.zero_le _)]
  rw [e2, List.nil_append, List.append_nil, hzs, List.setIfInBounds_toArray, List.setIfInBounds_toArray]
  exact Lies.made _ _ _
set_option maxHeartbeats 1000000 in
set_option maxRecDepth 100000 in
theorem slotsNew (p r : Nat) (w : World) (h1 : 1 ≤ p) (h2 : p ≤ 64) (h3 : 1 ≤ r) (h4 : r ≤ 8) :
  Calls Tryz.prog 66 #[.int .i64 p, .int .i64 r] w fun e w' =>
   e = .returned (.tuple #[.pointer (some ⟨w.heap.size, 0, none⟩), .int .i64 0]) ∧ SlAt w' w.heap.size 93 [] [] r (newS p) ∧ Below w.heap.size w w' := by
 have e1 : decide ((p : Int) < 1) = false := by rw [decide_eq_false_iff_not]; omega
 have e2 : decide ((64 : Int) < (p : Int)) = false := by rw [decide_eq_false_iff_not]; omega
 have e3 : decide ((r : Int) < 1) = false := by rw [decide_eq_false_iff_not]; omega
 have e4 : decide ((8 : Int) < (r : Int)) = false := by rw [decide_eq_false_iff_not]; omega
 obtain ⟨zs, hzs⟩ : ∃ zs : Array Value, zs = ([Value.int .i64 0, .int .i64 0] ++ rowsOf slF (List.replicate 64 ⟨0, 0, 0⟩)).toArray := ⟨_, rfl⟩
 have hz := slZero
 rw [← hzs] at hz
 have hzn : zs.size = 194 := by rw [hzs]; rfl
 have hne : ¬ zs = #[] := fun e => by rw [e] at hzn; exact absurd hzn (by decide)
 have HS := Lib.hid (sl_start w p r 93 h1 h2 h3 h4 zs hzs)
 have hb0 : Below w.heap.size w (w.alloc (.cells ((zs.setIfInBounds 0 (.int .i64 (p : Int))).setIfInBounds 1 (.int .i64 (r : Int))) 93)) := (Below.refl _ _).alloc (Nat.le_refl _) _
 have HF := Lib.hid (fun (i : Nat) (hi : i < 64) w => slotsFree i w (by omega))
 clear hzs
 go_enter Tryz.func66, Tryz.ntmps66
 go_wp2
 clear hz hzn hne
 generalize w.alloc (.cells ((zs.setIfInBounds 0 (.int .i64 (p : Int))).setIfInBounds 1 (.int .i64 (r : Int))) 93) = w0 at *
 go_loopw [27] (fun u wr => ∃ k : Nat, k ≤ p ∧ u = .int .i64 k ∧ SlAt wr w.heap.size 93 [] [] r (newK p k) ∧ Below w.heap.size w wr) (fun u _ => p - (intOf u).toNat)
 case atStart => exact ⟨0, by omega, rfl, HS.out, hb0⟩
 case round =>
  clear HS hb0
  obtain ⟨k, hk, rfl, hs, hb⟩ := hrel
  by_cases hlt : k < p
  ·have hki : (k : Int) < (p : Int) := by omega
   have hk64 : (k : Int) < 64 := by omega
   have HFK := Lib.hid (HF.out k (by omega))
   obtain ⟨c0, c1, c2⟩ := hs.cells (newK_get hlt)
   have f0 := hs.free (2 + k * 3)
   have f1 := hs.free (2 + k * 3 + 1)
   have f2 := hs.free (2 + k * 3 + 2)
   have hwk : IntKind.u64.wrap (k : Int) = (k : Int) := by rw [IntKind.wrap_u64]; omega
   have hey := everyN_pos h4
   have hp3 := hs.put3 (y := ⟨2 * k, 0, 0⟩) (newK_get hlt) ⟨by simp only; omega, by simp only; omega, by simp only; omega, by simp only; omega⟩
   rw [newK_set hlt] at hp3
   simp only [List.length_nil, Nat.zero_add] at c0 c1 c2 hp3
   have HP3 := Lib.hid hp3
   have hbn := ((hb.setCell (p := ⟨w.heap.size, 2 + k * 3, none⟩) (Nat.le_refl _) (.int .u64 ((2 * k : Nat) : Int))).setCell (p := ⟨w.heap.size, 2 + k * 3 + 1, none⟩) (Nat.le_refl _) (.int .u64 ((0 : Nat) : Int))).setCell (p := ⟨w.heap.size, 2 + k * 3 + 2, none⟩) (Nat.le_refl _) (.int .i64 0)
   clear hs hp3
   go_wp2
   go_region_with (go_at_call 101; refine (HFK.out _).mono ?_; rintro e w' ⟨rfl, rfl⟩)
   all_goals
    go_wp2
    go_roundw
    case rel => exact ⟨k + 1, by omega, by go_num, HP3.out, below_drewN hbn 1⟩
    case measure => simp [intOf]; omega
  ·obtain rfl : k = p := by omega
   rw [newK_full] at hs
   have HS := Lib.hid hs
   clear hs
   go_wp2
   go_ret2
   exact ⟨rfl, HS.out, hb⟩
theorem take_fill {α : Type} {L : List α} {k : Nat} {x z : α} (h : L[k]? = some x) : (L.take k ++ List.replicate (L.length - k) z).set k x = L.take (k + 1) ++ List.replicate (L.length - (k + 1)) z := by
 have hk : k < L.length := (List.getElem?_eq_some_iff.1 h).1
 have hl : (L.take k).length = k := by rw [List.length_take]; omega
 rw [List.set_append_right _ _ (by omega), hl, Nat.sub_self, show L.length - k = L.length - (k + 1) + 1 by omega, List.replicate_succ, List.set_cons_zero, List.take_add_one, h, List.append_assoc]; rfl
set_option maxHeartbeats 1000000 in
set_option maxRecDepth 100000 in
theorem slotsAll {w : World} {g o : Nat} {T : TypeId} {pre post : List Value} {r : Nat} {L : List Sl} (h : SlAt w g T pre post r L) (ho : pre.length = o) :
  Calls Tryz.prog 71 #[.pointer (some ⟨g, o, none⟩)] w fun e w' => ∃ v, e = .returned v ∧ w'.ownsRow w.heap.size 90 3 v L.length (rowsOf slF L) ∧ Below w.heap.size w w' := by
 subst ho
 have h1 := h.heads.1
 have hl := h.ok.2.1
 have hmk := run_make_rowS (P := Tryz.prog) 74 90 (.agg #[.int .u64 0, .int .u64 0, .int .i64 0]) 3 24 Tryz.underlying74 Tryz.infoSlot .i64 .i64 L.length (by omega) (by omega) w
 have hz : (#[.int .u64 0, .int .u64 0, .int .i64 0] : Array Value).toList = slF ⟨0, 0, 0⟩ := rfl
 have ho0 := owned_rows slF_length (by decide) w 90 ⟨0, 0, 0⟩ _ hz L.length (by unfold maxLen; omega)
 have hb0 := (Below.refl w.heap.size w).alloc (Nat.le_refl _) (.cells (madeCells #[.int .u64 0, .int .u64 0, .int .i64 0] (L.length * 3)) 90)
 have hc0 : (Value.agg #[.int .u64 0, .int .u64 0, .int .i64 0]).cells = #[.int .u64 0, .int .u64 0, .int .i64 0] := rfl
 rw [hc0] at hmk
 have H := Lib.hid h
 have HO := Lib.hid ho0
 have hlt := h.lt
 clear h ho0 hz hc0
 go_enter Tryz.func71, Tryz.ntmps71
 go_wp2
 generalize w.alloc (.cells (madeCells #[.int .u64 0, .int .u64 0, .int .i64 0] (L.length * 3)) 90) = w0 at *
 clear hmk
 go_loopw [14] (fun u wr => ∃ k : Nat, k ≤ L.length ∧ u = .int .i64 k ∧ wr.ownsRow w.heap.size 90 3 (.slice (some ⟨w.heap.size, 0, none⟩) L.length L.length) L.length (rowsOf slF (L.take k ++ List.replicate (L.length - k) ⟨0, 0, 0⟩)) ∧ Below w.heap.size w wr)
  (fun u _ => L.length - (intOf u).toNat)
 case atStart => exact ⟨0, by omega, rfl, HO.out, hb0⟩
 case round =>
  clear HO hb0
  obtain ⟨k, hk, rfl, ho, hb⟩ := hrel
  by_cases hk2 : k < L.length
  ·have hd3 : (k : Int) < (L.length : Int) := by omega
   have hd64 : (k : Int) < 64 := by omega
   obtain ⟨x, hx⟩ : ∃ x, L[k]? = some x := ⟨_, List.getElem?_eq_getElem hk2⟩
   obtain ⟨c0, c1, c2⟩ := (H.out.later hb).cells hx
   have hfl : (L.take k ++ List.replicate (L.length - k) (⟨0, 0, 0⟩ : Sl)).length = L.length := by rw [List.length_append, List.length_take, List.length_replicate]; omega
   have hy : (L.take k ++ List.replicate (L.length - k) (⟨0, 0, 0⟩ : Sl))[k]? = some ⟨0, 0, 0⟩ := by
    rw [List.getElem?_append_right (by rw [List.length_take]; omega), List.length_take, List.getElem?_replicate, if_pos (by omega)]
   obtain ⟨bq, oq, heq, _, gq⟩ := SeqS.at_ slF_length (by decide) (SeqS.of_owns ho) hy
   simp only [Option.some.injEq, Addr.mk.injEq, and_true] at heq
   obtain ⟨rfl, rfl⟩ := heq
   have x0 := gq 0 _ (by decide) rfl
   have x1 := gq 1 _ (by decide) rfl
   have x2 := gq 2 _ (by decide) rfl
   have y0 := ho.frozenAt (k * 3)
   have y1 := ho.frozenAt (k * 3 + 1)
   have y2 := ho.frozenAt (k * 3 + 2)
   rw [Nat.zero_add] at x0 x1 x2
   rw [Nat.add_zero] at x0
   have hop := own_put3 ho x (by rw [hfl]; exact hk2)
   rw [take_fill hx] at hop
   have hbp := below_put3 hb (Nat.le_refl _) (k * 3) (k * 3 + 1) (k * 3 + 2) (.int .u64 (x.s : Int)) (.int .u64 (x.v : Int)) (.int .i64 x.l)
   have HOP := Lib.hid hop
   have HBP := Lib.hid hbp
   clear hop hbp gq hy hfl hx ho hb
   go_wp2
   go_roundw
   case rel => exact ⟨k + 1, by omega, by go_num, HOP.out, HBP.out⟩
   case measure => simp [intOf]; omega
  ·obtain rfl : k = L.length := by omega
   rw [List.take_of_length_le (Nat.le_refl _), Nat.sub_self, List.replicate_zero, List.append_nil] at ho
   have HO := Lib.hid ho
   clear ho
   go_wp2
   go_ret
   exact ⟨_, rfl, HO.out, hb⟩
def standsB (c r i : Nat) (x : Sl) : Bool := decide (x.s < 9223372036854775808 ∧ x.s / 2 % c = i ∧ (if x.s % 2 = 0 then x.v = 0 ∧ x.l = 0 else 0 < x.l ∧ x.l ≤ everyN r))
def slIn (x : Sl) : Prop := x.s < 18446744073709551616 ∧ x.v < 18446744073709551616 ∧ -9223372036854775808 ≤ x.l ∧ x.l ≤ 9223372036854775807
theorem stands_ok {c r i : Nat} {x : Sl} (hx : slIn x) (hr : r ≤ 8) (h : standsB c r i x = true) : slOk r x := by
 obtain ⟨h1, h2, h3⟩ := of_decide_eq_true h
 have := everyN_pos hr
 split at h3 <;> exact ⟨by omega, hx.2.1, by omega, by omega⟩
set_option maxHeartbeats 2000000 in
set_option maxRecDepth 100000 in
theorem slotsStands {w : World} {g o : Nat} {T : TypeId} {pre post : List Value} {r : Nat} {L : List Sl} (i : Nat) (x : Sl) (h : SlAt w g T pre post r L) (ho : pre.length = o) (hi : i < 64) (hx : slIn x) :
  Calls Tryz.prog 128 #[.pointer (some ⟨g, o, none⟩), .int .i64 i, .agg #[.int .u64 (x.s : Int), .int .u64 (x.v : Int), .int .i64 x.l]] w fun e w' => e = .returned (.bool (standsB L.length r i x)) ∧ Below w.heap.size w w' := by
 subst ho
 obtain ⟨h1, h2⟩ := h.heads
 have hl1 := h.ok.1
 have hl := h.ok.2.1
 have hr := h.ok.2.2.2.1
 have hlt := h.lt
 obtain ⟨x0, x1, x2, x3⟩ := hx
 have hb0 := (Below.refl w.heap.size w).alloc (Nat.le_refl _) (.cells #[.int .u64 (x.s : Int), .int .u64 (x.v : Int), .int .i64 x.l] 90)
 have li := Lies.made w 90 #[.int .u64 (x.s : Int), .int .u64 (x.v : Int), .int .i64 x.l]
 have h' := h.later hb0
 have hF : ∀ w, Calls Tryz.prog 101 #[.int .u64 4611686018427387904] w fun e w' => e = .returned (.int .u64 9223372036854775808) ∧ w = w' := fun w => slotsFree 4611686018427387904 w (by omega)
 have HF := Lib.hid hF
 clear hF
 have hP := fun w' (hc : SlAt w' g T pre post r L) => slotsPlace g pre.length L.length (x.s / 2) w' hc.heads.1 hl1 hl (by omega)
 obtain ⟨m, hm⟩ : ∃ m, x.s / 2 % L.length = m := ⟨_, rfl⟩
 obtain ⟨d, hd⟩ : ∃ d, x.s / 2 = d := ⟨_, rfl⟩
 obtain ⟨b, hb⟩ : ∃ b, x.s % 2 = b := ⟨_, rfl⟩
 rw [hm, hd] at hP
 have HP := Lib.hid hP
 have HM := Lib.hid hm
 have HB := Lib.hid hb
 clear hP
 have HE := Lib.hid (fun w' (hc : SlAt w' g T pre post r L) => slotsEveryone g pre.length r w' hc.heads.2 hr)
 have H := Lib.hid h'
 obtain ⟨S, hSS⟩ : ∃ S : Int, S = (x.s : Int) := ⟨_, rfl⟩
 have hS0 : 0 ≤ S := by omega
 have hS1 : S ≤ 18446744073709551615 := by omega
 have hqd : S / 2 = (d : Int) := by omega
 have hrm : S % 2 = (b : Int) := by omega
 clear hm hd hb
 have hwi : IntKind.u64.wrap (i : Int) = (i : Int) := by rw [IntKind.wrap_u64]; omega
 have c0 := (li.cell 0).trans (show _ = some (Value.int .u64 S) from by rw [hSS]; rfl)
 have c1 := (li.cell 1).trans (show _ = some (Value.int .u64 (x.v : Int)) from rfl)
 have c2 := (li.cell 2).trans (show _ = some (Value.int .i64 x.l) from rfl)
 clear h h' li h1 h2
 generalize hw0 : w.alloc (.cells #[.int .u64 (x.s : Int), .int .u64 (x.v : Int), .int .i64 x.l] 90) = w0 at *
 have HW := Lib.hid hw0
 have HSS := Lib.hid hSS
 clear hw0
 by_cases q1 : x.s < 9223372036854775808
 ·have e1 : decide ((9223372036854775808 : Int) ≤ S) = false := by rw [decide_eq_false_iff_not]; omega
  by_cases q2 : m = i
  ·have e2 : ((m : Int) != (i : Int)) = false := by rw [q2]; simp
   by_cases q3 : b = 0
   ·have e3 : ((b : Int) == 0) = true := by rw [beq_iff_eq]; omega
    have hS : standsB L.length r i x = decide (x.v = 0 ∧ x.l = 0) := by
     unfold standsB; congr 1; apply propext; rw [if_pos (by have := HB.out; omega)]
     exact ⟨fun h => h.2.2, fun h => ⟨q1, by rw [HM.out]; exact q2, h⟩⟩
    have HS := Lib.hid hS
    clear hS q1 q2 q3 hSS
    by_cases v0 : x.v = 0
    ·have V0 := Lib.hid v0
     clear v0
     go_enter Tryz.func128, Tryz.ntmps128
     go_wp2
     rw [HW.out]
     have e4 : ((x.v : Int) == 0) = true := by rw [beq_iff_eq]; have := V0.out; omega
     go_quiet (first | (go_at_call 101; exact quiet_same3 ((HF.out _)) ⟨_, rfl⟩) | (go_at_call 146; exact quiet_same3 ((HP.out _ (by exact H.out))) ⟨_, rfl⟩))
     go_wp2
     all_goals
      rename_i hh
      go_ret
      exact ⟨ret_bool (by rw [HS.out, Bool.eq_iff_iff]; simp [V0.out, hh]), below_drewN hb0 _⟩
    ·have V0 := Lib.hid v0
     clear v0
     go_enter Tryz.func128, Tryz.ntmps128
     go_wp2
     rw [HW.out]
     have e4 : ((x.v : Int) == 0) = false := by rw [beq_eq_false_iff_ne]; have := V0.out; omega
     go_quiet (first | (go_at_call 101; exact quiet_same3 ((HF.out _)) ⟨_, rfl⟩) | (go_at_call 146; exact quiet_same3 ((HP.out _ (by exact H.out))) ⟨_, rfl⟩))
     go_wp2
     go_ret
     exact ⟨ret_bool (by rw [HS.out, Bool.eq_iff_iff]; simp [V0.out]), below_drewN hb0 _⟩
   ·have e3 : ((b : Int) == 0) = false := by rw [beq_eq_false_iff_ne]; omega
    have hS : standsB L.length r i x = decide (0 < x.l ∧ x.l ≤ everyN r) := by
     unfold standsB; congr 1; apply propext; rw [if_neg (by have := HB.out; omega)]
     exact ⟨fun h => h.2.2, fun h => ⟨q1, by rw [HM.out]; exact q2, h⟩⟩
    have HS := Lib.hid hS
    clear hS q1 q2 q3 hSS
    by_cases v0 : 0 < x.l
    ·have e4 : decide (0 < x.l) = true := by simpa using v0
     go_enter Tryz.func128, Tryz.ntmps128
     go_wp2
     rw [HW.out]
     go_quiet (first | (go_at_call 101; exact quiet_same3 ((HF.out _)) ⟨_, rfl⟩) | (go_at_call 146; exact quiet_same3 ((HP.out _ (by exact H.out))) ⟨_, rfl⟩))
     go_wp2
     go_quiet ((go_at_call 148; exact quiet_same3 (HE.out _ (by exact H.out)) ⟨_, rfl⟩))
     go_wp2
     go_ret
     exact ⟨ret_bool (by rw [HS.out, Bool.eq_iff_iff]; simp [v0]), below_drewN (below_drewN hb0 _) _⟩
    ·have e4 : decide (0 < x.l) = false := by simpa using v0
     go_enter Tryz.func128, Tryz.ntmps128
     go_wp2
     rw [HW.out]
     go_quiet (first | (go_at_call 101; exact quiet_same3 ((HF.out _)) ⟨_, rfl⟩) | (go_at_call 146; exact quiet_same3 ((HP.out _ (by exact H.out))) ⟨_, rfl⟩))
     go_wp2
     go_quiet (fail)
     go_wp2
     go_ret
     exact ⟨ret_bool (by rw [HS.out, Bool.eq_iff_iff]; simp [v0] <;> omega), below_drewN (below_drewN hb0 _) _⟩
  ·have e2 : ((m : Int) != (i : Int)) = true := by rw [bne_iff_ne]; omega
   have HS : Hid (standsB L.length r i x = false) := by show _ = _; unfold standsB; rw [decide_eq_false (fun h => q2 (HM.out.symm.trans h.2.1))]
   clear q1 q2 hSS
   go_enter Tryz.func128, Tryz.ntmps128
   go_wp2
   rw [HW.out]
   go_quiet (first | (go_at_call 101; exact quiet_same3 ((HF.out _)) ⟨_, rfl⟩) | (go_at_call 146; exact quiet_same3 ((HP.out _ (by exact H.out))) ⟨_, rfl⟩))
   go_wp2
   go_ret
   exact ⟨ret_bool (by rw [HS.out]), below_drewN hb0 _⟩
 ·have e1 : decide ((9223372036854775808 : Int) ≤ S) = true := by rw [decide_eq_true_eq]; omega
  have HS : Hid (standsB L.length r i x = false) := by show _ = _; unfold standsB; rw [decide_eq_false (fun h => q1 h.1)]
  clear q1 hSS
  go_enter Tryz.func128, Tryz.ntmps128
  go_wp2
  rw [HW.out]
  go_quiet ((go_at_call 101; exact quiet_same3 ((HF.out _)) ⟨_, rfl⟩))
  go_wp2
  go_ret
  exact ⟨ret_bool (by rw [HS.out]), below_drewN hb0 _⟩
def loadB (p r : Nat) (L : List Sl) : Bool := decide (L.length = p) && (List.range p).all fun i => standsB p r i (L.getD i ⟨0, 0, 0⟩)
def LoadPost (w : World) (p r : Nat) (L : List Sl) (e : Ending) (w' : World) : Prop :=
 if loadB p r L = true then e = .returned (.tuple #[.pointer (some ⟨w.heap.size, 0, none⟩), .int .i64 0]) ∧ SlAt w' w.heap.size 93 [] [] r L else e = .returned (.tuple #[.pointer none, .int .i64 3])
set_option maxHeartbeats 2000000 in
set_option maxRecDepth 100000 in
theorem slotsLoad (p r : Nat) (v : Value) (n : Nat) (L : List Sl) (w : World) (h1 : 1 ≤ p) (h2 : p ≤ 64) (h3 : 1 ≤ r) (h4 : r ≤ 8) (hs : SeqS w 3 v n (rowsOf slF L)) (hin : ∀ x ∈ L, slIn x) :
  Calls Tryz.prog 94 #[.int .i64 p, .int .i64 r, v] w fun e w' => Below w.heap.size w w' ∧
   LoadPost w p r L e w' := by
 obtain ⟨A, c, rfl, hc1, hc2, _⟩ := hs.form
 have hn := hs.len_ slF_length (by decide)
 subst hn
 unfold maxLen at hc2
 have HN := Lib.hid (slotsNew p r w h1 h2 h3 h4)
 have H := Lib.hid hs
 have HI := Lib.hid hin
 clear hs hin
 by_cases hlp : L.length = p
 ·subst hlp
  have e0 : ((L.length : Int) != (L.length : Int)) = false := by simp
  go_enter Tryz.func94, Tryz.ntmps94
  go_wp2_with fail
  refine HN.out.mono ?_
  rintro e w1 ⟨rfl, hs1, hb1⟩
  have HS1 := Lib.hid hs1
  clear hs1 HN
  go_wp2
  go_loopw [27] (fun u wr => ∃ k : Nat, k ≤ L.length ∧ u = .int .i64 k ∧ SlAt wr w.heap.size 93 [] [] r (L.take k ++ (newS L.length).drop k) ∧ Hid (∀ i, i < k → standsB L.length r i (L.getD i ⟨0, 0, 0⟩) = true) ∧ Below w.heap.size w wr) (fun u _ => L.length - (intOf u).toNat)
  case atStart => exact ⟨0, by omega, rfl, HS1.out, (fun i hi => by omega), hb1⟩
  case round =>
   clear HS1 hb1
   obtain ⟨k, hk, rfl, hs, hok, hb⟩ := hrel
   by_cases hlt : k < L.length
   ·have hki : (k : Int) < (L.length : Int) := by omega
    obtain ⟨x, hx⟩ : ∃ x, L[k]? = some x := ⟨_, List.getElem?_eq_getElem hlt⟩
    have hxi := HI.out x (List.mem_of_getElem? hx)
    have hgd : L.getD k ⟨0, 0, 0⟩ = x := by rw [List.getD_eq_getElem?_getD, hx]; rfl
    obtain ⟨b, off, rfl, hbl, gx⟩ := SeqS.at_ slF_length (by decide) (H.out.later hb) hx
    have x0 := gx 0 _ (by decide) rfl
    have x1 := gx 1 _ (by decide) rfl
    have x2 := gx 2 _ (by decide) rfl
    rw [Nat.add_zero] at x0
    have hlen : (L.take k ++ (newS L.length).drop k).length = L.length := by rw [List.length_append, List.length_take, List.length_drop, newS_length]; omega
    have hbA := hb.alloc hb.size (.cells #[.int .u64 (x.s : Int), .int .u64 (x.v : Int), .int .i64 x.l] 90)
    have hbB : Below wr.heap.size wr (wr.alloc (.cells #[.int .u64 (x.s : Int), .int .u64 (x.v : Int), .int .i64 x.l] 90)) := (Below.refl _ _).alloc (Nat.le_refl _) _
    have li := Lies.made wr 90 #[.int .u64 (x.s : Int), .int .u64 (x.v : Int), .int .i64 x.l]
    have hsA := hs.later hbB
    have hst := slotsStands k x hsA rfl (by omega) hxi
    rw [hlen] at hst
    have HST := Lib.hid hst
    have HSA := Lib.hid hsA
    have LI := Lib.hid li
    have HB := Lib.hid hbA
    have HLEN := Lib.hid hlen
    have HX := Lib.hid hx
    have HGD := Lib.hid hgd
    clear hs hsA hst li hbA hbB gx hx hb hgd hlen
    by_cases hq : standsB L.length r k x = true
    ·have hst := HST.out
     rw [hq] at hst
     have HST := Lib.hid hst
     clear hst
     go_wp2_with fail
     refine HST.out.mono ?_
     rintro e w2 ⟨rfl, hb2⟩
     have hs2 := HSA.out.later hb2
     have l2 := LI.out.below hb2 (by simp)
     have hbw := HB.out.trans (hb2.mono HB.out.size)
     have d0 := (l2.cell 0).trans (show _ = some (Value.int .u64 (x.s : Int)) from rfl)
     have d1 := (l2.cell 1).trans (show _ = some (Value.int .u64 (x.v : Int)) from rfl)
     have d2 := (l2.cell 2).trans (show _ = some (Value.int .i64 x.l) from rfl)
     have hyk : k < (L.take k ++ (newS L.length).drop k).length := by rw [HLEN.out]; exact hlt
     obtain ⟨y, hy⟩ : ∃ y, (L.take k ++ (newS L.length).drop k)[k]? = some y := ⟨_, List.getElem?_eq_getElem hyk⟩
     obtain ⟨c0, c1, c2⟩ := hs2.cells hy
     have f0 := hs2.free (2 + k * 3)
     have f1 := hs2.free (2 + k * 3 + 1)
     have f2 := hs2.free (2 + k * 3 + 2)
     have hp3 := hs2.put3 hy (stands_ok hxi h4 hq)
     have hset : (L.take k ++ (newS L.length).drop k).set k x = L.take (k + 1) ++ (newS L.length).drop (k + 1) := by
      have hl2 : (L.take k).length = k := by rw [List.length_take]; omega
      rw [List.set_append_right _ _ (by omega), hl2, Nat.sub_self, List.take_add_one, HX.out, List.append_assoc]
      congr 1
      rw [List.drop_eq_getElem_cons (by rw [newS_length]; exact hlt), List.set_cons_zero]; rfl
     rw [hset] at hp3
     simp only [List.length_nil, Nat.zero_add] at c0 c1 c2 hp3
     have hok2 : Hid (∀ i, i < k + 1 → standsB L.length r i (L.getD i ⟨0, 0, 0⟩) = true) := fun i hi => by
      by_cases e : i = k
      ·subst e; rw [HGD.out]; exact hq
      ·exact hok.out i (by omega)
     have hbn := below_put3 hbw (Nat.le_refl _) (2 + k * 3) (2 + k * 3 + 1) (2 + k * 3 + 2) (.int .u64 (x.s : Int)) (.int .u64 (x.v : Int)) (.int .i64 x.l)
     have HP3 := Lib.hid hp3
     have HBN := Lib.hid hbn
     have hk64 : (k : Int) < 64 := by omega
     clear hs2 l2 hbw hy hp3 hbn hset HSA LI HB hb2 hq HST
     go_wp2
     go_region
     all_goals
      go_wp2
      go_roundw
      case rel => exact ⟨k + 1, by omega, by go_num, HP3.out, hok2, below_drewN HBN.out 1⟩
      case measure => simp [intOf]; omega
    ·have hq : standsB L.length r k x = false := by simpa using hq
     have hst := HST.out
     rw [hq] at hst
     have HST := Lib.hid hst
     have HF : Hid (loadB L.length r L = false) := by
      show _ = _
      unfold loadB
      rw [Bool.and_eq_false_iff]; right
      rw [List.all_eq_false]
      exact ⟨k, List.mem_range.2 hlt, by rw [HGD.out, hq]; simp⟩
     clear hst hq
     go_wp2_with fail
     refine HST.out.mono ?_
     rintro e w2 ⟨rfl, hb2⟩
     have hbw := HB.out.trans (hb2.mono HB.out.size)
     clear HB hb2
     go_wp2
     go_ret2
     exact ⟨hbw, by unfold LoadPost; rw [HF.out, if_neg (by decide)]; rfl⟩
   ·obtain rfl : k = L.length := by omega
    rw [List.take_of_length_le (Nat.le_refl _), List.drop_of_length_le (by rw [newS_length]; exact Nat.le_refl _), List.append_nil] at hs
    have HS := Lib.hid hs
    have HF : Hid (loadB L.length r L = true) := by
     show _ = _
     unfold loadB
     rw [Bool.and_eq_true]
     exact ⟨by simp, by rw [List.all_eq_true]; exact fun i hi => hok.out i (List.mem_range.1 hi)⟩
    clear hs
    go_wp2
    go_ret2
    exact ⟨hb, by unfold LoadPost; rw [HF.out, if_pos rfl]; exact ⟨rfl, HS.out⟩⟩
 ·have e0 : ((L.length : Int) != (p : Int)) = true := by rw [bne_iff_ne]; omega
  have HF : Hid (loadB p r L = false) := by
   show _ = _
   unfold loadB; rw [decide_eq_false hlp, Bool.false_and]
  clear hlp
  go_enter Tryz.func94, Tryz.ntmps94
  go_wp2_with fail
  refine HN.out.mono ?_
  rintro e w1 ⟨rfl, _, hb1⟩
  go_wp2
  go_ret2
  exact ⟨hb1, by unfold LoadPost; rw [HF.out, if_neg (by decide)]; rfl⟩
theorem fold_put (cs : List Value) : ∀ (off k : Nat) (zs : Array Value), off + k + cs.length ≤ zs.size →
  ((cs.zipIdx k).foldl (fun (a : Array Value) (p : Value × Nat) => a.setIfInBounds (off + p.2) p.1) zs).toList = zs.toList.take (off + k) ++ cs ++ zs.toList.drop (off + k + cs.length) := by
 induction cs with
 | nil => intro off k zs h; simp
 | cons c cs ih =>
  intro off k zs h
  simp only [List.length_cons] at h
  rw [List.zipIdx_cons, List.foldl_cons, ih off (k + 1) _ (by simp; omega)]
  simp only [Array.toList_setIfInBounds, List.length_cons]
  have hl : off + k < zs.toList.length := by rw [Array.length_toList]; omega
  rw [show off + (k + 1) = off + k + 1 by omega, List.take_set, List.drop_set, if_pos (by omega), List.take_add_one, List.getElem?_eq_getElem hl]
  simp only [Option.toList_some]
  rw [List.set_append_right _ _ (by rw [List.length_take]; omega), List.length_take, Nat.min_eq_left (by omega), Nat.sub_self]
  simp [List.append_assoc]
  congr 1; omega
def cuF (cap rd tail : Nat) (hs : List Nat) (cl : Bool) : List Value := [.int .u64 (cap : Int), .int .i64 (rd : Int), .int .u64 (tail : Int)] ++ hs.map (fun (h : Nat) => Value.int .u64 (h : Int)) ++ [.bool cl]
set_option maxRecDepth 100000 in
theorem rgZero : ∀ w : World, (zeroValue 95).run Tryz.prog w = .ok (.agg (cuF 0 0 0 [0, 0, 0, 0, 0, 0, 0, 0] false ++ ([Value.int .i64 0, .int .i64 0] ++ rowsOf slF (List.replicate 64 ⟨0, 0, 0⟩))).toArray) w := fun w => by kernel_rfl
set_option maxRecDepth 100000 in
theorem ring_build (w : World) (cap rd : Nat) (cs : List Value) (hcs : cs.length = 194) :
  (Instr.build 95 #[(0, .agg (cuF cap rd 0 [0, 0, 0, 0, 0, 0, 0, 0] false).toArray), (1, .agg cs.toArray)]).run Tryz.prog w = .ok (.agg (cuF cap rd 0 [0, 0, 0, 0, 0, 0, 0, 0] false ++ cs).toArray) w := by
 obtain ⟨zs, hzs⟩ : ∃ zs : Array Value, zs = (cuF 0 0 0 [0, 0, 0, 0, 0, 0, 0, 0] false ++ ([Value.int .i64 0, .int .i64 0] ++ rowsOf slF (List.replicate 64 ⟨0, 0, 0⟩))).toArray := ⟨_, rfl⟩
 have hz := rgZero
 rw [← hzs] at hz
 have hzn : zs.size = 206 := by rw [hzs]; rfl
 clear hzs
 have hu := Tryz.underlying95
 unfold Instr.build
 simp [go_sem, hz]
 have hzl : zs.toList.length = 206 := by rw [Array.length_toList]; exact hzn
 have hA : (cuF cap rd 0 [0, 0, 0, 0, 0, 0, 0, 0] false).length = 12 := rfl
 generalize cuF cap rd 0 [0, 0, 0, 0, 0, 0, 0, 0] false = A at *
 have h1 := fold_put A 0 0 zs (by omega)
 simp only [Nat.zero_add, List.take_zero, List.nil_append] at h1
 generalize hP : List.foldl (fun cs x => cs.setIfInBounds x.snd x.fst) zs A.zipIdx = P1 at *
 have hP1 : P1.size = 206 := by rw [← Array.length_toList, h1, List.length_append, List.length_drop, hA, hzl]
 have h2 := fold_put cs 12 0 P1 (by omega)
 simp only [Nat.add_zero] at h2
 rw [if_neg (by omega), if_neg (by omega)]
 simp only [Sem.run_pure]
 congr 2
 apply Array.toList_inj.1
 rw [h2, h1, List.take_append_of_le_length (by omega), List.take_of_length_le (by omega), List.drop_of_length_le (by rw [List.length_append, List.length_drop, hA, hzl, hcs]; omega)]
 simp
structure Rg where
 cap : Nat
 rd : Nat
 tail : Nat
 h8 : List Nat
 cl : Bool
 L : List Sl
def RgOk (R : Rg) : Prop := R.h8.length = 8 ∧ SlOk R.rd R.L ∧ R.cap = R.L.length ∧ R.tail ≤ 4611687117939015680 ∧ ∀ h ∈ R.h8, h ≤ R.tail
def cuR (R : Rg) : List Value := cuF R.cap R.rd R.tail R.h8 R.cl
def RgAt (w : World) (g : Nat) (T : TypeId) (p0 post : List Value) (R : Rg) : Prop := RgOk R ∧ SlAt w g T (p0 ++ cuR R) post R.rd R.L
theorem cuR_length {R : Rg} (h : RgOk R) : (cuR R).length = 12 := by unfold cuR cuF; simp [h.1]
section
variable {w w' : World} {g : Nat} {T : TypeId} {pre p0 post : List Value} {r : Nat} {L : List Sl} {R : Rg}
theorem SlAt.pre_cell (h : SlAt w g T pre post r L) {k : Nat} {v : Value} (hk : pre[k]? = some v) : w.cell? ⟨g, k, none⟩ = some v := by
 obtain ⟨M, _, _, h3⟩ := h
 rw [h3.cell, List.getElem?_toArray, List.getElem?_append_left (List.getElem?_eq_some_iff.1 hk).1, hk]
theorem SlAt.pre_set (h : SlAt w g T pre post r L) {k : Nat} (hk : k < pre.length) (u : Value) : SlAt (w.setCell ⟨g, k, none⟩ u) g T (pre.set k u) post r L := by
 obtain ⟨M, h1, h2, h3⟩ := h
 refine ⟨M, h1, h2, ?_⟩
 have := h3.putL k u
 rwa [List.set_append_left _ _ hk] at this
theorem RgAt.kept {S : Nat → Prop} (h : RgAt w g T p0 post R) (k : Kept S w w') (hn : ¬ S g) : RgAt w' g T p0 post R := ⟨h.1, h.2.kept k hn⟩
theorem RgAt.later (h : RgAt w g T p0 post R) (hb : Below w.heap.size w w') : RgAt w' g T p0 post R := ⟨h.1, h.2.later hb⟩
theorem RgAt.drewN (h : RgAt w g T p0 post R) (n : Nat) : RgAt (w.drewN n) g T p0 post R := h
theorem RgAt.lt (h : RgAt w g T p0 post R) : g < w.heap.size := h.2.lt
theorem RgAt.cu (h : RgAt w g T p0 post R) {k : Nat} {v : Value} (hk : (cuR R)[k]? = some v) : w.cell? ⟨g, p0.length + k, none⟩ = some v := by
 refine h.2.pre_cell ?_
 rw [List.getElem?_append_right (by omega), Nat.add_sub_cancel_left, hk]
theorem RgAt.cells (h : RgAt w g T p0 post R) : w.cell? ⟨g, p0.length, none⟩ = some (.int .u64 (R.cap : Int)) ∧ w.cell? ⟨g, p0.length + 1, none⟩ = some (.int .i64 (R.rd : Int)) ∧ w.cell? ⟨g, p0.length + 2, none⟩ = some (.int .u64 (R.tail : Int)) ∧
  w.cell? ⟨g, p0.length + 11, none⟩ = some (.bool R.cl) := by
 have h8 := h.1.1
 refine ⟨h.cu (k := 0) rfl, h.cu (k := 1) rfl, h.cu (k := 2) rfl, h.cu (k := 11) ?_⟩
 unfold cuR cuF
 rw [List.getElem?_append_right (by simp [h8])]
 simp [h8]
theorem RgAt.head (h : RgAt w g T p0 post R) {j x : Nat} (hj : R.h8[j]? = some x) : w.cell? ⟨g, p0.length + 3 + j, none⟩ = some (.int .u64 (x : Int)) := by
 have h8 := h.1.1
 have hjl := (List.getElem?_eq_some_iff.1 hj).1
 rw [Nat.add_assoc]
 refine h.cu (k := 3 + j) ?_
 unfold cuR cuF
 rw [List.getElem?_append_left (by simp; omega), List.getElem?_append_right (by simp)]
 simp [hj]
theorem RgAt.free (h : RgAt w g T p0 post R) (i : Nat) : w.frozen? ⟨g, i, none⟩ = false := h.2.free i
theorem RgAt.slots (h : RgAt w g T p0 post R) : SlAt w g T (p0 ++ cuR R) post R.rd R.L ∧ (p0 ++ cuR R).length = p0.length + 12 := ⟨h.2, by rw [List.length_append, cuR_length h.1]⟩
theorem RgAt.put (h : RgAt w g T p0 post R) {R' : Rg} {k : Nat} {u : Value} (hk : k < 12) (hok : RgOk R') (hr : R'.rd = R.rd) (hL : R'.L = R.L) (hc : (cuR R).set k u = cuR R') : RgAt (w.setCell ⟨g, p0.length + k, none⟩ u) g T p0 post R' := by
 have hl := cuR_length h.1
 refine ⟨hok, ?_⟩
 have := h.2.pre_set (k := p0.length + k) (by rw [List.length_append]; omega) u
 rw [List.set_append_right _ _ (by omega), Nat.add_sub_cancel_left, hc] at this
 rw [hr, hL]; exact this
end
def leastN (R : Rg) : Nat := (R.h8.take R.rd).foldl min (R.h8.getD 0 0)
def readsB (R : Rg) (j : Int) : Bool := decide (0 ≤ j ∧ j < (R.rd : Int))
def fullB (R : Rg) : Bool := decide (R.cap ≤ R.tail - leastN R)
def headN (R : Rg) (j : Int) : Nat := R.h8.getD j.toNat 0
def emptyB (R : Rg) (j : Int) : Bool := !readsB R j || decide (headN R j = R.tail)
theorem foldl_min_le (l : List Nat) : ∀ a, l.foldl min a ≤ a := by
 induction l with
 | nil => intro a; exact Nat.le_refl _
 | cons b l ih => intro a; exact Nat.le_trans (ih _) (Nat.min_le_left _ _)
theorem leastN_le {R : Rg} (h : RgOk R) : leastN R ≤ R.tail := by
 refine Nat.le_trans (foldl_min_le _ _) ?_
 have h8 := h.1
 rw [List.getD_eq_getElem?_getD, List.getElem?_eq_getElem (by omega)]
 exact h.2.2.2.2 _ (List.getElem_mem _)
section
variable {w : World} {g o : Nat} {T : TypeId} {p0 post : List Value} {R : Rg}
theorem cuReads (j : Int) (w : World) (h : w.cell? ⟨g, o + 1, none⟩ = some (.int .i64 (R.rd : Int))) :
  Calls Tryz.prog 126 #[.pointer (some ⟨g, o, none⟩), .int .i64 j] w fun e w' => e = .returned (.bool (readsB R j)) ∧ w = w' := by
 by_cases h0 : 0 ≤ j
 ·have e0 : decide ((0 : Int) ≤ j) = true := by simpa using h0
  have HR : Hid (readsB R j = decide (j < (R.rd : Int))) := by show _ = _; unfold readsB; congr 1; apply propext; omega
  clear h0
  go_enter Tryz.func126, Tryz.ntmps126
  go_wp2
  go_ret
  exact ⟨ret_bool (by rw [HR.out]), rfl⟩
 ·have e0 : decide ((0 : Int) ≤ j) = false := by simpa using h0
  have HR : Hid (readsB R j = false) := by show _ = _; unfold readsB; rw [decide_eq_false (fun h => h0 h.1)]
  clear h0
  go_enter Tryz.func126, Tryz.ntmps126
  go_wp2
  go_ret
  exact ⟨ret_bool (by rw [HR.out]), rfl⟩
set_option maxHeartbeats 1000000 in
set_option maxRecDepth 100000 in
theorem cuLeast (h : RgAt w g T p0 post R) (ho : p0.length = o) :
  Calls Tryz.prog 93 #[.pointer (some ⟨g, o, none⟩)] w fun e w' => e = .returned (.int .u64 (leastN R : Nat)) ∧ w = w' := by
 subst ho
 obtain ⟨c0, c1, c2, c3⟩ := h.cells
 have hr1 := h.1.2.1.2.2.1
 have hr2 := h.1.2.1.2.2.2.1
 have h8 := h.1.1
 obtain ⟨x0, hx0⟩ : ∃ x, R.h8[0]? = some x := ⟨_, List.getElem?_eq_getElem (by omega)⟩
 have d0 := h.head hx0
 rw [Nat.add_zero] at d0
 have hg0 : R.h8.getD 0 0 = x0 := by rw [List.getD_eq_getElem?_getD, hx0]; rfl
 have HL : Hid (leastN R = (R.h8.take R.rd).foldl min x0) := by show _ = _; unfold leastN; rw [hg0]
 have H := Lib.hid h
 have H8 := Lib.hid h8
 clear h hx0 hg0 h8
 go_enter Tryz.func93, Tryz.ntmps93
 go_wp2
 go_loopw [3, 14] (fun x u wr => ∃ k : Nat, k ≤ R.rd ∧ u = .int .i64 k ∧ x = .int .u64 ((R.h8.take k).foldl min x0 : Nat) ∧ wr = w) (fun _ u _ => R.rd - (intOf u).toNat)
 case atStart => exact ⟨0, by omega, rfl, rfl, rfl⟩
 case round =>
  obtain ⟨k, hk, rfl, rfl, rfl⟩ := hrel
  by_cases hlt : k < R.rd
  ·have hki : (k : Int) < (R.rd : Int) := by omega
   have hk8 : (k : Int) < 8 := by omega
   obtain ⟨x, hx⟩ : ∃ x, R.h8[k]? = some x := ⟨_, List.getElem?_eq_getElem (by have := H8.out; omega)⟩
   have dk := H.out.head hx
   have hnx : (R.h8.take (k + 1)).foldl min x0 = min ((R.h8.take k).foldl min x0) x := by rw [List.take_add_one, hx, Option.toList_some, List.foldl_append]; rfl
   have HNX := Lib.hid hnx
   clear hx hnx
   generalize (R.h8.take k).foldl min x0 = m at *
   go_wp2
   go_roundw
   case rel => exact ⟨k + 1, by omega, by go_num, by rw [HNX.out]; congr 1; omega, trivial⟩
   case measure => simp [intOf]; omega
  ·obtain rfl : k = R.rd := by omega
   have hl := HL.out
   generalize (R.h8.take R.rd).foldl min x0 = m at *
   have HL2 := Lib.hid hl
   clear hl HL
   go_wp2
   go_ret
   exact ⟨ret_int (by rw [HL2.out]), rfl⟩
end
section
variable {w : World} {g o : Nat} {T : TypeId} {p0 post : List Value} {R : Rg}
theorem cuFull (h : RgAt w g T p0 post R) (ho : p0.length = o) :
  Calls Tryz.prog 58 #[.pointer (some ⟨g, o, none⟩)] w fun e w' => e = .returned (.bool (fullB R)) ∧ ∃ n, w' = w.drewN n := by
 have HL := Lib.hid (fun w' (h : RgAt w' g T p0 post R) => cuLeast h ho)
 subst ho
 obtain ⟨c0, c1, c2, c3⟩ := h.cells
 have hle := leastN_le h.1
 have htl := h.1.2.2.2.1
 have HF : Hid (fullB R = decide (R.cap ≤ R.tail - leastN R)) := rfl
 have hsub : IntKind.u64.wrap ((R.tail : Int) - (leastN R : Int)) = ((R.tail - leastN R : Nat) : Int) := by rw [IntKind.wrap_u64]; omega
 have H := Lib.hid h
 clear h
 generalize R.tail - leastN R = d at *
 generalize leastN R = m at *
 go_enter Tryz.func58, Tryz.ntmps58
 go_wp2
 go_quiet ((go_at_call 93; exact quiet_same3 ((HL.out _ (by exact H.out))) ⟨_, rfl⟩))
 go_wp2
 go_ret
 exact ⟨ret_bool (by rw [HF.out]), _, rfl⟩
set_option maxHeartbeats 1000000 in
set_option maxRecDepth 100000 in
theorem cuEmpty (j : Int) (h : RgAt w g T p0 post R) (ho : p0.length = o) :
  Calls Tryz.prog 125 #[.pointer (some ⟨g, o, none⟩), .int .i64 j] w fun e w' => e = .returned (.bool (emptyB R j)) ∧ ∃ n, w' = w.drewN n := by
 subst ho
 obtain ⟨c0, c1, c2, c3⟩ := h.cells
 have HRD := Lib.hid (fun w' (h : RgAt w' g T p0 post R) => cuReads (R := R) j w' h.cells.2.1)
 have hr2 := h.1.2.1.2.2.2.1
 have h8 := h.1.1
 have H := Lib.hid h
 by_cases hr : readsB R j = true
 ·obtain ⟨j0, jr⟩ := of_decide_eq_true hr
  obtain ⟨n, rfl⟩ : ∃ n : Nat, j = n := ⟨j.toNat, by omega⟩
  have hn8 : (n : Int) < 8 := by omega
  obtain ⟨x, hx⟩ : ∃ x, R.h8[n]? = some x := ⟨_, List.getElem?_eq_getElem (by omega)⟩
  have dk := h.head hx
  have HE : Hid (emptyB R n = decide (x = R.tail)) := by
   show _ = _; unfold emptyB headN
   rw [hr, Int.toNat_natCast, List.getD_eq_getElem?_getD, hx]; rfl
  have HRD2 := HRD.out
  rw [hr] at HRD2
  have HRD3 := Lib.hid HRD2
  clear HRD HRD2 hr hx h h8
  generalize R.tail = tl at *
  go_enter Tryz.func125, Tryz.ntmps125
  go_wp2
  go_quiet ((go_at_call 126; exact quiet_same3 ((HRD3.out _ (by exact H.out))) ⟨_, rfl⟩))
  go_wp2
  go_ret
  exact ⟨ret_bool (by rw [HE.out, Bool.eq_iff_iff]; simp; try omega), _, rfl⟩
 ·have hr : readsB R j = false := by simpa using hr
  have HE : Hid (emptyB R j = true) := by show _ = _; unfold emptyB; rw [hr]; rfl
  have HRD2 := HRD.out
  rw [hr] at HRD2
  have HRD3 := Lib.hid HRD2
  clear HRD HRD2 hr h h8
  go_enter Tryz.func125, Tryz.ntmps125
  go_wp2
  go_quiet ((go_at_call 126; exact quiet_same3 ((HRD3.out _ (by exact H.out))) ⟨_, rfl⟩))
  go_wp2
  go_ret
  exact ⟨ret_bool (by rw [HE.out]), _, rfl⟩
theorem rgTail (h : RgAt w g T p0 post R) (ho : p0.length = o) : Calls Tryz.prog 88 #[.pointer (some ⟨g, o, none⟩)] w fun e w' => e = .returned (.int .u64 (R.tail : Nat)) ∧ w = w' := by
 subst ho
 obtain ⟨c0, c1, c2, c3⟩ := h.cells
 clear h
 go_enter Tryz.func88, Tryz.ntmps88
 go_wp2
 go_ret
 exact ⟨rfl, rfl⟩
theorem rgFull (h : RgAt w g T p0 post R) (ho : p0.length = o) : Calls Tryz.prog 87 #[.pointer (some ⟨g, o, none⟩)] w fun e w' => e = .returned (.bool (fullB R)) ∧ ∃ n, w' = w.drewN n := by
 have HF := Lib.hid (cuFull h ho)
 clear h ho
 go_enter Tryz.func87, Tryz.ntmps87
 go_wp2_with fail
 refine HF.out.mono ?_
 rintro e w' ⟨rfl, n, rfl⟩
 go_wp2
 go_ret
 exact ⟨rfl, _, rfl⟩
theorem rgEmpty (j : Int) (h : RgAt w g T p0 post R) (ho : p0.length = o) : Calls Tryz.prog 90 #[.pointer (some ⟨g, o, none⟩), .int .i64 j] w fun e w' => e = .returned (.bool (emptyB R j)) ∧ ∃ n, w' = w.drewN n := by
 have HF := Lib.hid (cuEmpty j h ho)
 clear h ho
 go_enter Tryz.func90, Tryz.ntmps90
 go_wp2_with fail
 refine HF.out.mono ?_
 rintro e w' ⟨rfl, n, rfl⟩
 go_wp2
 go_ret
 exact ⟨rfl, _, rfl⟩
def headV (R : Rg) (j : Int) : Nat := if readsB R j = true then headN R j else 0
theorem rgHead (j : Int) (h : RgAt w g T p0 post R) (ho : p0.length = o) : Calls Tryz.prog 91 #[.pointer (some ⟨g, o, none⟩), .int .i64 j] w fun e w' => e = .returned (.int .u64 (headV R j : Nat)) ∧ w = w' := by
 subst ho
 obtain ⟨c0, c1, c2, c3⟩ := h.cells
 have HRD := Lib.hid (cuReads (R := R) j w c1)
 have hr2 := h.1.2.1.2.2.2.1
 have h8 := h.1.1
 by_cases hr : readsB R j = true
 ·obtain ⟨j0, jr⟩ := of_decide_eq_true hr
  obtain ⟨n, rfl⟩ : ∃ n : Nat, j = n := ⟨j.toNat, by omega⟩
  have hn8 : (n : Int) < 8 := by omega
  obtain ⟨x, hx⟩ : ∃ x, R.h8[n]? = some x := ⟨_, List.getElem?_eq_getElem (by omega)⟩
  have dk := h.head hx
  have HV : Hid (headV R n = x) := by
   show _ = _; unfold headV headN; rw [hr, if_pos rfl, Int.toNat_natCast, List.getD_eq_getElem?_getD, hx]; rfl
  have HRD2 := HRD.out
  rw [hr] at HRD2
  have HRD3 := Lib.hid HRD2
  clear HRD HRD2 hr hx h h8
  go_enter Tryz.func91, Tryz.ntmps91
  go_wp2_with fail
  refine HRD3.out.mono ?_
  rintro e w' ⟨rfl, rfl⟩
  go_wp2
  go_ret
  exact ⟨ret_int (by rw [HV.out]), rfl⟩
 ·have hr : readsB R j = false := by simpa using hr
  have HV : Hid (headV R j = 0) := by show _ = _; unfold headV; rw [hr, if_neg (by decide)]
  have HRD2 := HRD.out
  rw [hr] at HRD2
  have HRD3 := Lib.hid HRD2
  clear HRD HRD2 hr h h8
  go_enter Tryz.func91, Tryz.ntmps91
  go_wp2_with fail
  refine HRD3.out.mono ?_
  rintro e w' ⟨rfl, rfl⟩
  go_wp2
  go_ret
  exact ⟨ret_int (by rw [HV.out]; rfl), rfl⟩
end
structure Ln where
 R : Rg
 M : List Sl
 cl : Bool
instance : Inhabited Ln := ⟨⟨⟨0, 0, 0, [], false, []⟩, [], false⟩⟩
def lnF (x : Ln) : List Value := cuR x.R ++ (slObj x.R.rd x.R.L x.M ++ [.bool x.cl])
def lnOk (x : Ln) : Prop := RgOk x.R ∧ (x.R.L ++ x.M).length = 64
theorem lnF_length {x : Ln} (h : lnOk x) : (lnF x).length = 207 := by
 unfold lnF
 rw [List.length_append, List.length_append, cuR_length h.1, slObj_length, h.2]; rfl
theorem lnF_one (x : Ln) : ∀ u ∈ lnF x, u.oneCell' = true := fun u hu => by
 unfold lnF at hu
 rcases List.mem_append.1 hu with hu | hu
 ·unfold cuR cuF at hu
  simp at hu
  rcases hu with rfl | rfl | rfl | ⟨_, _, rfl⟩ | rfl <;> rfl
 ·rcases List.mem_append.1 hu with hu | hu
  ·unfold slObj at hu
   rcases List.mem_append.1 hu with hu | hu
   ·simp at hu; rcases hu with rfl | rfl <;> rfl
   ·exact slF_one _ u hu
  ·simp at hu; subst hu; rfl
theorem lns_length : ∀ {l : List Ln}, (∀ x ∈ l, lnOk x) → (rowsOf lnF l).length = l.length * 207
 | [], _ => by simp [rowsOf]
 | a :: l, h => by
  rw [rowsOf_cons, List.length_append, lnF_length (h a List.mem_cons_self), lns_length (fun x hx => h x (List.mem_cons_of_mem _ hx)), List.length_cons]
  omega
def LnsAt (w : World) (B : Nat) (v : Value) (l : List Ln) : Prop := w.ownsRow B 97 207 v l.length (rowsOf lnF l) ∧ ∀ x ∈ l, lnOk x
section
variable {w w' : World} {B : Nat} {v : Value} {l : List Ln}
theorem LnsAt.later (h : LnsAt w B v l) (k : Below w.heap.size w w') : LnsAt w' B v l := ⟨owned_below h.1 k, h.2⟩
theorem LnsAt.kept {S : Nat → Prop} (h : LnsAt w B v l) (k : Kept S w w') (hn : ∀ r cur, v.ownBlock = some r → Lies w r 97 cur → ¬ S r) : LnsAt w' B v l := ⟨owns_kept h.1 k hn, h.2⟩
theorem LnsAt.at_ (h : LnsAt w B v l) {i : Nat} {x : Ln} (hx : l[i]? = some x) : ∃ r cap pre post, v = .slice (some ⟨r, 0, none⟩) l.length cap ∧ l.length ≤ cap ∧ cap ≤ maxLen ∧ B ≤ r ∧ r < w.heap.size ∧ pre.length = i * 207 ∧
  RgAt w r 97 pre (.bool x.cl :: post) x.R ∧ w.cell? ⟨r, i * 207 + 206, none⟩ = some (.bool x.cl) ∧ (∀ j, w.frozen? ⟨r, j, none⟩ = false) ∧
  ∀ (q : World) (R' : Rg) (c' : Bool), RgAt q r 97 pre (.bool c' :: post) R' → ∃ M', LnsAt q B v (l.set i ⟨R', M', c'⟩) := by
 obtain ⟨⟨h1, h2⟩, hok⟩ := h
 obtain ⟨hil, hie⟩ := List.getElem?_eq_some_iff.1 hx
 have hxo := hok x (List.mem_of_getElem? hx)
 rcases h2 with ⟨_, h0⟩ | ⟨r, cap, cur, rfl, hB, hh, hc1, hc2, hc3, hc4⟩
 ·omega
 obtain ⟨sp, hsp⟩ : ∃ sp, cur.toList = rowsOf lnF l ++ sp := ⟨cur.toList.drop (l.length * 207), by rw [← hc4, List.take_append_drop]⟩
 have hl2 : l = l.take i ++ x :: l.drop (i + 1) := by
  rw [← hie, List.getElem_cons_drop, List.take_append_drop]
 have hok1 : ∀ y ∈ l.take i, lnOk y := fun y hy => hok y (List.mem_of_mem_take hy)
 have hok2 : ∀ y ∈ l.drop (i + 1), lnOk y := fun y hy => hok y (List.mem_of_mem_drop hy)
 have hpl : (rowsOf lnF (l.take i)).length = i * 207 := by rw [lns_length hok1, List.length_take, Nat.min_eq_left (by omega)]
 have hcur : cur = (rowsOf lnF (l.take i) ++ (lnF x ++ (rowsOf lnF (l.drop (i + 1)) ++ sp))).toArray := by
  apply Array.toList_inj.1
  rw [hsp]
  conv => lhs; rw [hl2]
  rw [rowsOf_append, rowsOf_cons]
  simp
 have hlies : Lies w r 97 cur := hh
 have hcell : w.cell? ⟨r, i * 207 + 206, none⟩ = some (.bool x.cl) := by
  rw [hlies.cell, hcur, List.getElem?_toArray, List.getElem?_append_right (by omega), hpl, show i * 207 + 206 - i * 207 = 206 by omega, List.getElem?_append_left (by rw [lnF_length hxo]; omega)]
  unfold lnF
  rw [List.getElem?_append_right (by rw [cuR_length hxo.1]; omega), cuR_length hxo.1, List.getElem?_append_right (by rw [slObj_length, hxo.2]; decide), slObj_length, hxo.2]
  rfl
 refine ⟨r, cap, rowsOf lnF (l.take i), rowsOf lnF (l.drop (i + 1)) ++ sp, rfl, hc1, hc2, hB, hlies.lt, hpl, ?_, hcell, fun j => hlies.free j, ?_⟩
 ·refine ⟨hxo.1, x.M, hxo.2, hxo.1.2.1, ?_⟩
  have e : rowsOf lnF (l.take i) ++ (lnF x ++ (rowsOf lnF (l.drop (i + 1)) ++ sp)) = rowsOf lnF (l.take i) ++ cuR x.R ++ (slObj x.R.rd x.R.L x.M ++ .bool x.cl :: (rowsOf lnF (l.drop (i + 1)) ++ sp)) := by
   rw [show lnF x = cuR x.R ++ (slObj x.R.rd x.R.L x.M ++ [.bool x.cl]) from rfl]; simp
  rw [hcur, e] at hlies
  exact hlies
 ·intro q R' c' hq
  obtain ⟨q1, M', q2, q3, q4⟩ := hq
  have hno : lnOk ⟨R', M', c'⟩ := ⟨q1, q2⟩
  have hset : l.set i ⟨R', M', c'⟩ = l.take i ++ ⟨R', M', c'⟩ :: l.drop (i + 1) := by rw [List.set_eq_take_append_cons_drop, if_pos hil]
  have hok' : ∀ y ∈ l.set i ⟨R', M', c'⟩, lnOk y := fun y hy => by
   rcases List.mem_or_eq_of_mem_set hy with hy | rfl
   ·exact hok y hy
   ·exact hno
  refine ⟨M', ⟨?_, .inr ⟨r, cap, _, ?_, hB, q4, ?_, hc2, ?_, ?_⟩⟩, hok'⟩
  ·rw [lns_length hok']
  ·rw [List.length_set]
  ·rw [List.length_set]; exact hc1
  ·have e1 : cur.size = cap * 207 := hc3
   have e2 : cur.size = (rowsOf lnF (l.take i) ++ (lnF x ++ (rowsOf lnF (l.drop (i + 1)) ++ sp))).length := by rw [hcur]; simp
   have e3 := lnF_length hxo
   have e4 := lnF_length hno
   unfold lnF at e4
   simp only [List.length_append] at e2 e4
   simp only [List.size_toArray, List.length_append, List.length_cons, List.length_nil] at e4 ⊢
   omega
  ·rw [hset]
   have e : (rowsOf lnF (l.take i) ++ cuR R' ++ (slObj R'.rd R'.L M' ++ .bool c' :: (rowsOf lnF (l.drop (i + 1)) ++ sp))) = rowsOf lnF (l.take i ++ ⟨R', M', c'⟩ :: l.drop (i + 1)) ++ sp := by
    rw [rowsOf_append, rowsOf_cons]
    unfold lnF
    simp
   rw [List.toList_toArray, e, List.take_append_of_le_length (by rw [lns_length (by rw [← hset]; exact hok')]; simp), List.take_of_length_le (by rw [lns_length (by rw [← hset]; exact hok')]; simp)]
end
structure La where
 R : Rg
 cl : Bool
instance : Inhabited La := ⟨⟨⟨0, 0, 0, [], false, []⟩, false⟩⟩
def laOf (x : Ln) : La := ⟨x.R, x.cl⟩
def LnsA (w : World) (B : Nat) (v : Value) (l : List La) : Prop := ∃ ms : List Ln, ms.map laOf = l ∧ LnsAt w B v ms
section
variable {w w' : World} {B : Nat} {v : Value} {l : List La}
theorem LnsA.later (h : LnsA w B v l) (k : Below w.heap.size w w') : LnsA w' B v l := by
 obtain ⟨ms, e, h⟩ := h; exact ⟨ms, e, h.later k⟩
theorem LnsA.kept {S : Nat → Prop} (h : LnsA w B v l) (k : Kept S w w') (hn : ∀ r cur, Lies w r 97 cur → ¬ S r) : LnsA w' B v l := by
 obtain ⟨ms, e, h⟩ := h; exact ⟨ms, e, h.kept k (fun r cur _ hl => hn r cur hl)⟩
theorem LnsA.owns (h : LnsA w B v l) : ∃ xs, w.ownsRow B 97 207 v l.length xs := by
 obtain ⟨ms, e, h⟩ := h
 subst e
 rw [List.length_map]
 exact ⟨_, h.1⟩
theorem LnsA.at_ (h : LnsA w B v l) {i : Nat} {x : La} (hx : l[i]? = some x) : ∃ r cap pre post, v = .slice (some ⟨r, 0, none⟩) l.length cap ∧ l.length ≤ cap ∧ cap ≤ maxLen ∧ B ≤ r ∧ r < w.heap.size ∧ pre.length = i * 207 ∧
  RgAt w r 97 pre (.bool x.cl :: post) x.R ∧ w.cell? ⟨r, i * 207 + 206, none⟩ = some (.bool x.cl) ∧ (∀ j, w.frozen? ⟨r, j, none⟩ = false) ∧
  ∀ (q : World) (R' : Rg) (c' : Bool), RgAt q r 97 pre (.bool c' :: post) R' → LnsA q B v (l.set i ⟨R', c'⟩) := by
 obtain ⟨ms, e, h⟩ := h
 subst e
 rw [List.getElem?_map] at hx
 obtain ⟨y, hy, rfl⟩ := Option.map_eq_some_iff.1 hx
 rw [List.length_map]
 obtain ⟨r, cap, pre, post, q1, q2, q3, q4, q5, q6, q7, q8, q9, q10⟩ := h.at_ hy
 refine ⟨r, cap, pre, post, q1, q2, q3, q4, q5, q6, q7, q8, q9, fun q R' c' hq => ?_⟩
 obtain ⟨M', hm⟩ := q10 q R' c' hq
 exact ⟨_, by rw [List.map_set]; rfl, hm⟩
end
structure In where
 op : Int
 a : Int
 b : Int
 c : Int
 d : Int
 k : Nat
instance : Inhabited In := ⟨⟨0, 0, 0, 0, 0, 0⟩⟩
def inF (x : In) : List Value := [.int .i64 x.op, .int .i64 x.a, .int .i64 x.b, .int .i64 x.c, .int .i64 x.d, .int .u64 (x.k : Int)]
abbrev inC (x : In) : Array Value := #[.int .i64 x.op, .int .i64 x.a, .int .i64 x.b, .int .i64 x.c, .int .i64 x.d, .int .u64 (x.k : Int)]
theorem inF_length (x : In) : (inF x).length = 6 := rfl
def i64 (z : Int) : Prop := -9223372036854775808 ≤ z ∧ z ≤ 9223372036854775807
def inOk (x : In) : Prop := i64 x.op ∧ i64 x.a ∧ i64 x.b ∧ i64 x.c ∧ i64 x.d ∧ x.k ≤ 18446744073709551615
structure Ri where
 k : Int
 c : Int
 r : Int
instance : Inhabited Ri := ⟨⟨0, 0, 0⟩⟩
def riF (x : Ri) : List Value := [.int .i64 x.k, .int .i64 x.c, .int .i64 x.r]
abbrev riC (x : Ri) : Array Value := #[.int .i64 x.k, .int .i64 x.c, .int .i64 x.r]
theorem riF_length (x : Ri) : (riF x).length = 3 := rfl
def riOk (x : Ri) : Prop := i64 x.k ∧ i64 x.c ∧ i64 x.r
structure Pg where
 rs : List Ri
 ts : List (List In)
def pgOk (p : Pg) : Prop := (∀ x ∈ p.rs, riOk x) ∧ ∀ l ∈ p.ts, ∀ x ∈ l, inOk x
abbrev InsAt (w : World) (A : Option Addr) (c : Nat) (l : List In) : Prop := SeqS w 6 (.slice A l.length c) l.length (rowsOf inF l)
abbrev RisAt (w : World) (A : Option Addr) (c : Nat) (l : List Ri) : Prop := SeqS w 3 (.slice A l.length c) l.length (rowsOf riF l)
def ThsAt (w : World) (A : Option Addr) (c : Nat) (ts : List (List In)) : Prop :=
 ∃ vs : List Value, SeqS w 1 (.slice A ts.length c) ts.length vs ∧ ∀ (i : Nat) (l : List In), ts[i]? = some l → ∃ B d, vs[i]? = some (Value.slice B l.length d) ∧ InsAt w B d l
def PgAt (w : World) (A : Option Addr) (c : Nat) (B : Option Addr) (d : Nat) (p : Pg) : Prop := RisAt w A c p.rs ∧ ThsAt w B d p.ts
abbrev pgC (A : Option Addr) (c : Nat) (B : Option Addr) (d : Nat) (p : Pg) : Array Value := #[.slice A p.rs.length c, .slice B p.ts.length d]
section
variable {w w' : World} {A B : Option Addr} {c d : Nat} {p : Pg} {ts : List (List In)}
theorem ThsAt.later (h : ThsAt w A c ts) (k : Below w.heap.size w w') : ThsAt w' A c ts := by
 obtain ⟨vs, h1, h2⟩ := h
 refine ⟨vs, h1.later k, fun i l hl => ?_⟩
 obtain ⟨B, d, h3, h4⟩ := h2 i l hl
 exact ⟨B, d, h3, h4.later k⟩
theorem PgAt.later (h : PgAt w A c B d p) (k : Below w.heap.size w w') : PgAt w' A c B d p := ⟨h.1.later k, h.2.later k⟩
theorem seq_form {sz n : Nat} {xs : List Value} (h : SeqS w sz (.slice A n c) n xs) : n ≤ c ∧ c ≤ 9223372036854775807 := by
 obtain ⟨A', c', e, h1, h2, _⟩ := h.form
 simp only [Value.slice.injEq, true_and] at e
 obtain ⟨rfl, rfl⟩ := e
 unfold maxLen at h2
 exact ⟨h1, h2⟩
theorem ThsAt.form (h : ThsAt w A c ts) : ts.length ≤ c ∧ c ≤ 9223372036854775807 := by
 obtain ⟨vs, h1, _⟩ := h
 exact seq_form h1
theorem ThsAt.at_ (h : ThsAt w A c ts) {i : Nat} {l : List In} (hl : ts[i]? = some l) : ∃ b off B d, A = some ⟨b, off, none⟩ ∧ w.cell? ⟨b, off + i, none⟩ = some (.slice B l.length d) ∧ InsAt w B d l := by
 obtain ⟨vs, h1, h2⟩ := h
 obtain ⟨B, d, h3, h4⟩ := h2 i l hl
 obtain ⟨_, A', c', e, _, _, _, hc⟩ := h1
 simp only [Value.slice.injEq, true_and] at e
 obtain ⟨rfl, rfl⟩ := e
 obtain ⟨b, off, e2, hc⟩ := hc i _ h3
 exact ⟨b, off, B, d, e2, hc, h4⟩
theorem InsAt.at_ {l : List In} (h : InsAt w A c l) {i : Nat} {x : In} (hx : l[i]? = some x) : ∃ b off, A = some ⟨b, off, none⟩ ∧ b < w.heap.size ∧ ∀ j u, j < 6 → (inF x)[j]? = some u → w.cell? ⟨b, off + i * 6 + j, none⟩ = some u :=
 SeqS.at_ inF_length (by decide) h hx
theorem RisAt.at_ {l : List Ri} (h : RisAt w A c l) {i : Nat} {x : Ri} (hx : l[i]? = some x) : ∃ b off, A = some ⟨b, off, none⟩ ∧ b < w.heap.size ∧ ∀ j u, j < 3 → (riF x)[j]? = some u → w.cell? ⟨b, off + i * 3 + j, none⟩ = some u :=
 SeqS.at_ riF_length (by decide) h hx
end
def opB (op : Int) : Bool := decide (1 ≤ op ∧ op ≤ 25)
def gL (op : Int) : Int × Int × Int × Int :=
 if op = 1 then (7, 0, 0, 0) else if op = 2 then (7, 7, 0, 0) else if op = 23 then (7, 7, 0, 0) else if op = 15 then (0, 0, 0, 0) else
 if op = 16 then (7, 0, 0, 0) else if op = 17 then (7, 0, 0, 0) else if op = 18 then (7, 7, 7, 2) else if op = 19 then (7, 7, 7, 2) else if op = 20 then (0, 0, 7, 0) else
 if op = 21 then (7, 0, 0, 0) else if op = 22 then (7, 0, 0, 0) else if op = 24 then (7, 0, 0, 0) else if op = 25 then (0, 0, 0, 0) else (7, 7, 7, 0)
def gK (op : Int) : Nat :=
 if op = 1 then 18446744073709551615 else if op = 15 then 256 else if op = 16 then 256 else if op = 17 then 256 else if op = 19 then 7 else 0
def wB (n m : Int) : Bool := decide (0 ≤ n) && decide (n ≤ m)
def kB (x : In) : Bool := decide (x.k ≤ gK x.op)
def rightB (x : In) : Bool := opB x.op && (wB x.a (gL x.op).1 && (wB x.b (gL x.op).2.1 && (wB x.c (gL x.op).2.2.1 && (wB x.d (gL x.op).2.2.2 && kB x))))
def jumpsB (op : Int) : Bool := decide (15 ≤ op) && decide (op ≤ 17)
def onRingB (op : Int) : Bool := op == 18 || (op == 19 || op == 20)
theorem gK_wf (op : Int) : gK op ≤ 18446744073709551615 := by
 unfold gK
 repeat' split
 all_goals decide
theorem within_any (n m : Int) (w : World) : Calls Tryz.prog 151 #[.int .i64 n, .int .i64 m] w fun e w' => e = .returned (.bool (wB n m)) ∧ w = w' := by
 unfold wB
 by_cases h : (0 : Int) ≤ n
 ·have e1 : decide ((0 : Int) ≤ n) = true := by simpa using h
  go_enter Tryz.func151, Tryz.ntmps151
  go_wp2
  go_ret
  exact ⟨by simp [h], rfl⟩
 ·have e1 : decide ((0 : Int) ≤ n) = false := by simpa using h
  go_enter Tryz.func151, Tryz.ntmps151
  go_wp2
  go_ret
  exact ⟨by simp [h], rfl⟩
theorem plain_any (n : Int) (w : World) : Calls Tryz.prog 138 #[.int .i64 n] w fun e w' => e = .returned (.bool (decide (1 ≤ n) && decide (n ≤ 17))) ∧ w = w' := by
 by_cases h : (1 : Int) ≤ n
 ·have e1 : decide ((1 : Int) ≤ n) = true := by simpa using h
  go_enter Tryz.func138, Tryz.ntmps138
  go_wp2
  go_ret
  exact ⟨by simp [h], rfl⟩
 ·have e1 : decide ((1 : Int) ≤ n) = false := by simpa using h
  go_enter Tryz.func138, Tryz.ntmps138
  go_wp2
  go_ret
  exact ⟨by simp [h], rfl⟩
theorem seen_any (n : Int) (w : World) : Calls Tryz.prog 149 #[.int .i64 n] w fun e w' => e = .returned (.bool (decide (18 ≤ n) && decide (n ≤ 25))) ∧ w = w' := by
 by_cases h : (18 : Int) ≤ n
 ·have e1 : decide ((18 : Int) ≤ n) = true := by simpa using h
  go_enter Tryz.func149, Tryz.ntmps149
  go_wp2
  go_ret
  exact ⟨by simp [h], rfl⟩
 ·have e1 : decide ((18 : Int) ≤ n) = false := by simpa using h
  go_enter Tryz.func149, Tryz.ntmps149
  go_wp2
  go_ret
  exact ⟨by simp [h], rfl⟩
def gV (op : Int) : Value := .agg #[.int .i64 0, .int .i64 (gL op).1, .int .i64 (gL op).2.1, .int .i64 (gL op).2.2.1, .int .i64 (gL op).2.2.2, .int .u64 (gK op : Int)]
set_option maxHeartbeats 8000000 in
theorem greatest_lit (op : Int) (w : World) (h : op = 1 ∨ op = 2 ∨ op = 3 ∨ op = 4 ∨ op = 5 ∨ op = 6 ∨ op = 7 ∨ op = 8 ∨ op = 9 ∨ op = 10 ∨ op = 11 ∨ op = 12 ∨ op = 13 ∨ op = 14 ∨ op = 15 ∨ op = 16 ∨ op = 17 ∨ op = 18 ∨ op = 19 ∨ op = 20 ∨ op = 21 ∨ op = 22 ∨ op = 23 ∨ op = 24 ∨ op = 25) :
  Calls Tryz.prog 150 #[.int .i64 op] w fun e w' => e = .returned (gV op) ∧ Below w.heap.size w w' := by
 rcases h with rfl | rfl | rfl | rfl | rfl | rfl | rfl | rfl | rfl | rfl | rfl | rfl | rfl | rfl | rfl | rfl | rfl | rfl | rfl | rfl | rfl | rfl | rfl | rfl | rfl
 all_goals
  go_enter Tryz.func150, Tryz.ntmps150
  go_wp2
  refine bodyPost_ret (v := gV _) (by simp [results, Tryz.results150, go_sem, gV, gL, gK]) rfl ⟨rfl, ?_⟩
  repeat (first | exact (Below.refl _ _).alloc (Nat.le_refl _) _ | refine Below.setCell ?_ (by simp) _)
theorem op_lit {op : Int} (h : opB op = true) : op = 1 ∨ op = 2 ∨ op = 3 ∨ op = 4 ∨ op = 5 ∨ op = 6 ∨ op = 7 ∨ op = 8 ∨ op = 9 ∨ op = 10 ∨ op = 11 ∨ op = 12 ∨ op = 13 ∨ op = 14 ∨ op = 15 ∨ op = 16 ∨ op = 17 ∨ op = 18 ∨ op = 19 ∨ op = 20 ∨ op = 21 ∨ op = 22 ∨ op = 23 ∨ op = 24 ∨ op = 25 := by
 have := of_decide_eq_true h
 omega
theorem op_split (op : Int) : opB op = ((decide (1 ≤ op) && decide (op ≤ 17)) || (decide (18 ≤ op) && decide (op ≤ 25))) := by
 unfold opB
 rw [Bool.eq_iff_iff]
 simp only [Bool.or_eq_true, Bool.and_eq_true, decide_eq_true_eq]
 omega
theorem jumps_any (x : In) (w : World) : Calls Tryz.prog 131 #[.agg (inC x)] w fun e w' => e = .returned (.bool (jumpsB x.op)) ∧ Below w.heap.size w w' := by
 unfold jumpsB
 have hb : Below w.heap.size w (w.alloc (.cells (inC x) 122)) := (Below.refl _ _).alloc (Nat.le_refl _) _
 by_cases h : (15 : Int) ≤ x.op
 ·have e1 : decide ((15 : Int) ≤ x.op) = true := by simpa using h
  go_enter Tryz.func131, Tryz.ntmps131
  go_wp2
  go_ret
  exact ⟨by simp [h], hb⟩
 ·have e1 : decide ((15 : Int) ≤ x.op) = false := by simpa using h
  go_enter Tryz.func131, Tryz.ntmps131
  go_wp2
  go_ret
  exact ⟨by simp [h], hb⟩
set_option maxHeartbeats 8000000 in
set_option maxRecDepth 100000 in
theorem right_any (x : In) (w : World) : Calls Tryz.prog 130 #[.agg (inC x)] w fun e w' => e = .returned (.bool (rightB x)) ∧ Below w.heap.size w w' := by
 have hb0 : Below w.heap.size w (w.alloc (.cells (inC x) 122)) := (Below.refl _ _).alloc (Nat.le_refl _) _
 have l0 := Lies.made w 122 (inC x)
 have hop := op_split x.op
 obtain ⟨pb, hpb⟩ : ∃ pb, (decide (1 ≤ x.op) && decide (x.op ≤ 17)) = pb := ⟨_, rfl⟩
 obtain ⟨sb, hsb⟩ : ∃ sb, (decide (18 ≤ x.op) && decide (x.op ≤ 25)) = sb := ⟨_, rfl⟩
 have HP : Hid (∀ w, Calls Tryz.prog 138 #[.int .i64 x.op] w fun e w' => e = .returned (.bool pb) ∧ w = w') := fun w => by rw [← hpb]; exact plain_any _ _
 have HS : Hid (∀ w, Calls Tryz.prog 149 #[.int .i64 x.op] w fun e w' => e = .returned (.bool sb) ∧ w = w') := fun w => by rw [← hsb]; exact seen_any _ _
 rw [hpb, hsb] at hop
 clear hpb hsb
 have HB0 := Lib.hid hb0
 have HL0 := Lib.hid l0
 have HW := Lib.hid within_any
 have hr : rightB x = (opB x.op && (wB x.a (gL x.op).1 && (wB x.b (gL x.op).2.1 && (wB x.c (gL x.op).2.2.1 && (wB x.d (gL x.op).2.2.2 && kB x))))) := rfl
 clear hb0 l0
 by_cases hno : opB x.op = false
 ·rw [hno, Bool.false_and] at hr
  have HR := Lib.hid hr
  rw [hno] at hop
  obtain ⟨rfl, rfl⟩ : pb = false ∧ sb = false := by cases pb <;> cases sb <;> simp at hop ⊢
  clear hop hno hr
  go_enter Tryz.func130, Tryz.ntmps130
  go_wp2_with fail
  generalize w.alloc (.cells (inC x) 122) = w1 at *
  have x0 := (HL0.out.cell 0).trans (show _ = some (Value.int .i64 x.op) from rfl)
  have hx := HL0.out.lt
  refine (HP.out _).mono ?_
  rintro e w' ⟨rfl, rfl⟩
  go_wp2_with fail
  refine (HS.out _).mono ?_
  rintro e w' ⟨rfl, rfl⟩
  go_wp2
  go_ret
  exact ⟨ret_bool (by rw [HR.out]), HB0.out⟩
 ·have hyes : opB x.op = true := by simpa using hno
  rw [hyes, Bool.true_and] at hr
  rw [hyes] at hop
  have HG := Lib.hid (fun w => greatest_lit x.op w (op_lit hyes))
  unfold gV at HG
  have HR := Lib.hid hr
  have HOP := Lib.hid hop
  clear hr hno hyes hop
  unfold kB at HR
  have hgk := gK_wf x.op
  generalize gK x.op = gk at *
  generalize (gL x.op).1 = ga at *
  generalize (gL x.op).2.1 = gb at *
  generalize (gL x.op).2.2.1 = gc at *
  generalize (gL x.op).2.2.2 = gd at *
  obtain ⟨b1, h1⟩ : ∃ b, wB x.a ga = b := ⟨_, rfl⟩
  obtain ⟨b2, h2⟩ : ∃ b, wB x.b gb = b := ⟨_, rfl⟩
  obtain ⟨b3, h3⟩ : ∃ b, wB x.c gc = b := ⟨_, rfl⟩
  obtain ⟨b4, h4⟩ : ∃ b, wB x.d gd = b := ⟨_, rfl⟩
  obtain ⟨b5, h5⟩ : ∃ b, decide (x.k ≤ gk) = b := ⟨_, rfl⟩
  have W1 := Lib.hid (fun w => within_any x.a ga w)
  have W2 := Lib.hid (fun w => within_any x.b gb w)
  have W3 := Lib.hid (fun w => within_any x.c gc w)
  have W4 := Lib.hid (fun w => within_any x.d gd w)
  rw [h1] at W1 HR
  rw [h2] at W2 HR
  rw [h3] at W3 HR
  rw [h4] at W4 HR
  rw [h5] at HR
  clear h1 h2 h3 h4 HW
  go_enter Tryz.func130, Tryz.ntmps130
  go_wp2_with fail
  generalize w.alloc (.cells (inC x) 122) = w1 at *
  have x0 := (HL0.out.cell 0).trans (show _ = some (Value.int .i64 x.op) from rfl)
  have hx := HL0.out.lt
  refine (HP.out _).mono ?_
  rintro e w' ⟨rfl, rfl⟩
  cases pb
  ·obtain rfl : sb = true := by simpa using HOP.out.symm
   go_wp2_with fail
   refine (HS.out _).mono ?_
   rintro e w' ⟨rfl, rfl⟩
   go_wp2_with fail
   refine (HG.out _).mono ?_
   rintro e w2 ⟨rfl, hb2⟩
   have hx2 := HL0.out.below hb2 HL0.out.lt
   have HB2 := Lib.hid (HB0.out.trans (hb2.mono HB0.out.size))
   have HL2 := Lib.hid hx2
   clear x0 hx hx2 hb2 HB0 HL0 HG HP HS
   go_upto_region 4 with (fail)
   have HL3 := Lib.hid (HL2.out.alloc (.cells #[.int .i64 0, .int .i64 ga, .int .i64 gb, .int .i64 gc, .int .i64 gd, .int .u64 (gk : Int)] 122))
   have HL4 := Lib.hid (Lies.made w2 122 #[.int .i64 0, .int .i64 ga, .int .i64 gb, .int .i64 gc, .int .i64 gd, .int .u64 (gk : Int)])
   have HB3 := Lib.hid (HB2.out.alloc HB2.out.size (.cells #[.int .i64 0, .int .i64 ga, .int .i64 gb, .int .i64 gc, .int .i64 gd, .int .u64 (gk : Int)] 122))
   generalize w2.alloc (.cells #[.int .i64 0, .int .i64 ga, .int .i64 gb, .int .i64 gc, .int .i64 gd, .int .u64 (gk : Int)] 122) = w3 at *
   generalize w2.heap.size = n2 at *
   have y1 := (HL3.out.cell 1).trans (show _ = some (Value.int .i64 x.a) from rfl)
   have y2 := (HL3.out.cell 2).trans (show _ = some (Value.int .i64 x.b) from rfl)
   have y3 := (HL3.out.cell 3).trans (show _ = some (Value.int .i64 x.c) from rfl)
   have y4 := (HL3.out.cell 4).trans (show _ = some (Value.int .i64 x.d) from rfl)
   have y5 := (HL3.out.cell 5).trans (show _ = some (Value.int .u64 (x.k : Int)) from rfl)
   have z1 := (HL4.out.cell 1).trans (show _ = some (Value.int .i64 ga) from rfl)
   have z2 := (HL4.out.cell 2).trans (show _ = some (Value.int .i64 gb) from rfl)
   have z3 := (HL4.out.cell 3).trans (show _ = some (Value.int .i64 gc) from rfl)
   have z4 := (HL4.out.cell 4).trans (show _ = some (Value.int .i64 gd) from rfl)
   have z5 := (HL4.out.cell 5).trans (show _ = some (Value.int .u64 (gk : Int)) from rfl)
   have ly := HL3.out.lt
   have lz := HL4.out.lt
   clear HL2 HB2 HL3 HL4
   go_wp2_with fail
   refine (W1.out _).mono ?_
   rintro e w' ⟨rfl, rfl⟩
   cases b1
   ·go_wp2
    go_ret
    exact ⟨ret_bool (by rw [HR.out]; simp [h5]), HB3.out⟩
   go_wp2_with fail
   refine (W2.out _).mono ?_
   rintro e w' ⟨rfl, rfl⟩
   cases b2
   ·go_wp2
    go_ret
    exact ⟨ret_bool (by rw [HR.out]; simp [h5]), HB3.out⟩
   go_wp2_with fail
   refine (W3.out _).mono ?_
   rintro e w' ⟨rfl, rfl⟩
   cases b3
   ·go_wp2
    go_ret
    exact ⟨ret_bool (by rw [HR.out]; simp [h5]), HB3.out⟩
   go_wp2_with fail
   refine (W4.out _).mono ?_
   rintro e w' ⟨rfl, rfl⟩
   cases b4
   ·go_wp2
    go_ret
    exact ⟨ret_bool (by rw [HR.out]; simp [h5]), HB3.out⟩
   go_wp2
   go_ret
   exact ⟨ret_bool (by rw [HR.out]; simp [h5]), HB3.out⟩
  ·go_wp2_with fail
   refine (HG.out _).mono ?_
   rintro e w2 ⟨rfl, hb2⟩
   have hx2 := HL0.out.below hb2 HL0.out.lt
   have HB2 := Lib.hid (HB0.out.trans (hb2.mono HB0.out.size))
   have HL2 := Lib.hid hx2
   clear x0 hx hx2 hb2 HB0 HL0 HG HP HS
   go_upto_region 4 with (fail)
   have HL3 := Lib.hid (HL2.out.alloc (.cells #[.int .i64 0, .int .i64 ga, .int .i64 gb, .int .i64 gc, .int .i64 gd, .int .u64 (gk : Int)] 122))
   have HL4 := Lib.hid (Lies.made w2 122 #[.int .i64 0, .int .i64 ga, .int .i64 gb, .int .i64 gc, .int .i64 gd, .int .u64 (gk : Int)])
   have HB3 := Lib.hid (HB2.out.alloc HB2.out.size (.cells #[.int .i64 0, .int .i64 ga, .int .i64 gb, .int .i64 gc, .int .i64 gd, .int .u64 (gk : Int)] 122))
   generalize w2.alloc (.cells #[.int .i64 0, .int .i64 ga, .int .i64 gb, .int .i64 gc, .int .i64 gd, .int .u64 (gk : Int)] 122) = w3 at *
   generalize w2.heap.size = n2 at *
   have y1 := (HL3.out.cell 1).trans (show _ = some (Value.int .i64 x.a) from rfl)
   have y2 := (HL3.out.cell 2).trans (show _ = some (Value.int .i64 x.b) from rfl)
   have y3 := (HL3.out.cell 3).trans (show _ = some (Value.int .i64 x.c) from rfl)
   have y4 := (HL3.out.cell 4).trans (show _ = some (Value.int .i64 x.d) from rfl)
   have y5 := (HL3.out.cell 5).trans (show _ = some (Value.int .u64 (x.k : Int)) from rfl)
   have z1 := (HL4.out.cell 1).trans (show _ = some (Value.int .i64 ga) from rfl)
   have z2 := (HL4.out.cell 2).trans (show _ = some (Value.int .i64 gb) from rfl)
   have z3 := (HL4.out.cell 3).trans (show _ = some (Value.int .i64 gc) from rfl)
   have z4 := (HL4.out.cell 4).trans (show _ = some (Value.int .i64 gd) from rfl)
   have z5 := (HL4.out.cell 5).trans (show _ = some (Value.int .u64 (gk : Int)) from rfl)
   have ly := HL3.out.lt
   have lz := HL4.out.lt
   clear HL2 HB2 HL3 HL4
   go_wp2_with fail
   refine (W1.out _).mono ?_
   rintro e w' ⟨rfl, rfl⟩
   cases b1
   ·go_wp2
    go_ret
    exact ⟨ret_bool (by rw [HR.out]; simp [h5]), HB3.out⟩
   go_wp2_with fail
   refine (W2.out _).mono ?_
   rintro e w' ⟨rfl, rfl⟩
   cases b2
   ·go_wp2
    go_ret
    exact ⟨ret_bool (by rw [HR.out]; simp [h5]), HB3.out⟩
   go_wp2_with fail
   refine (W3.out _).mono ?_
   rintro e w' ⟨rfl, rfl⟩
   cases b3
   ·go_wp2
    go_ret
    exact ⟨ret_bool (by rw [HR.out]; simp [h5]), HB3.out⟩
   go_wp2_with fail
   refine (W4.out _).mono ?_
   rintro e w' ⟨rfl, rfl⟩
   cases b4
   ·go_wp2
    go_ret
    exact ⟨ret_bool (by rw [HR.out]; simp [h5]), HB3.out⟩
   go_wp2
   go_ret
   exact ⟨ret_bool (by rw [HR.out]; simp [h5]), HB3.out⟩
structure Th where
 at_ : Int
 ph : Int
 rg : Int
 st : Int
 tk : Nat
 r : Nat → Nat
 sn : List Nat
abbrev thC (x : Th) (v : Value) : Array Value := #[.int .i64 x.at_, .int .i64 x.ph, .int .i64 x.rg, .int .i64 x.st, .int .u64 (x.tk : Int), .int .u64 (x.r 0 : Int), .int .u64 (x.r 1 : Int), .int .u64 (x.r 2 : Int), .int .u64 (x.r 3 : Int), .int .u64 (x.r 4 : Int), .int .u64 (x.r 5 : Int), .int .u64 (x.r 6 : Int), .int .u64 (x.r 7 : Int), v]
def cells64 (l : List Nat) : List Value := l.map fun (n : Nat) => Value.int .u64 (n : Int)
def thOk (x : Th) : Prop := i64 x.at_ ∧ i64 x.ph ∧ i64 x.rg ∧ i64 x.st ∧ x.tk ≤ 18446744073709551615 ∧ (∀ i, x.r i ≤ 18446744073709551615) ∧ ∀ n ∈ x.sn, n ≤ 18446744073709551615
theorem thC_reg (x : Th) (v : Value) {i : Nat} (h : i < 8) : (thC x v)[5 + i]? = some (.int .u64 (x.r i : Int)) := by
 have : i = 0 ∨ i = 1 ∨ i = 2 ∨ i = 3 ∨ i = 4 ∨ i = 5 ∨ i = 6 ∨ i = 7 := by omega
 rcases this with rfl | rfl | rfl | rfl | rfl | rfl | rfl | rfl <;> rfl
def setR (x : Th) (i u : Nat) : Th := { x with r := fun j => if j = i then u else x.r j }
theorem thC_set (x : Th) (v : Value) {i u : Nat} (h : i < 8) : (thC x v).setIfInBounds (5 + i) (.int .u64 (u : Int)) = thC (setR x i u) v := by
 have : i = 0 ∨ i = 1 ∨ i = 2 ∨ i = 3 ∨ i = 4 ∨ i = 5 ∨ i = 6 ∨ i = 7 := by omega
 rcases this with rfl | rfl | rfl | rfl | rfl | rfl | rfl | rfl <;> rfl
def cdX (n : Nat) (x : In) : Bool := rightB x && !(jumpsB x.op && decide (n < x.k))
def codeB (l : List In) : Bool := decide (l.length ≤ 256) && l.all (cdX l.length)
theorem codeB_long {l : List In} (h : 256 < l.length) : codeB l = false := by unfold codeB; rw [decide_eq_false (by omega)]; rfl
theorem codeB_bad {l : List In} {i : Nat} {x : In} (hx : l[i]? = some x) (hb : cdX l.length x = false) : codeB l = false := by
 unfold codeB
 rw [Bool.and_eq_false_iff]
 refine .inr ?_
 rw [List.all_eq_false]
 exact ⟨x, List.mem_of_getElem? hx, by rw [hb]; decide⟩
theorem codeB_ok {l : List In} (hl : ¬ 256 < l.length) (h : ∀ y ∈ l, cdX l.length y = true) : codeB l = true := by
 unfold codeB
 rw [decide_eq_true (by omega), List.all_eq_true.2 h]; rfl
theorem take_all {l : List In} {k n : Nat} {x : In} (ha : ∀ y ∈ l.take k, cdX n y = true) (hx : l[k]? = some x) (hr : cdX n x = true) : ∀ y ∈ l.take (k + 1), cdX n y = true := by
 intro y hy
 rw [List.take_add_one, hx, Option.toList_some, List.mem_append] at hy
 rcases hy with hy | hy
 ·exact ha y hy
 ·rw [List.mem_singleton] at hy; subst hy; exact hr
set_option maxHeartbeats 8000000 in
set_option maxRecDepth 100000 in
theorem code16 (l : List In) (A : Option Addr) (c : Nat) (w : World) (h : InsAt w A c l) :
  Calls Tryz.prog 97 #[.slice A l.length c] w fun e w' => e = .returned (.bool (codeB l)) ∧ Below w.heap.size w w' := by
 obtain ⟨hc1, hc2⟩ := seq_form h
 have HH := Lib.hid h
 have HB := Lib.hid (Below.refl w.heap.size w)
 have HLO := Lib.hid (@codeB_long l)
 have HBAD := Lib.hid (fun i x => @codeB_bad l i x)
 have HOK := Lib.hid (@codeB_ok l)
 clear h
 by_cases hl : 256 < l.length
 ·have e1 : decide ((256 : Int) < (l.length : Int)) = true := decide_eq_true (by omega)
  have e2 : decide (256 < l.length) = true := decide_eq_true hl
  have HE := Lib.hid (HLO.out hl)
  clear HLO HBAD HOK
  go_enter Tryz.func97, Tryz.ntmps97
  go_wp2
  go_ret
  exact ⟨ret_bool HE.out.symm, HB.out⟩
 have e1 : decide ((256 : Int) < (l.length : Int)) = false := decide_eq_false (by omega)
 have e2 : decide (256 < l.length) = false := decide_eq_false hl
 have HOK2 := Lib.hid (HOK.out hl)
 clear HLO HOK
 go_enter Tryz.func97, Tryz.ntmps97
 go_wp2_with fail
 go_loopw [10] (fun u wr => ∃ k : Nat, k ≤ l.length ∧ u = .int .i64 k ∧ Hid (∀ y ∈ l.take k, cdX l.length y = true) ∧ Hid (Below w.heap.size w wr)) (fun u _ => l.length - (intOf u).toNat)
 case atStart => exact ⟨0, by omega, rfl, (by show ∀ y ∈ l.take 0, _; simp), HB⟩
 case round =>
  clear HB
  obtain ⟨k, hk, rfl, HA, HB⟩ := hrel
  by_cases hlt : k < l.length
  ·have hki : (k : Int) < (l.length : Int) := by omega
   obtain ⟨x, hx⟩ : ∃ x, l[k]? = some x := ⟨_, List.getElem?_eq_getElem hlt⟩
   obtain ⟨b, off, rfl, hbl, hg⟩ := InsAt.at_ (HH.out.later HB.out) hx
   have g0 := hg 0 _ (by decide) rfl
   have g1 := hg 1 _ (by decide) rfl
   have g2 := hg 2 _ (by decide) rfl
   have g3 := hg 3 _ (by decide) rfl
   have g4 := hg 4 _ (by decide) rfl
   have g5 := hg 5 _ (by decide) rfl
   rw [Nat.add_zero] at g0
   have HBD := Lib.hid (HBAD.out k x hx)
   have HNX := Lib.hid (fun h => take_all (n := l.length) HA.out hx h)
   have hbx : Below wr.heap.size wr (wr.alloc (.cells (inC x) 122)) := (Below.refl _ _).alloc (Nat.le_refl _) _
   have HB2 := Lib.hid (HB.out.trans (hbx.mono HB.out.size))
   have HL2 := Lib.hid (Lies.made wr 122 (inC x))
   have HR := Lib.hid (fun w => right_any x w)
   have HJ := Lib.hid (fun w => jumps_any x w)
   have HCX : Hid (cdX l.length x = (rightB x && !(jumpsB x.op && decide (l.length < x.k)))) := rfl
   clear hg hx hbx HB HA
   go_upto_region 6 with (fail)
   clear g0 g1 g2 g3 g4 g5
   generalize wr.alloc (.cells (inC x) 122) = w2 at *
   generalize wr.heap.size = n2 at *
   have c0 := (HL2.out.cell 0).trans (show _ = some (Value.int .i64 x.op) from rfl)
   have c1 := (HL2.out.cell 1).trans (show _ = some (Value.int .i64 x.a) from rfl)
   have c2 := (HL2.out.cell 2).trans (show _ = some (Value.int .i64 x.b) from rfl)
   have c3 := (HL2.out.cell 3).trans (show _ = some (Value.int .i64 x.c) from rfl)
   have c4 := (HL2.out.cell 4).trans (show _ = some (Value.int .i64 x.d) from rfl)
   have c5 := (HL2.out.cell 5).trans (show _ = some (Value.int .u64 (x.k : Int)) from rfl)
   have cl := HL2.out.lt
   go_wp2_with fail
   refine (HR.out _).mono ?_
   rintro e w3 ⟨rfl, hbm⟩
   replace HB2 := Lib.hid (HB2.out.trans (hbm.mono HB2.out.size))
   replace HL2 := Lib.hid (HL2.out.below hbm HL2.out.lt)
   clear hbm c0 c1 c2 c3 c4 c5 cl HR
   generalize rightB x = rb at *
   cases rb with
   | false =>
    have HE := Lib.hid (HBD.out (by rw [HCX.out]; rfl))
    clear HBD HNX HCX HJ
    go_wp2
    go_ret
    exact ⟨ret_bool HE.out.symm, HB2.out⟩
   | true =>
    have c0 := (HL2.out.cell 0).trans (show _ = some (Value.int .i64 x.op) from rfl)
    have c1 := (HL2.out.cell 1).trans (show _ = some (Value.int .i64 x.a) from rfl)
    have c2 := (HL2.out.cell 2).trans (show _ = some (Value.int .i64 x.b) from rfl)
    have c3 := (HL2.out.cell 3).trans (show _ = some (Value.int .i64 x.c) from rfl)
    have c4 := (HL2.out.cell 4).trans (show _ = some (Value.int .i64 x.d) from rfl)
    have c5 := (HL2.out.cell 5).trans (show _ = some (Value.int .u64 (x.k : Int)) from rfl)
    have cl := HL2.out.lt
    go_wp2_with fail
    refine (HJ.out _).mono ?_
    rintro e w4 ⟨rfl, hbm⟩
    replace HB2 := Lib.hid (HB2.out.trans (hbm.mono HB2.out.size))
    replace HL2 := Lib.hid (HL2.out.below hbm HL2.out.lt)
    clear hbm c0 c1 c2 c3 c4 c5 cl HJ
    have c0 := (HL2.out.cell 0).trans (show _ = some (Value.int .i64 x.op) from rfl)
    have c1 := (HL2.out.cell 1).trans (show _ = some (Value.int .i64 x.a) from rfl)
    have c2 := (HL2.out.cell 2).trans (show _ = some (Value.int .i64 x.b) from rfl)
    have c3 := (HL2.out.cell 3).trans (show _ = some (Value.int .i64 x.c) from rfl)
    have c4 := (HL2.out.cell 4).trans (show _ = some (Value.int .i64 x.d) from rfl)
    have c5 := (HL2.out.cell 5).trans (show _ = some (Value.int .u64 (x.k : Int)) from rfl)
    have cl := HL2.out.lt
    have hwl : IntKind.u64.wrap (l.length : Int) = (l.length : Int) := by rw [IntKind.wrap_u64]; omega
    generalize jumpsB x.op = jb at *
    obtain ⟨kb, hkb⟩ : ∃ b, decide (l.length < x.k) = b := ⟨_, rfl⟩
    have hkb2 : decide ((l.length : Int) < (x.k : Int)) = kb := by rw [← hkb]; congr 1; apply propext; omega
    rw [hkb] at HCX
    cases jb with
    | false =>
     have HN2 := Lib.hid (HNX.out (by rw [HCX.out]; rfl))
     clear HBD HNX HCX
     go_wp2
     go_roundw
     case rel => exact ⟨k + 1, by omega, by go_num, HN2, HB2⟩
     case measure => simp [intOf]; omega
    | true =>
     cases kb with
     | false =>
      have HN2 := Lib.hid (HNX.out (by rw [HCX.out]; rfl))
      clear HBD HNX HCX
      go_wp2
      go_roundw
      case rel => exact ⟨k + 1, by omega, by go_num, HN2, HB2⟩
      case measure => simp [intOf]; omega
     | true =>
      have HE := Lib.hid (HBD.out (by rw [HCX.out]; rfl))
      clear HBD HNX HCX
      go_wp2
      go_ret
      exact ⟨ret_bool HE.out.symm, HB2.out⟩
  ·obtain rfl : k = l.length := by omega
   have HA2 := HA.out
   rw [List.take_length] at HA2
   have HE := Lib.hid (HOK2.out HA2)
   clear HA2 HA HOK2 HBAD
   go_wp2
   go_ret
   exact ⟨ret_bool HE.out.symm, HB.out⟩
def hdB (l : List In) (x : Th) (op : Int) : Bool := (x.st == 0) && (decide (x.at_ < (l.length : Int)) && (((l.getD x.at_.toNat default).op == op) && (((l.getD x.at_.toNat default).c == x.rg) && decide (x.tk < 4611686018427387904))))
set_option maxHeartbeats 8000000 in
set_option maxRecDepth 100000 in
theorem holds16 (l : List In) (A : Option Addr) (c : Nat) (x : Th) (v : Value) (op : Int) (w : World) (h : InsAt w A c l) (h0 : 0 ≤ x.at_) :
  Calls Tryz.prog 98 #[.slice A l.length c, .agg (thC x v), .int .i64 op] w fun e w' => e = .returned (.bool (hdB l x op)) ∧ Below w.heap.size w w' := by
 obtain ⟨hc1, hc2⟩ := seq_form h
 have hb0 : Below w.heap.size w (w.alloc (.cells (thC x v) 73)) := (Below.refl _ _).alloc (Nat.le_refl _) _
 have l0 := Lies.made w 73 (thC x v)
 have h1 := h.later hb0
 have HH := Lib.hid h1
 have HB := Lib.hid hb0
 have HL := Lib.hid l0
 have HD : Hid (hdB l x op = ((x.st == 0) && (decide (x.at_ < (l.length : Int)) && (((l.getD x.at_.toNat default).op == op) && (((l.getD x.at_.toNat default).c == x.rg) && decide (x.tk < 4611686018427387904)))))) := rfl
 clear h h1 hb0 l0
 obtain ⟨sb, hsb⟩ : ∃ b, (x.st == 0) = b := ⟨_, rfl⟩
 rw [hsb] at HD
 cases sb with
 | false =>
  have HE : Hid (hdB l x op = false) := HD.out
  clear HD
  go_enter Tryz.func98, Tryz.ntmps98
  go_upto_region 1 with (fail)
  generalize w.alloc (.cells (thC x v) 73) = w1 at *
  have c0 := (HL.out.cell 0).trans (show _ = some (Value.int .i64 x.at_) from rfl)
  have c1 := (HL.out.cell 1).trans (show _ = some (Value.int .i64 x.ph) from rfl)
  have c2 := (HL.out.cell 2).trans (show _ = some (Value.int .i64 x.rg) from rfl)
  have c3 := (HL.out.cell 3).trans (show _ = some (Value.int .i64 x.st) from rfl)
  have c4 := (HL.out.cell 4).trans (show _ = some (Value.int .u64 (x.tk : Int)) from rfl)
  have c5 := (HL.out.cell 5).trans (show _ = some (Value.int .u64 (x.r 0 : Int)) from rfl)
  have c6 := (HL.out.cell 6).trans (show _ = some (Value.int .u64 (x.r 1 : Int)) from rfl)
  have c7 := (HL.out.cell 7).trans (show _ = some (Value.int .u64 (x.r 2 : Int)) from rfl)
  have c8 := (HL.out.cell 8).trans (show _ = some (Value.int .u64 (x.r 3 : Int)) from rfl)
  have c9 := (HL.out.cell 9).trans (show _ = some (Value.int .u64 (x.r 4 : Int)) from rfl)
  have c10 := (HL.out.cell 10).trans (show _ = some (Value.int .u64 (x.r 5 : Int)) from rfl)
  have c11 := (HL.out.cell 11).trans (show _ = some (Value.int .u64 (x.r 6 : Int)) from rfl)
  have c12 := (HL.out.cell 12).trans (show _ = some (Value.int .u64 (x.r 7 : Int)) from rfl)
  have c13 := (HL.out.cell 13).trans (show _ = some v from rfl)
  have cl := HL.out.lt
  go_wp2
  go_quiet (fail)
  go_wp2
  go_ret
  exact ⟨ret_bool HE.out.symm, below_drewN HB.out _⟩
 | true =>
  by_cases hlt : x.at_ < (l.length : Int)
  case neg =>
   have e1 : decide (x.at_ < (l.length : Int)) = false := decide_eq_false hlt
   have HE : Hid (hdB l x op = false) := by show _ = _; rw [HD.out, e1]; rfl
   clear HD hlt
   go_enter Tryz.func98, Tryz.ntmps98
   go_upto_region 1 with (fail)
   generalize w.alloc (.cells (thC x v) 73) = w1 at *
   have c0 := (HL.out.cell 0).trans (show _ = some (Value.int .i64 x.at_) from rfl)
   have c1 := (HL.out.cell 1).trans (show _ = some (Value.int .i64 x.ph) from rfl)
   have c2 := (HL.out.cell 2).trans (show _ = some (Value.int .i64 x.rg) from rfl)
   have c3 := (HL.out.cell 3).trans (show _ = some (Value.int .i64 x.st) from rfl)
   have c4 := (HL.out.cell 4).trans (show _ = some (Value.int .u64 (x.tk : Int)) from rfl)
   have c5 := (HL.out.cell 5).trans (show _ = some (Value.int .u64 (x.r 0 : Int)) from rfl)
   have c6 := (HL.out.cell 6).trans (show _ = some (Value.int .u64 (x.r 1 : Int)) from rfl)
   have c7 := (HL.out.cell 7).trans (show _ = some (Value.int .u64 (x.r 2 : Int)) from rfl)
   have c8 := (HL.out.cell 8).trans (show _ = some (Value.int .u64 (x.r 3 : Int)) from rfl)
   have c9 := (HL.out.cell 9).trans (show _ = some (Value.int .u64 (x.r 4 : Int)) from rfl)
   have c10 := (HL.out.cell 10).trans (show _ = some (Value.int .u64 (x.r 5 : Int)) from rfl)
   have c11 := (HL.out.cell 11).trans (show _ = some (Value.int .u64 (x.r 6 : Int)) from rfl)
   have c12 := (HL.out.cell 12).trans (show _ = some (Value.int .u64 (x.r 7 : Int)) from rfl)
   have c13 := (HL.out.cell 13).trans (show _ = some v from rfl)
   have cl := HL.out.lt
   go_wp2
   go_quiet (fail)
   go_wp2
   go_ret
   exact ⟨ret_bool HE.out.symm, below_drewN HB.out _⟩
  have e1 : decide (x.at_ < (l.length : Int)) = true := decide_eq_true hlt
  obtain ⟨an, han⟩ : ∃ n : Nat, x.at_ = n := ⟨x.at_.toNat, by omega⟩
  obtain ⟨y, hy⟩ : ∃ y, l[an]? = some y := ⟨_, List.getElem?_eq_getElem (by omega)⟩
  have hgd : l.getD x.at_.toNat default = y := by rw [han, Int.toNat_natCast, List.getD_eq_getElem?_getD, hy]; rfl
  rw [hgd, e1] at HD
  obtain ⟨b, off, rfl, hbl, hg⟩ := InsAt.at_ HH.out hy
  have g0 := hg 0 _ (by decide) rfl
  have g3 := hg 3 _ (by decide) rfl
  rw [Nat.add_zero] at g0
  obtain ⟨ob, hob⟩ : ∃ b, (y.op == op) = b := ⟨_, rfl⟩
  obtain ⟨cb, hcb⟩ : ∃ b, (y.c == x.rg) = b := ⟨_, rfl⟩
  obtain ⟨tb, htb⟩ : ∃ b, decide (x.tk < 4611686018427387904) = b := ⟨_, rfl⟩
  have htb2 : decide ((x.tk : Int) < 4611686018427387904) = tb := by rw [← htb]; congr 1; apply propext; omega
  rw [hob, hcb, htb] at HD
  have hlt2 : (an : Int) < (l.length : Int) := by omega
  rw [han] at e1
  have HAN := Lib.hid han
  clear hgd hg hy hlt han htb
  cases ob <;> cases cb <;> cases tb
  all_goals
   have HE := HD.out
   simp only [Bool.true_and, Bool.false_and, Bool.and_false, Bool.and_true] at HE
   have HE2 := Lib.hid HE
   clear HE HD
   go_enter Tryz.func98, Tryz.ntmps98
   go_upto_region 1 with (fail)
   generalize w.alloc (.cells (thC x v) 73) = w1 at *
   have c0 := (HL.out.cell 0).trans (show _ = some (Value.int .i64 x.at_) from rfl)
   have c1 := (HL.out.cell 1).trans (show _ = some (Value.int .i64 x.ph) from rfl)
   have c2 := (HL.out.cell 2).trans (show _ = some (Value.int .i64 x.rg) from rfl)
   have c3 := (HL.out.cell 3).trans (show _ = some (Value.int .i64 x.st) from rfl)
   have c4 := (HL.out.cell 4).trans (show _ = some (Value.int .u64 (x.tk : Int)) from rfl)
   have c5 := (HL.out.cell 5).trans (show _ = some (Value.int .u64 (x.r 0 : Int)) from rfl)
   have c6 := (HL.out.cell 6).trans (show _ = some (Value.int .u64 (x.r 1 : Int)) from rfl)
   have c7 := (HL.out.cell 7).trans (show _ = some (Value.int .u64 (x.r 2 : Int)) from rfl)
   have c8 := (HL.out.cell 8).trans (show _ = some (Value.int .u64 (x.r 3 : Int)) from rfl)
   have c9 := (HL.out.cell 9).trans (show _ = some (Value.int .u64 (x.r 4 : Int)) from rfl)
   have c10 := (HL.out.cell 10).trans (show _ = some (Value.int .u64 (x.r 5 : Int)) from rfl)
   have c11 := (HL.out.cell 11).trans (show _ = some (Value.int .u64 (x.r 6 : Int)) from rfl)
   have c12 := (HL.out.cell 12).trans (show _ = some (Value.int .u64 (x.r 7 : Int)) from rfl)
   have c13 := (HL.out.cell 13).trans (show _ = some v from rfl)
   have cl := HL.out.lt
   rw [HAN.out] at c0
   go_wp2
   go_quiet (fail)
   go_wp2
   go_ret
   exact ⟨ret_bool HE2.out.symm, below_drewN HB.out _⟩
def inTh (l : List In) (x : Th) : Bool := decide (0 ≤ x.at_ ∧ x.at_ ≤ (l.length : Int) ∧ 0 ≤ x.st ∧ x.st ≤ 2)
def phB (l : List In) (x : Th) : Bool := if x.ph = 0 then (x.rg == 0) && (x.tk == 0) else if x.ph = 1 then hdB l x 18 else if x.ph = 2 then hdB l x 19 else false
def thB (l : List In) (x : Th) : Bool := codeB l && (inTh l x && phB l x)
set_option maxHeartbeats 8000000 in
set_option maxRecDepth 100000 in
theorem thRight (l : List In) (A : Option Addr) (c : Nat) (x : Th) (v : Value) (w : World) (h : InsAt w A c l) :
  Calls Tryz.prog 60 #[.slice A l.length c, .agg (thC x v)] w fun e w' => e = .returned (.bool (thB l x)) ∧ Below w.heap.size w w' := by
 obtain ⟨hc1, hc2⟩ := seq_form h
 have hb0 : Below w.heap.size w (w.alloc (.cells (thC x v) 73)) := (Below.refl _ _).alloc (Nat.le_refl _) _
 have l0 := Lies.made w 73 (thC x v)
 have HH := Lib.hid (fun (q : World) (hq : Below w.heap.size w q) => h.later hq)
 have HB := Lib.hid hb0
 have HL := Lib.hid l0
 have HT : Hid (thB l x = (codeB l && (inTh l x && phB l x))) := rfl
 have HI : Hid (inTh l x = decide (0 ≤ x.at_ ∧ x.at_ ≤ (l.length : Int) ∧ 0 ≤ x.st ∧ x.st ≤ 2)) := rfl
 have HP : Hid (phB l x = if x.ph = 0 then (x.rg == 0) && (x.tk == 0) else if x.ph = 1 then hdB l x 18 else if x.ph = 2 then hdB l x 19 else false) := rfl
 have HC := Lib.hid (fun w h => code16 l A c w h)
 have HD := Lib.hid (fun op w h h0 => holds16 l A c x v op w h h0)
 clear h hb0 l0
 go_enter Tryz.func60, Tryz.ntmps60
 go_wp2_with fail
 generalize w.alloc (.cells (thC x v) 73) = w1 at *
 refine (HC.out _ (HH.out _ HB.out)).mono ?_
 rintro e w2 ⟨rfl, hbm⟩
 replace HB := Lib.hid (HB.out.trans (hbm.mono HB.out.size))
 replace HL := Lib.hid (HL.out.below hbm HL.out.lt)
 clear hbm HC
 have c0 := (HL.out.cell 0).trans (show _ = some (Value.int .i64 x.at_) from rfl)
 have c1 := (HL.out.cell 1).trans (show _ = some (Value.int .i64 x.ph) from rfl)
 have c2 := (HL.out.cell 2).trans (show _ = some (Value.int .i64 x.rg) from rfl)
 have c3 := (HL.out.cell 3).trans (show _ = some (Value.int .i64 x.st) from rfl)
 have c4 := (HL.out.cell 4).trans (show _ = some (Value.int .u64 (x.tk : Int)) from rfl)
 have c5 := (HL.out.cell 5).trans (show _ = some (Value.int .u64 (x.r 0 : Int)) from rfl)
 have c6 := (HL.out.cell 6).trans (show _ = some (Value.int .u64 (x.r 1 : Int)) from rfl)
 have c7 := (HL.out.cell 7).trans (show _ = some (Value.int .u64 (x.r 2 : Int)) from rfl)
 have c8 := (HL.out.cell 8).trans (show _ = some (Value.int .u64 (x.r 3 : Int)) from rfl)
 have c9 := (HL.out.cell 9).trans (show _ = some (Value.int .u64 (x.r 4 : Int)) from rfl)
 have c10 := (HL.out.cell 10).trans (show _ = some (Value.int .u64 (x.r 5 : Int)) from rfl)
 have c11 := (HL.out.cell 11).trans (show _ = some (Value.int .u64 (x.r 6 : Int)) from rfl)
 have c12 := (HL.out.cell 12).trans (show _ = some (Value.int .u64 (x.r 7 : Int)) from rfl)
 have c13 := (HL.out.cell 13).trans (show _ = some v from rfl)
 have cl := HL.out.lt
 generalize codeB l = cb at *
 cases cb with
 | false =>
  have HE : Hid (thB l x = false) := HT.out
  clear HT HI HP
  go_wp2
  go_ret
  exact ⟨ret_bool HE.out.symm, HB.out⟩
 | true =>
 rw [Bool.true_and] at HT
 by_cases hin : 0 ≤ x.at_ ∧ x.at_ ≤ (l.length : Int) ∧ 0 ≤ x.st ∧ x.st ≤ 2
 case neg =>
  have HE : Hid (thB l x = false) := by show _ = _; rw [HT.out, HI.out, decide_eq_false hin]; rfl
  have hcs : (x.at_ < 0) ∨ (¬ x.at_ < 0 ∧ (l.length : Int) < x.at_) ∨ (¬ x.at_ < 0 ∧ ¬ (l.length : Int) < x.at_ ∧ x.st < 0) ∨ (¬ x.at_ < 0 ∧ ¬ (l.length : Int) < x.at_ ∧ ¬ x.st < 0 ∧ 2 < x.st) := by omega
  clear HT HI HP hin
  rcases hcs with q1 | ⟨q1, q2⟩ | ⟨q1, q2, q3⟩ | ⟨q1, q2, q3, q4⟩
  ·have g1 : decide (x.at_ < 0) = true := decide_eq_true q1
   go_wp2
   go_ret
   exact ⟨ret_bool HE.out.symm, HB.out⟩
  ·have g1 : decide (x.at_ < 0) = false := decide_eq_false q1
   have g2 : decide ((l.length : Int) < x.at_) = true := decide_eq_true q2
   go_wp2
   go_ret
   exact ⟨ret_bool HE.out.symm, HB.out⟩
  ·have g1 : decide (x.at_ < 0) = false := decide_eq_false q1
   have g2 : decide ((l.length : Int) < x.at_) = false := decide_eq_false q2
   have g3 : decide (x.st < 0) = true := decide_eq_true q3
   go_wp2
   go_ret
   exact ⟨ret_bool HE.out.symm, HB.out⟩
  ·have g1 : decide (x.at_ < 0) = false := decide_eq_false q1
   have g2 : decide ((l.length : Int) < x.at_) = false := decide_eq_false q2
   have g3 : decide (x.st < 0) = false := decide_eq_false q3
   have g4 : decide (2 < x.st) = true := decide_eq_true q4
   go_wp2
   go_ret
   exact ⟨ret_bool HE.out.symm, HB.out⟩
 have g1 : decide (x.at_ < 0) = false := decide_eq_false (by omega)
 have g2 : decide ((l.length : Int) < x.at_) = false := decide_eq_false (by omega)
 have g3 : decide (x.st < 0) = false := decide_eq_false (by omega)
 have g4 : decide (2 < x.st) = false := decide_eq_false (by omega)
 have h0 := hin.1
 rw [decide_eq_true hin] at HI
 rw [HI.out, Bool.true_and] at HT
 clear hin HI
 by_cases p0 : x.ph = 0
 ·rw [if_pos p0] at HP
  have e0 : (x.ph == 0) = true := by rw [beq_iff_eq]; exact p0
  obtain ⟨b1, hb1⟩ : ∃ b, (x.rg == 0) = b := ⟨_, rfl⟩
  obtain ⟨b2, hb2⟩ : ∃ b, (x.tk == 0) = b := ⟨_, rfl⟩
  have hb3 : ((x.tk : Int) == 0) = b2 := by rw [← hb2, Bool.eq_iff_iff, beq_iff_eq, beq_iff_eq]; omega
  rw [hb1, hb2] at HP
  clear p0 hb2
  cases b1 <;> cases b2
  all_goals
   have HE := Lib.hid (HT.out.trans HP.out)
   clear HT HP
   go_wp2
   go_ret
   exact ⟨ret_bool HE.out.symm, HB.out⟩
 rw [if_neg p0] at HP
 have e0 : (x.ph == 0) = false := by rw [beq_eq_false_iff_ne]; exact p0
 by_cases p1 : x.ph = 1
 ·rw [if_pos p1] at HP
  have e1 : (x.ph == 1) = true := by rw [beq_iff_eq]; exact p1
  have HE := Lib.hid (HT.out.trans HP.out)
  clear HT HP p0 p1
  go_wp2_with fail
  refine (HD.out 18 _ (HH.out _ HB.out) h0).mono ?_
  rintro e w3 ⟨rfl, hbm⟩
  replace HB := Lib.hid (HB.out.trans (hbm.mono HB.out.size))
  clear hbm HD
  go_wp2
  go_ret
  exact ⟨ret_bool HE.out.symm, HB.out⟩
 rw [if_neg p1] at HP
 have e1 : (x.ph == 1) = false := by rw [beq_eq_false_iff_ne]; exact p1
 by_cases p2 : x.ph = 2
 ·rw [if_pos p2] at HP
  have e2 : (x.ph == 2) = true := by rw [beq_iff_eq]; exact p2
  have HE := Lib.hid (HT.out.trans HP.out)
  clear HT HP p0 p1 p2
  go_wp2_with fail
  refine (HD.out 19 _ (HH.out _ HB.out) h0).mono ?_
  rintro e w3 ⟨rfl, hbm⟩
  replace HB := Lib.hid (HB.out.trans (hbm.mono HB.out.size))
  clear hbm HD
  go_wp2
  go_ret
  exact ⟨ret_bool HE.out.symm, HB.out⟩
 rw [if_neg p2] at HP
 have e2 : (x.ph == 2) = false := by rw [beq_eq_false_iff_ne]; exact p2
 have HE := Lib.hid (HT.out.trans HP.out)
 clear HT HP p0 p1 p2
 go_wp2
 go_ret
 exact ⟨ret_bool HE.out.symm, HB.out⟩
def doV (op a b : Int) : Int :=
 if op = 3 then IntKind.u64.wrap (a + b) else
 if op = 4 then IntKind.u64.wrap (a - b) else
 if op = 5 then IntKind.u64.wrap (a * b) else
 if op = 6 then (if b = 0 then 0 else a / b) else
 if op = 7 then (if b = 0 then 0 else a % b) else
 if op = 8 then bits BinOp.and IntKind.u64 a b else
 if op = 9 then bits BinOp.or IntKind.u64 a b else
 if op = 10 then bits BinOp.xor IntKind.u64 a b else
 if op = 11 then IntKind.u64.wrap (a * 2 ^ (b % 64).toNat) else
 if op = 12 then a / 2 ^ (b % 64).toNat else
 if op = 13 then (if a < b then 1 else 0) else
 if op = 14 then (if a = b then 1 else 0) else 0
def isOp (op : Int) : Bool := decide (3 ≤ op ∧ op ≤ 14)
theorem ret_pair {a b : Int} {p q : Bool} (h : a = b) (k : p = q) : Ending.returned (.tuple #[.int .u64 a, .bool p]) = .returned (.tuple #[.int .u64 b, .bool q]) := by rw [h, k]
def U64 (a : Int) : Prop := 0 ≤ a ∧ a ≤ 18446744073709551615
set_option maxHeartbeats 1000000 in
theorem do_plain (op a b : Int) (w : World) (ho : op = 3 ∨ op = 4 ∨ op = 5 ∨ op = 8 ∨ op = 9 ∨ op = 10 ∨ op = 11 ∨ op = 12) (ha : U64 a) (hb : U64 b) :
  Calls Tryz.prog 153 #[.int .i64 op, .int .u64 a, .int .u64 b] w fun e w' => e = .returned (.tuple #[.int .u64 (doV op a b), .bool (isOp op)]) ∧ w = w' := by
 obtain ⟨h1, h2⟩ := ha
 obtain ⟨h3, h4⟩ := hb
 rcases ho with rfl | rfl | rfl | rfl | rfl | rfl | rfl | rfl
 all_goals
  go_enter Tryz.func153, Tryz.ntmps153
  go_wp2
  go_ret2
  exact ⟨ret_pair rfl rfl, rfl⟩
set_option maxHeartbeats 1000000 in
theorem do_div (op a b : Int) (w : World) (ho : op = 6 ∨ op = 7) (ha : U64 a) (hb : U64 b) :
  Calls Tryz.prog 153 #[.int .i64 op, .int .u64 a, .int .u64 b] w fun e w' => e = .returned (.tuple #[.int .u64 (doV op a b), .bool (isOp op)]) ∧ w = w' := by
 obtain ⟨h1, h2⟩ := ha
 obtain ⟨h3, h4⟩ := hb
 by_cases hz : b = 0
 ·subst hz
  rcases ho with rfl | rfl
  all_goals
   go_enter Tryz.func153, Tryz.ntmps153
   go_wp2
   go_ret2
   exact ⟨ret_pair rfl rfl, rfl⟩
 ·have hz1 : (b == 0) = false := by simpa using hz
  rcases ho with rfl | rfl
  all_goals
   go_enter Tryz.func153, Tryz.ntmps153
   go_wp2
   go_ret2
   exact ⟨ret_pair (by simp [doV, hz]) rfl, rfl⟩
set_option maxHeartbeats 1000000 in
theorem do_less (op a b : Int) (w : World) (ho : op = 13 ∨ op = 14) (ha : U64 a) (hb : U64 b) :
  Calls Tryz.prog 153 #[.int .i64 op, .int .u64 a, .int .u64 b] w fun e w' => e = .returned (.tuple #[.int .u64 (doV op a b), .bool (isOp op)]) ∧ w = w' := by
 obtain ⟨h1, h2⟩ := ha
 obtain ⟨h3, h4⟩ := hb
 rcases ho with rfl | rfl
 ·by_cases hz : a < b
  all_goals
   go_enter Tryz.func153, Tryz.ntmps153
   go_wp2
   go_ret2
   exact ⟨ret_pair (by simp [doV, hz]) rfl, rfl⟩
 ·by_cases hz : a = b
  ·subst hz
   go_enter Tryz.func153, Tryz.ntmps153
   go_wp2
   go_ret2
   exact ⟨ret_pair (by simp [doV]) rfl, rfl⟩
  ·have hz1 : (a == b) = false := by simpa using hz
   go_enter Tryz.func153, Tryz.ntmps153
   go_wp2
   go_ret2
   exact ⟨ret_pair (by simp [doV, hz]) rfl, rfl⟩
set_option maxHeartbeats 1000000 in
theorem do_none (op a b : Int) (w : World) (ho : op < 3 ∨ 14 < op) :
  Calls Tryz.prog 153 #[.int .i64 op, .int .u64 a, .int .u64 b] w fun e w' => e = .returned (.tuple #[.int .u64 (doV op a b), .bool (isOp op)]) ∧ w = w' := by
 have k3 : (op == 3) = false := by simp; omega
 have k4 : (op == 4) = false := by simp; omega
 have k5 : (op == 5) = false := by simp; omega
 have k6 : (op == 6) = false := by simp; omega
 have k7 : (op == 7) = false := by simp; omega
 have k8 : (op == 8) = false := by simp; omega
 have k9 : (op == 9) = false := by simp; omega
 have k10 : (op == 10) = false := by simp; omega
 have k11 : (op == 11) = false := by simp; omega
 have k12 : (op == 12) = false := by simp; omega
 have k13 : (op == 13) = false := by simp; omega
 have k14 : (op == 14) = false := by simp; omega
 have hv : doV op a b = 0 := by
  simp at k3 k4 k5 k6 k7 k8 k9 k10 k11 k12 k13 k14
  simp [doV, *]
 have hi : isOp op = false := by simp [isOp]; omega
 have HV := Lib.hid hv
 have HI := Lib.hid hi
 clear hv hi
 go_enter Tryz.func153, Tryz.ntmps153
 go_wp2
 go_ret2
 exact ⟨ret_pair HV.out.symm HI.out.symm, rfl⟩
theorem do_any (op a b : Int) (w : World) (ha : U64 a) (hb : U64 b) :
  Calls Tryz.prog 153 #[.int .i64 op, .int .u64 a, .int .u64 b] w fun e w' => e = .returned (.tuple #[.int .u64 (doV op a b), .bool (isOp op)]) ∧ w = w' := by
 by_cases h : op < 3 ∨ 14 < op
 ·exact do_none op a b w h
 ·by_cases h1 : op = 6 ∨ op = 7
  ·exact do_div op a b w h1 ha hb
  ·by_cases h2 : op = 13 ∨ op = 14
   ·exact do_less op a b w h2 ha hb
   ·exact do_plain op a b w (by omega) ha hb
theorem doV_div (a b : Int) : doV 6 a b = if b = 0 then 0 else a / b := by simp [doV]
theorem doV_mod (a b : Int) : doV 7 a b = if b = 0 then 0 else a % b := by simp [doV]
theorem doV_mul (a b : Int) : doV 5 a b = IntKind.u64.wrap (a * b) := by simp [doV]
theorem doV_add (a b : Int) : doV 3 a b = IntKind.u64.wrap (a + b) := by simp [doV]
theorem wrap_u64 (a : Int) : IntKind.u64.wrap a = a % 18446744073709551616 := rfl
theorem doV_in (op a b : Int) (ha : U64 a) (hb : U64 b) (ho : op = 5 ∨ op = 6 ∨ op = 7 ∨ op = 3): U64 (doV op a b) := by
 obtain ⟨h1, h2⟩ := ha
 obtain ⟨h3, h4⟩ := hb
 rcases ho with rfl | rfl | rfl | rfl
 ·rw [doV_mul, wrap_u64]; unfold U64; omega
 ·rw [doV_div]; unfold U64
  split
  ·omega
  ·exact ⟨Int.ediv_nonneg h1 h3, Int.le_trans (Int.ediv_le_self _ h1) h2⟩
 ·rw [doV_mod]; unfold U64
  split
  ·omega
  ·exact ⟨Int.emod_nonneg _ (by omega), Int.le_trans (Int.le_of_lt (Int.emod_lt_of_pos _ (by omega))) (by omega)⟩
 ·rw [doV_add, wrap_u64]; unfold U64; omega
theorem doV_shl (a b : Int) : doV 11 a b = IntKind.u64.wrap (a * 2 ^ (b % 64).toNat) := by simp [doV]
theorem doV_shr (a b : Int) : doV 12 a b = a / 2 ^ (b % 64).toNat := by simp [doV]
theorem pow_pos2 (n : Nat) : (0 : Int) < 2 ^ n := Int.pow_pos (by decide)
theorem doV_in2 (op a b : Int) (ha : U64 a) (ho : op = 11 ∨ op = 12): U64 (doV op a b) := by
 obtain ⟨h1, h2⟩ := ha
 rcases ho with rfl | rfl
 ·rw [doV_shl, wrap_u64]; unfold U64; omega
 ·rw [doV_shr]; exact ⟨Int.ediv_nonneg h1 (Int.le_of_lt (pow_pos2 _)), Int.le_trans (Int.ediv_le_self _ h1) h2⟩
theorem doV_and (a b : Int) : doV 8 a b = bits BinOp.and IntKind.u64 a b := by simp [doV]
theorem doV_or (a b : Int) : doV 9 a b = bits BinOp.or IntKind.u64 a b := by simp [doV]
theorem doV_xor (a b : Int) : doV 10 a b = bits BinOp.xor IntKind.u64 a b := by simp [doV]
theorem doV_sub (a b : Int) : doV 4 a b = IntKind.u64.wrap (a - b) := by simp [doV]
theorem u64_nat {a : Int} (h : U64 a) : ∃ n : Nat, a = n ∧ n < 18446744073709551616 := by
 unfold U64 at h; exact ⟨a.toNat, by omega, by omega⟩
theorem u64_cast {n : Nat} (h : n < 18446744073709551616) : U64 (n : Int) := by unfold U64; omega
theorem two64 : (18446744073709551616 : Nat) = 2 ^ 64 := rfl
theorem and_nat {a b : Nat} (ha : a < 18446744073709551616) (hb : b < 18446744073709551616) : doV 8 a b = ((a &&& b : Nat) : Int) := by rw [doV_and, bits_and_u64_nat _ _ ha hb]
theorem or_nat {a b : Nat} (ha : a < 18446744073709551616) (hb : b < 18446744073709551616) : doV 9 a b = ((a ||| b : Nat) : Int) := by rw [doV_or, bits_or_u64_nat _ _ ha hb]
theorem xor_nat {a b : Nat} (ha : a < 18446744073709551616) (hb : b < 18446744073709551616) : doV 10 a b = ((a ^^^ b : Nat) : Int) := by rw [doV_xor, bits_xor_u64_nat _ _ ha hb]
theorem and_lt {a b : Nat} (hb : b < 18446744073709551616) : a &&& b < 18446744073709551616 := by rw [two64] at *; exact Nat.and_lt_two_pow _ hb
theorem or_lt {a b : Nat} (ha : a < 18446744073709551616) (hb : b < 18446744073709551616) : a ||| b < 18446744073709551616 := by rw [two64] at *; exact Nat.or_lt_two_pow ha hb
theorem xor_lt {a b : Nat} (ha : a < 18446744073709551616) (hb : b < 18446744073709551616) : a ^^^ b < 18446744073709551616 := by rw [two64] at *; exact Nat.xor_lt_two_pow ha hb
theorem doV_u64 (op a b : Int) (ha : U64 a) (hb : U64 b) : U64 (doV op a b) := by
 obtain ⟨m, rfl, hm⟩ := u64_nat ha
 obtain ⟨n, rfl, hn⟩ := u64_nat hb
 by_cases h : op = 3 ∨ op = 4 ∨ op = 5 ∨ op = 6 ∨ op = 7 ∨ op = 8 ∨ op = 9 ∨ op = 10 ∨ op = 11 ∨ op = 12
 ·rcases h with rfl | rfl | rfl | rfl | rfl | rfl | rfl | rfl | rfl | rfl
  ·exact doV_in _ _ _ ha hb (by omega)
  ·rw [doV_sub, wrap_u64]; unfold U64; omega
  ·exact doV_in _ _ _ ha hb (by omega)
  ·exact doV_in _ _ _ ha hb (by omega)
  ·exact doV_in _ _ _ ha hb (by omega)
  ·rw [and_nat hm hn]; exact u64_cast (and_lt hn)
  ·rw [or_nat hm hn]; exact u64_cast (or_lt hm hn)
  ·rw [xor_nat hm hn]; exact u64_cast (xor_lt hm hn)
  ·exact doV_in2 _ _ _ ha (by omega)
  ·exact doV_in2 _ _ _ ha (by omega)
 ·have : doV op m n = 0 ∨ doV op m n = 1 := by
   unfold doV
   repeat' split
   all_goals omega
  unfold U64; omega
section
variable {P : Program} {ops : Array Oper}
def dirs (ops : Array Oper) (i : Nat) : List Nat := match ops[i]? with | some o => (o.after.toList.filter (fun e => Region.binds .any e)).map (·.on) | none => []
def putsOf (ds : List (Option Tmp)) (x : Nat → Value) (a : Act) (js : List Nat) : Act := js.foldl (fun a j => a.put (ds.getD j none) (x j)) a
def QF : Exit → Act → World → Prop := fun _ _ _ => False
def StepV (P : Program) (ops : Array Oper) (i : Nat) (b : Act) (w : World) (R : Value → World → Prop) : Prop :=
 ∀ o, ops[i]? = some o → ∀ K' : Act → World → Prop, Shut (∀ a' w', (∃ v, a' = b.put o.dst v ∧ R v w') → K' a' w') → if Region.wanted o (yielded ops b.tmps) = true then Oper.wp P o b w K' QF else K' (b.put o.dst undef) w
theorem StepV.mk {i : Nat} {o : Oper} {b : Act} {w : World} {R : Value → World → Prop} (ho : ops[i]? = some o)
  (h : ∀ K' : Act → World → Prop, Shut (∀ a' w', (∃ v, a' = b.put o.dst v ∧ R v w') → K' a' w') → if Region.wanted o (yielded ops b.tmps) = true then Oper.wp P o b w K' QF else K' (b.put o.dst undef) w) : StepV P ops i b w R := by
 intro o' ho' K hK
 rw [ho] at ho'
 cases ho'
 exact h K hK
theorem all_in {l : List Nat} (q : Nat → Bool) (h : l.all q = true) {j : Nat} (hj : j ∈ l) : q j = true := List.all_eq_true.1 h j hj
def QK (K : Act → World → Prop) : Exit → Act → World → Prop
 | .normal, a, w => K a w
 | _, _, _ => False
theorem step_list {o : Oper} {a : Act} {w : World} {K : Act → World → Prop} (hw : Region.wanted o (yielded ops a.tmps) = true) (h : wpList P ops (QK K) [o] a w) : Oper.wp P o a w K QF := by
 unfold wpList at h
 rw [if_pos hw] at h
 rcases h with h | ⟨_, hl⟩
 ·unfold Oper.wp at *
  generalize (execOp a.eval o).run P w = r at *
  cases r with
  | ok n w' =>
   cases n <;> simp only [Oper.upon] at h ⊢
   case value u => exact h
   case skip => exact h
   case defer d => exact h
   case enter f args =>
    refine Calls.mono h fun e w'' he => ?_
    cases e with
    | returned u => exact he
    | panicked c => exact he.elim
    | outgrown => obtain ⟨_, _, h⟩ := he; exact h.elim
   case row row args => exact h
  | halt x w' =>
   cases x <;> simp only [Oper.upon] at h ⊢
   case panic u => exact h.elim
 ·obtain ⟨_, _, h⟩ := hl
  exact h.elim
theorem put_tmps (a : Act) (d : Option Tmp) (v : Value) : (a.put d v).tmps.size = a.tmps.size ∧ (a.put d v).defers = a.defers := by
 cases d with
 | none => exact ⟨rfl, rfl⟩
 | some d => exact ⟨Array.size_setIfInBounds, rfl⟩
theorem act_ext {a b : Act} (h1 : a.tmps = b.tmps) (h2 : a.defers = b.defers) : a = b := by
 obtain ⟨_, _⟩ := a
 obtain ⟨_, _⟩ := b
 simp only at h1 h2
 rw [h1, h2]
theorem put_cong {a b : Act} {d : Option Tmp} {v v' : Value} (hs : a.tmps.size = b.tmps.size) (h : b.put d v = b.put d v') : a.put d v = a.put d v' := by
 cases d with
 | none => rfl
 | some d =>
  by_cases hd : d < b.tmps.size
  ·have := congrArg (fun c => c.tmps[d]?) h
   simp only [Act.put] at this
   rw [Array.getElem?_setIfInBounds_self_of_lt hd, Array.getElem?_setIfInBounds_self_of_lt hd] at this
   injection this with this
   rw [this]
  ·refine act_ext ?_ rfl
   simp only [Act.put]
   rw [Array.setIfInBounds, dif_neg (by rw [hs]; exact hd), Array.setIfInBounds, dif_neg (by rw [hs]; exact hd)]
theorem StepV.move {i : Nat} {o : Oper} {a b : Act} {w : World} {R : Value → World → Prop} {Q : Exit → Act → World → Prop} (ho : ops[i]? = some o) (hsel : ∀ cs b, o.op ≠ .select cs b)
  (hsz : a.tmps.size = b.tmps.size) (he : ∀ d ∈ o.looksAt ops, a.tmps[d]? = b.tmps[d]?) (h : StepV P ops i b w R) : wpOp P ops Q i (fun a' w' => ∃ v, a' = a.put o.dst v ∧ R v w') a w := by
 have h0 := h o ho (fun a' w' => ∃ v, a' = b.put o.dst v ∧ R v w') (fun _ _ h => h)
 have hex : execOp a.eval o = execOp b.eval o := by
  refine execOp_congr o hsel (fun x hx => ?_)
  cases x with
  | tmp t =>
   have := he t (List.mem_append_left _ (List.mem_filterMap.2 ⟨.tmp t, by simpa using hx, rfl⟩))
   show a.tmps.getD t undef = b.tmps.getD t undef
   rw [Array.getD_eq_getD_getElem?, Array.getD_eq_getD_getElem?, this]
  | _ => rfl
 have hwa : Region.wanted o (yielded ops a.tmps) = Region.wanted o (yielded ops b.tmps) := by
  unfold Region.wanted
  cases hg : o.guard with
  | none => rfl
  | some gw =>
   obtain ⟨g, want⟩ := gw
   have hy : yielded ops a.tmps g = yielded ops b.tmps g := by
    unfold yielded
    cases ht : (ops[g]?).bind (·.dst) with
    | none => rfl
    | some t =>
     have := he t (by simp [Oper.looksAt, hg, ht])
     simp only [Option.bind_some, this]
   simp only [hy]
 unfold wpOp
 simp only [ho]
 rw [hwa]
 split
 ·rename_i hw
  rw [if_pos hw] at h0
  refine .inl ?_
  unfold Oper.wp at *
  rw [hex]
  generalize (execOp b.eval o).run P w = r at *
  cases r with
  | ok n w' =>
   cases n <;> simp only [Oper.upon] at h0 ⊢
   case value u => obtain ⟨v, e, hR⟩ := h0; exact ⟨v, put_cong hsz e, hR⟩
   case skip => obtain ⟨v, e, hR⟩ := h0; exact ⟨v, put_cong hsz e, hR⟩
   case defer d =>
    obtain ⟨v, e, hR⟩ := h0
    have := congrArg Act.defers e
    rw [(put_tmps _ _ _).2, (put_tmps _ _ _).2] at this
    exact absurd (congrArg List.length this) (by simp)
   case enter f args =>
    refine Calls.mono h0 fun e w'' he => ?_
    cases e with
    | returned u => obtain ⟨v, e, hR⟩ := he; exact ⟨v, put_cong hsz e, hR⟩
    | panicked c => exact he.elim
    | outgrown => obtain ⟨_, _, h⟩ := he; exact h.elim
   case row row args => exact Rows.mono h0 fun u w'' he => by obtain ⟨v, e, hR⟩ := he; exact ⟨v, put_cong hsz e, hR⟩
  | halt x w' =>
   cases x <;> simp only [Oper.upon] at h0 ⊢
   case panic u => exact h0.elim
 ·rename_i hw
  rw [if_neg hw] at h0
  obtain ⟨v, e, hR⟩ := h0
  exact ⟨v, put_cong hsz e, hR⟩
def relyB (ops : Array Oper) (ds : List (Option Tmp)) (js es ps : List (List Nat)) (N : Nat) : Bool :=
 (ds == ops.toList.map (·.dst)) && Region.noSelect ops &&
 (List.range ops.size).all (fun i => (dirs ops i).all (fun e => decide (e < i)) && (js.getD i []).all (fun j => (dirs ops i).contains j || decide (ops.size ≤ j)) &&
  (List.range ops.size).all (fun j => (match ds.getD j none with
   | some t => (i == j || ds.getD i none != some t) && (i == j || (js.getD i []).contains j || (dirs ops j).contains i || !((ops.getD i default).looksAt ops).contains t)
   | none => true) && ((es.getD j []).all (fun e => !(js.getD i []).contains e || i == j || (dirs ops j).contains i))) &&
  (List.range N).all (fun j => i == j || (ps.getD i []).contains j || (es.getD i []).contains j || (dirs ops j).contains i || (dirs ops i).any (fun k => (es.getD k []).contains j)))
structure Rely (ops : Array Oper) (ds : List (Option Tmp)) (js es ps : List (List Nat)) (N : Nat) : Prop where
 ds_ : ds = ops.toList.map (·.dst)
 sel : Region.noSelect ops = true
 back : ∀ i e, i < ops.size → e ∈ dirs ops i → e < i
 sub : ∀ i j, i < ops.size → j ∈ js.getD i [] → j ∈ dirs ops i ∨ ops.size ≤ j
 one : ∀ i j t, i < ops.size → j < ops.size → ds.getD j none = some t → ds.getD i none = some t → i = j
 looks : ∀ i j t, i < ops.size → j < ops.size → ds.getD j none = some t → t ∈ (ops.getD i default).looksAt ops → i = j ∨ j ∈ js.getD i [] ∨ i ∈ dirs ops j
 eats : ∀ i j e, i < ops.size → j < ops.size → e ∈ es.getD j [] → e ∈ js.getD i [] → i = j ∨ i ∈ dirs ops j
 pres : ∀ i j, i < ops.size → j < N → i = j ∨ j ∈ ps.getD i [] ∨ j ∈ es.getD i [] ∨ i ∈ dirs ops j ∨ ∃ k ∈ dirs ops i, j ∈ es.getD k []
theorem Rely.of {ds : List (Option Tmp)} {js es ps : List (List Nat)} {N : Nat} (h : relyB ops ds js es ps N = true) : Rely ops ds js es ps N := by
 unfold relyB at h
 rw [Bool.and_eq_true, Bool.and_eq_true, List.all_eq_true] at h
 obtain ⟨⟨h1, h2⟩, h3⟩ := h
 have h4 := fun i (hi : i < ops.size) => h3 i (List.mem_range.2 hi)
 simp only [Bool.and_eq_true, List.all_eq_true] at h4
 have h5 := fun i hi j (hj : j < ops.size) => (h4 i hi).1.2 j (List.mem_range.2 hj)
 have h6 := fun i hi j (hj : j < N) => (h4 i hi).2 j (List.mem_range.2 hj)
 refine ⟨by simpa using h1, h2, fun i e hi he => ?_, fun i j hi hj => ?_, fun i j t hi hj h1 h2 => ?_, fun i j t hi hj h1 h2 => ?_, fun i j e hi hj h1 h2 => ?_, fun i j hi hj => ?_⟩
 ·simpa using (h4 i hi).1.1.1 e he
 ·have := (h4 i hi).1.1.2 j hj
  simpa using this
 ·have := (h5 i hi j hj).1
  rw [h1] at this
  simp only [Bool.and_eq_true, Bool.or_eq_true, beq_iff_eq, bne_iff_ne] at this
  rcases this.1 with h | h
  ·exact h
  ·exact absurd h2 h
 ·have := (h5 i hi j hj).1
  rw [h1] at this
  simp only [Bool.and_eq_true, Bool.or_eq_true, beq_iff_eq, bne_iff_ne, List.contains_iff_mem, Bool.not_eq_true'] at this
  rcases this.2 with ((h | h) | h) | h
  ·exact .inl h
  ·exact .inr (.inl h)
  ·exact .inr (.inr h)
  ·rw [List.contains_eq_mem, decide_eq_false_iff_not] at h
   exact absurd h2 h
 ·have := (h5 i hi j hj).2 e h1
  simp only [Bool.or_eq_true, beq_iff_eq, List.contains_iff_mem, Bool.not_eq_true'] at this
  rcases this with (h | h) | h
  ·rw [List.contains_eq_mem, decide_eq_false_iff_not] at h
   exact absurd h2 h
  ·exact .inl h
  ·exact .inr h
 ·have := h6 i hi j hj
  simp only [Bool.or_eq_true, beq_iff_eq, List.contains_iff_mem, List.any_eq_true] at this
  rcases this with (((h | h) | h) | h) | h
  ·exact .inl h
  ·exact .inr (.inl h)
  ·exact .inr (.inr (.inl h))
  ·exact .inr (.inr (.inr (.inl h)))
  ·exact .inr (.inr (.inr (.inr h)))
def AllP (V : Nat → Value → World → Prop) (w w' : World) : List Nat → Prop
 | [] => True
 | j :: l => (∀ u, V j u w → V j u w') ∧ AllP V w w' l
theorem AllP.get {V : Nat → Value → World → Prop} {w w' : World} : ∀ {l : List Nat}, AllP V w w' l → ∀ j ∈ l, ∀ u, V j u w → V j u w'
 | [], _, _, h => by cases h
 | k :: l, h, j, hj => by
  rcases List.mem_cons.1 hj with rfl | hj
  ·exact h.1
  ·exact h.2.get j hj
theorem AllP.same {V : Nat → Value → World → Prop} {w : World} : ∀ (l : List Nat), AllP V w w l
 | [] => trivial
 | _ :: l => ⟨fun _ h => h, AllP.same l⟩
theorem AllP.of {V : Nat → Value → World → Prop} {w w' : World} : ∀ (l : List Nat), (∀ j ∈ l, ∀ u, V j u w → V j u w') → AllP V w w' l
 | [], _ => trivial
 | k :: l, h => ⟨h k List.mem_cons_self, AllP.of l (fun j hj => h j (List.mem_cons_of_mem _ hj))⟩
def AllV (V : Nat → Value → World → Prop) (x : Nat → Value) (w : World) : List Nat → Prop
 | [] => True
 | j :: l => V j (x j) w ∧ AllV V x w l
theorem AllV.of {V : Nat → Value → World → Prop} {x : Nat → Value} {w : World} : ∀ (l : List Nat), (∀ j ∈ l, V j (x j) w) → AllV V x w l
 | [], _ => trivial
 | k :: l, h => ⟨h k List.mem_cons_self, AllV.of l (fun j hj => h j (List.mem_cons_of_mem _ hj))⟩
structure FrV (ops : Array Oper) (ds : List (Option Tmp)) (a0 : Act) (x : Nat → Value) (listed : Array Bool) (a : Act) : Prop where
 size : a.tmps.size = a0.tmps.size
 defers : a.defers = a0.defers
 put : ∀ j t, j < ops.size → listed.getD j false = true → ds.getD j none = some t → t < a0.tmps.size → a.tmps[t]? = some (x j)
 old : ∀ t, (∀ j, j < ops.size → listed.getD j false = true → ds.getD j none ≠ some t) → a.tmps[t]? = a0.tmps[t]?
theorem putsOf_size (ds : List (Option Tmp)) (x : Nat → Value) : ∀ (js : List Nat) (a : Act), (putsOf ds x a js).tmps.size = a.tmps.size ∧ (putsOf ds x a js).defers = a.defers
 | [], a => ⟨rfl, rfl⟩
 | j :: js, a => by
  have h := putsOf_size ds x js (a.put (ds.getD j none) (x j))
  exact ⟨h.1.trans (put_tmps _ _ _).1, h.2.trans (put_tmps _ _ _).2⟩
theorem put_get (a : Act) (d : Option Tmp) (v : Value) (t : Nat) : (a.put d v).tmps[t]? = if d = some t ∧ t < a.tmps.size then some v else a.tmps[t]? := by
 cases d with
 | none => simp [Act.put]
 | some d =>
  simp only [Act.put, Option.some.injEq]
  by_cases h : d = t
  ·subst h
   by_cases h2 : d < a.tmps.size
   ·rw [Array.getElem?_setIfInBounds_self_of_lt h2, if_pos ⟨rfl, h2⟩]
   ·rw [if_neg (fun h => h2 h.2), Array.setIfInBounds, dif_neg h2]
  ·rw [Array.getElem?_setIfInBounds_ne h, if_neg (fun h2 => h h2.1)]
theorem putsOf_old (ds : List (Option Tmp)) (x : Nat → Value) (t : Nat) : ∀ (js : List Nat) (a : Act), (∀ j ∈ js, ds.getD j none ≠ some t) → (putsOf ds x a js).tmps[t]? = a.tmps[t]?
 | [], a, _ => rfl
 | j :: js, a, h => by
  have := putsOf_old ds x t js (a.put (ds.getD j none) (x j)) (fun k hk => h k (List.mem_cons_of_mem _ hk))
  exact this.trans (by rw [put_get, if_neg (fun e => h j List.mem_cons_self e.1)])
theorem putsOf_new (ds : List (Option Tmp)) (x : Nat → Value) (t i : Nat) : ∀ (js : List Nat) (a : Act), (∀ j ∈ js, ds.getD j none = some t → j = i) → i ∈ js → ds.getD i none = some t → t < a.tmps.size → (putsOf ds x a js).tmps[t]? = some (x i)
 | [], a, _, h, _, _ => by cases h
 | j :: js, a, h1, h2, h3, h4 => by
  by_cases hi : i ∈ js
  ·exact putsOf_new ds x t i js (a.put (ds.getD j none) (x j)) (fun k hk => h1 k (List.mem_cons_of_mem _ hk)) hi h3 (by rw [(put_tmps _ _ _).1]; exact h4)
  ·have hij : i = j := (List.mem_cons.1 h2).resolve_right hi
   subst hij
   have := putsOf_old ds x t js (a.put (ds.getD i none) (x i)) (fun k hk e => hi (by rw [← h1 k (List.mem_cons_of_mem _ hk) e]; exact hk))
   exact this.trans (by rw [put_get, if_pos ⟨h3, h4⟩])
theorem dirs_mem {i e : Nat} {o : Oper} (ho : ops[i]? = some o) : e ∈ dirs ops i ↔ ∃ g ∈ o.after, Region.binds .any g = true ∧ g.on = e := by
 unfold dirs
 rw [ho]
 simp only [List.mem_map, List.mem_filter, Array.mem_toList_iff]
 constructor
 ·rintro ⟨g, ⟨h1, h2⟩, h3⟩; exact ⟨g, h1, h2, h3⟩
 ·rintro ⟨g, h1, h2, h3⟩; exact ⟨g, ⟨h1, h2⟩, h3⟩
theorem getD_tf {listed : Array Bool} {j : Nat} (h : j < listed.size) (d d' : Bool) : listed.getD j d = listed.getD j d' := by
 simp [h]
def unl (listed : Array Bool) : Nat := listed.toList.countP (fun b => !b)
theorem unl_set {listed : Array Bool} {i : Nat} (hi : i < listed.size) (h : listed.getD i false = false) : unl (listed.setIfInBounds i true) + 1 = unl listed := by
 have hl : i < listed.toList.length := by simpa using hi
 have he : listed.toList[i] = false := by
  simpa [hi] using h
 have hp : 0 < listed.toList.countP (fun b => !b) := List.countP_pos_iff.2 ⟨false, by rw [← he]; exact List.getElem_mem hl, rfl⟩
 unfold unl
 rw [Array.toList_setIfInBounds, List.countP_set hl, he]
 simp only [Bool.not_false, if_true, Bool.not_true, Bool.false_eq_true, if_false]
 omega
theorem unl_zero {listed : Array Bool} (h : unl listed = 0) (j : Nat) (hj : j < listed.size) : listed.getD j false = true := by
 have := List.countP_eq_zero.1 h (listed.toList[j]'(by simpa using hj)) (List.getElem_mem _)
 simpa [hj] using this
theorem set_getD {listed : Array Bool} {i j : Nat} (hi : i < listed.size) : (listed.setIfInBounds i true).getD j false = true ↔ j = i ∨ listed.getD j false = true := by
 by_cases e : i = j
 ·subst e
  simp [hi]
 ·rw [getD_set_ne false e]
  constructor
  ·exact .inr
  ·rintro (h | h)
   ·exact absurd h.symm e
   ·exact h
theorem FrV.full {ds : List (Option Tmp)} {js es ps : List (List Nat)} {N : Nat} {a0 a : Act} {x : Nat → Value} {listed : Array Bool} (hok : Rely ops ds js es ps N) (h : FrV ops ds a0 x listed a) (hall : ∀ j, j < ops.size → listed.getD j false = true) :
  a = putsOf ds x a0 (List.range ops.size) := by
 have hz := putsOf_size ds x (List.range ops.size) a0
 refine act_ext ?_ (h.defers.trans hz.2.symm)
 apply Array.ext_getElem?
 intro t
 by_cases ht : t < a0.tmps.size
 ·by_cases hex : ∃ j, j < ops.size ∧ ds.getD j none = some t
  ·obtain ⟨j, hj, hd⟩ := hex
   rw [h.put j t hj (hall j hj) hd ht]
   exact (putsOf_new ds x t j _ a0 (fun k hk e => hok.one k j t (List.mem_range.1 hk) hj hd e) (List.mem_range.2 hj) hd ht).symm
  ·rw [h.old t (fun j hj _ e => hex ⟨j, hj, e⟩)]
   exact (putsOf_old ds x t _ a0 (fun j hj e => hex ⟨j, List.mem_range.1 hj, e⟩)).symm
 ·rw [Array.getElem?_eq_none (by rw [h.size]; omega), Array.getElem?_eq_none (by rw [hz.1]; omega)]
theorem FrV.step {ds : List (Option Tmp)} {js es ps : List (List Nat)} {N : Nat} {a0 a : Act} {x : Nat → Value} {listed : Array Bool} {i : Nat} {v : Value} (hok : Rely ops ds js es ps N) (h : FrV ops ds a0 x listed a) (hi : i < ops.size) (hs : listed.size = ops.size) (hu : listed.getD i false = false) :
  FrV ops ds a0 (fun j => if j = i then v else x j) (listed.setIfInBounds i true) (a.put (ds.getD i none) v) := by
 refine ⟨(put_tmps _ _ _).1.trans h.size, (put_tmps _ _ _).2.trans h.defers, fun j t hj hl hd ht => ?_, fun t hn => ?_⟩
 ·rw [put_get]
  by_cases e : j = i
  ·subst e
   rw [if_pos ⟨hd, by rw [h.size]; exact ht⟩, if_pos rfl]
  ·rw [if_neg (fun e2 => e (hok.one j i t hj hi e2.1 hd)), if_neg e]
   exact h.put j t hj (((set_getD (by omega)).1 hl).resolve_left e) hd ht
 ·rw [put_get, if_neg (fun e => hn i hi ((set_getD (by omega)).2 (.inl rfl)) e.1)]
  exact h.old t (fun j hj hl => hn j hj ((set_getD (by omega)).2 (.inr hl)))
theorem wpAny_rely {ds : List (Option Tmp)} {js es ps : List (List Nat)} {N : Nat} {Q : Exit → Act → World → Prop} {a0 : Act} {S : World → Prop} {V : Nat → Value → World → Prop} (hok : Rely ops ds js es ps N)
  (hjs : ∀ i j, i < ops.size → j ∈ js.getD i [] → j < N) (hstep : ∀ i, i < ops.size → ∀ (x : Nat → Value) (w : World), S w → AllV V x w (js.getD i []) →
   StepV P ops i (putsOf ds x a0 (js.getD i [])) w (fun v w' => S w' ∧ V i v w' ∧ AllP V w w' (ps.getD i [])))
  (hend : ∀ (x : Nat → Value) (w : World), S w → (∀ j, j < N → (∀ i, i < ops.size → j ∉ es.getD i []) → V j (x j) w) → Q .normal (putsOf ds x a0 (List.range ops.size)) w) :
  ∀ (fuel : Nat) (listed : Array Bool) (a : Act) (x : Nat → Value) (w : World), listed.size = ops.size → (∀ j, j < ops.size → listed.getD j false = true → ∀ e ∈ dirs ops j, listed.getD e false = true) → unl listed ≤ fuel → S w →
   (∀ j, j < N → (j < ops.size → listed.getD j false = true) → (∀ i, i < ops.size → listed.getD i false = true → j ∉ es.getD i []) → V j (x j) w) → FrV ops ds a0 x listed a → wpAny P .any ops Q fuel listed a w := by
 have hfin : ∀ (listed : Array Bool) (a : Act) (x : Nat → Value) (w : World), S w → (∀ j, j < ops.size → listed.getD j false = true) →
   (∀ j, j < N → (j < ops.size → listed.getD j false = true) → (∀ i, i < ops.size → listed.getD i false = true → j ∉ es.getD i []) → V j (x j) w) → FrV ops ds a0 x listed a → Q .normal a w := by
  intro listed a x w hS hall hV hF
  rw [hF.full hok hall]
  exact hend x w hS (fun j hj hn => hV j hj (hall j) (fun i hi _ => hn i hi))
 intro fuel
 induction fuel with
 | zero =>
  intro listed a x w hsz hdc hu hS hV hF
  have hall : ∀ j, j < ops.size → listed.getD j false = true := fun j hj => unl_zero (by omega) j (by omega)
  refine ⟨?_, hfin listed a x w hS hall hV hF⟩
  cases hr : Region.ready .any ops listed with
  | nil => rfl
  | cons i rs =>
   exfalso
   have hm : i ∈ Region.ready .any ops listed := by rw [hr]; exact List.mem_cons_self
   obtain ⟨h0, o, ho, _⟩ := mem_ready.1 hm
   have hi := (Array.getElem?_eq_some_iff.1 ho).1
   have := hall i hi
   rw [getD_tf (by omega) false true, h0] at this
   cases this
 | succ fuel ih =>
  intro listed a x w hsz hdc hu hS hV hF
  refine ⟨fun hr => hfin listed a x w hS ?_ hV hF, fun i hi => ?_⟩
  ·intro j
   induction j using Nat.strongRecOn with
   | ind j ihj =>
    intro hj
    cases hl : listed.getD j false with
    | true => rfl
    | false =>
     exfalso
     have hm : j ∈ Region.ready .any ops listed := by
      refine mem_ready.2 ⟨by rw [getD_tf (by omega) true false]; exact hl, ops[j], Array.getElem?_eq_getElem hj, fun e he hb => ?_⟩
      have hd := (dirs_mem (Array.getElem?_eq_getElem hj)).2 ⟨e, he, hb, rfl⟩
      have hlt := hok.back j e.on hj hd
      exact ihj e.on hlt (by omega)
     rw [hr] at hm
     cases hm
  ·obtain ⟨h0, o, ho, hall⟩ := mem_ready.1 hi
   have hin := (Array.getElem?_eq_some_iff.1 ho).1
   have hun : listed.getD i false = false := by rw [getD_tf (by omega) false true]; exact h0
   have hdi : ∀ e ∈ dirs ops i, listed.getD e false = true := fun e he => by
    obtain ⟨g, h1, h2, h3⟩ := (dirs_mem ho).1 he
    rw [← h3]; exact hall g h1 h2
   have hdl : ∀ e ∈ dirs ops i, e < ops.size := fun e he => Nat.lt_trans (hok.back i e hin he) hin
   have hds : o.dst = ds.getD i none := by
    rw [hok.ds_, List.getD_eq_getElem?_getD, List.getElem?_map, Array.getElem?_toList, ho]; rfl
   have hpre : ∀ j ∈ js.getD i [], V j (x j) w := fun j hj => by
    have hjd := hok.sub i j hin hj
    refine hV j (hjs i j hin hj) (fun hjn => hdi j (hjd.resolve_right (by omega))) (fun k hk hkl hjk => ?_)
    rcases hok.eats i k j hin hk hjk hj with e | e
    ·subst e
     rw [hun] at hkl; cases hkl
    ·have := hdc k hk hkl i e
     rw [hun] at this; cases this
   have hst := hstep i hin x w hS (AllV.of _ hpre)
   have hz := putsOf_size ds x (js.getD i []) a0
   have hmv := StepV.move (Q := Q) (a := a) ho (Region.noSelect_spec hok.sel i o · · ho) (hF.size.trans hz.1.symm) (fun t ht => ?_) hst
   ·refine wpOp_mono (fun a' w' h => ?_) hmv
    obtain ⟨v, rfl, hS', hVi, hpr⟩ := h
    rw [hds]
    refine ih (listed.setIfInBounds i true) _ (fun j => if j = i then v else x j) w' (by simpa using hsz) ?_ ?_ hS' ?_ (hF.step hok hin hsz hun)
    ·intro j hj hl e he
     refine (set_getD (by omega)).2 (.inr ?_)
     rcases (set_getD (by omega)).1 hl with e2 | e2
     ·subst e2; exact hdi e he
     ·exact hdc j hj e2 e he
    ·have := unl_set (by omega) hun
     omega
    ·intro j hjN hl hn
     by_cases e : j = i
     ·subst e
      simpa using hVi
     ·simp only [if_neg e]
      have hps : j ∈ ps.getD i [] := by
       rcases hok.pres i j hin hjN with e2 | e2 | e2 | e2 | ⟨k, hk, e2⟩
       ·exact absurd e2.symm e
       ·exact e2
       ·exact absurd e2 (hn i hin ((set_getD (by omega)).2 (.inl rfl)))
       ·exfalso
        by_cases hjn : j < ops.size
        ·have := hdc j hjn (((set_getD (by omega)).1 (hl hjn)).resolve_left e) i e2
         rw [hun] at this; cases this
        ·unfold dirs at e2
         rw [Array.getElem?_eq_none (by omega)] at e2
         cases e2
       ·exact absurd e2 (hn k (hdl k hk) ((set_getD (by omega)).2 (.inr (hdi k hk))))
      refine hpr.get j hps _ ?_
      exact hV j hjN (fun hj => ((set_getD (by omega)).1 (hl hj)).resolve_left e) (fun k hk hkl => hn k hk ((set_getD (by omega)).2 (.inr hkl)))
   ·have hnone : ∀ k, ops.size ≤ k → ds.getD k none = none := fun k hk => by
     rw [List.getD_eq_getElem?_getD, List.getElem?_eq_none (by rw [hok.ds_]; simpa using hk)]; rfl
    have hget : (ops.getD i default) = o := by
     rw [Array.getD_eq_getD_getElem?, ho]; rfl
    by_cases hsz2 : t < a0.tmps.size
    ·by_cases hex : ∃ j, j < ops.size ∧ listed.getD j false = true ∧ ds.getD j none = some t
     ·obtain ⟨j, hj, hl, hd⟩ := hex
      rw [hF.put j t hj hl hd hsz2]
      rcases hok.looks i j t hin hj hd (by rw [hget]; exact ht) with e | e | e
      ·subst e; rw [hun] at hl; cases hl
      ·refine (putsOf_new ds x t j _ a0 (fun k hk e2 => ?_) e hd hsz2).symm
       rcases hok.sub i k hin hk with e3 | e3
       ·exact hok.one k j t (hdl k e3) hj hd e2
       ·rw [hnone k e3] at e2; cases e2
      ·have := hdc j hj hl i e
       rw [hun] at this; cases this
     ·rw [hF.old t (fun j hj hl e => hex ⟨j, hj, hl, e⟩)]
      refine (putsOf_old ds x t _ a0 (fun j hj e => ?_)).symm
      rcases hok.sub i j hin hj with e3 | e3
      ·exact hex ⟨j, hdl j e3, hdi j e3, e⟩
      ·rw [hnone j e3] at e; cases e
    ·rw [Array.getElem?_eq_none (by rw [hF.size]; exact Nat.le_of_not_lt hsz2), Array.getElem?_eq_none (by rw [hz.1]; exact Nat.le_of_not_lt hsz2)]
def RelyStep (P : Program) (ops : Array Oper) (ds : List (Option Tmp)) (js ps : List (List Nat)) (a0 : Act) (S : World → Prop) (V : Nat → Value → World → Prop) (i : Nat) : Prop :=
 ∀ (x : Nat → Value) (w : World), S w → AllV V x w (js.getD i []) → StepV P ops i (putsOf ds x a0 (js.getD i [])) w (fun v w' => S w' ∧ V i v w' ∧ AllP V w w' (ps.getD i []))
def RelySteps (P : Program) (ops : Array Oper) (ds : List (Option Tmp)) (js ps : List (List Nat)) (a0 : Act) (S : World → Prop) (V : Nat → Value → World → Prop) (is : List Nat) : Prop :=
 ∀ i ∈ is, RelyStep P ops ds js ps a0 S V i
theorem RelySteps.nil {ds : List (Option Tmp)} {js ps : List (List Nat)} {a0 : Act} {S : World → Prop} {V : Nat → Value → World → Prop} : RelySteps P ops ds js ps a0 S V [] := fun _ h => by cases h
theorem RelySteps.cons {ds : List (Option Tmp)} {js ps : List (List Nat)} {a0 : Act} {S : World → Prop} {V : Nat → Value → World → Prop} {i : Nat} {is : List Nat} (h : RelyStep P ops ds js ps a0 S V i)
  (hs : RelySteps P ops ds js ps a0 S V is) : RelySteps P ops ds js ps a0 S V (i :: is) := fun k hk => by
 rcases List.mem_cons.1 hk with rfl | hk
 ·exact h
 ·exact hs k hk
theorem RelyStep.mk {ds : List (Option Tmp)} {js ps : List (List Nat)} {a0 : Act} {S : World → Prop} {V : Nat → Value → World → Prop} {i : Nat} {o : Oper} (J K : List Nat) (ho : ops[i]? = some o) (hJ : js.getD i [] = J) (hK : ps.getD i [] = K)
  (h : ∀ (x : Nat → Value) (w : World), S w → AllV V x w J → ∀ (b : Act), b = putsOf ds x a0 J → ∀ K' : Act → World → Prop, Shut (∀ a' w', (∃ v, a' = b.put o.dst v ∧ S w' ∧ V i v w' ∧ AllP V w w' K) → K' a' w') →
   if Region.wanted o (yielded ops b.tmps) = true then Oper.wp P o b w K' QF else K' (b.put o.dst undef) w) : RelyStep P ops ds js ps a0 S V i := by
 intro x w hS hV
 rw [hJ] at hV ⊢
 rw [hK]
 exact StepV.mk ho (fun K' hK' => h x w hS hV _ rfl K' hK')
theorem wp_region_rely {id : Nat} {a0 : Act} {w : World} {Q : Exit → Act → World → Prop} (S : World → Prop) (V : Nat → Value → World → Prop) (ds : List (Option Tmp)) (js es ps : List (List Nat)) (is : List Nat) (N : Nat) (hm : P.follows .mixedOrders = true)
  (hok : relyB ops ds js es ps N = true) (hjs : js.all (fun l => l.all (fun j => decide (j < N))) = true) (his : List.range ops.size = is) (hS : S w.drew) (hI : ∀ j, j < N → ops.size ≤ j → V j undef w.drew) (hsteps : RelySteps P ops ds js ps a0 S V is)
  (hend : ∀ (x : Nat → Value) (w : World), S w → (∀ j, j < N → (is.all fun i => !(es.getD i []).contains j) = true → V j (x j) w) → Q .normal (putsOf ds x a0 is) w) : (Code.region id ops true).wp P Q a0 w := by
 subst his
 have hjs2 : ∀ i j, i < ops.size → j ∈ js.getD i [] → j < N := fun i j _ hj => by
  rw [List.getD_eq_getElem?_getD] at hj
  cases hg : js[i]? with
  | none => rw [hg] at hj; cases hj
  | some l =>
   rw [hg] at hj
   have := List.all_eq_true.1 (List.all_eq_true.1 hjs l (List.mem_of_getElem? hg)) j hj
   simpa using this
 refine wp_region_any hm (wpAny_rely (Rely.of hok) hjs2 (fun i hi => hsteps i (List.mem_range.2 hi)) (fun x w h1 h2 => hend x w h1 (fun j hj hn => h2 j hj (fun i hi hc => ?_))) ops.size _ a0 (fun _ => undef) _ (by simp) (fun j hj h => ?_) ?_ hS (fun j hj h hn => ?_) ⟨rfl, rfl, fun j t hj h => ?_, fun _ _ => rfl⟩)
 ·have := List.all_eq_true.1 hn i (List.mem_range.2 hi)
  rw [List.contains_iff_mem.2 hc] at this
  cases this
 ·simp [hj] at h
 ·unfold unl
  refine Nat.le_trans List.countP_le_length (by simp)
 ·refine hI j hj (Nat.le_of_not_lt fun hj => ?_)
  have := h hj
  simp [hj] at this
 ·simp [hj] at h
end
theorem plain_regs {i : In} (h : rightB i = true) (h1 : 1 ≤ i.op) (h2 : i.op ≤ 17) : (0 ≤ i.a ∧ i.a ≤ 7) ∧ (0 ≤ i.b ∧ i.b ≤ 7) ∧ (0 ≤ i.c ∧ i.c ≤ 7) ∧ (15 ≤ i.op → i.k ≤ 256) := by
 obtain ⟨op, a, b, c, d, k⟩ := i
 unfold rightB at h
 simp only [Bool.and_eq_true] at h h1 h2 ⊢
 obtain ⟨_, q1, q2, q3, _, q5⟩ := h
 unfold kB at q5
 unfold wB at q1 q2 q3
 have : op = 1 ∨ op = 2 ∨ op = 3 ∨ op = 4 ∨ op = 5 ∨ op = 6 ∨ op = 7 ∨ op = 8 ∨ op = 9 ∨ op = 10 ∨ op = 11 ∨ op = 12 ∨ op = 13 ∨ op = 14 ∨ op = 15 ∨ op = 16 ∨ op = 17 := by omega
 rcases this with e | e | e | e | e | e | e | e | e | e | e | e | e | e | e | e | e
 all_goals
  subst e
  simp [gL, gK] at q1 q2 q3 q5
  omega
def goOn (x : Th) : Th := { x with at_ := x.at_ + 1 }
def stepT (i : In) (x : Th) : Th :=
 if i.op = 1 then setR (goOn x) i.a.toNat i.k
 else if i.op = 2 then setR (goOn x) i.a.toNat (x.r i.b.toNat)
 else if i.op = 15 then { x with at_ := (i.k : Int) }
 else if i.op = 16 then (if x.r i.a.toNat = 0 then { x with at_ := (i.k : Int) } else goOn x)
 else if i.op = 17 then (if x.r i.a.toNat ≠ 0 then { x with at_ := (i.k : Int) } else goOn x)
 else setR (goOn x) i.a.toNat (doV i.op (x.r i.b.toNat : Int) (x.r i.c.toNat : Int)).toNat
structure Ak where
 kd : Int
 rg : Int
 md : Int
 rd : Int
 tk : Nat
 vl : Nat
abbrev akC (a : Ak) : Array Value := #[.int .i64 a.kd, .int .i64 a.rg, .int .i64 a.md, .int .i64 a.rd, .int .u64 (a.tk : Int), .int .u64 (a.vl : Int)]
def noneA (k : Int) : Ak := ⟨k, 0, 0, 0, 0, 0⟩
def visA (i : In) (x : Th) : Ak :=
 if i.op = 18 then ⟨1, i.c, i.d, 0, 0, x.r i.a.toNat⟩
 else if i.op = 19 then ⟨2, i.c, i.d, wrap64 (i.k : Int), 0, 0⟩
 else if i.op = 20 then ⟨3, i.c, 0, 0, 0, 0⟩
 else if i.op = 21 then noneA 4
 else if i.op = 22 then noneA 5
 else if i.op = 23 then noneA 6
 else if i.op = 24 then ⟨7, 0, 0, 0, 0, x.r i.a.toNat⟩
 else noneA 8
theorem vis_reg {i : In} (h : rightB i = true) (h1 : i.op = 18 ∨ i.op = 24) : 0 ≤ i.a ∧ i.a ≤ 7 := by
 obtain ⟨op, a, b, c, d, k⟩ := i
 unfold rightB at h
 simp only [Bool.and_eq_true] at h h1 ⊢
 obtain ⟨_, q1, q2, q3, _, q5⟩ := h
 unfold wB at q1
 rcases h1 with e | e
 all_goals
  subst e
  simp [gL] at q1
  omega
set_option maxHeartbeats 8000000 in
set_option maxRecDepth 100000 in
theorem visible16 (i : In) (x : Th) (v : Value) (w : World) (hr : rightB i = true) :
  Calls Tryz.prog 140 #[.agg (inC i), .agg (thC x v)] w fun e w' => e = .returned (.agg (akC (visA i x))) ∧ Below w.heap.size w w' := by
 have hb0 : Below w.heap.size w (w.alloc (.cells (inC i) 122)) := (Below.refl _ _).alloc (Nat.le_refl _) _
 have hb1 := hb0.alloc (by simp) (.cells (thC x v) 73)
 have l0 := Lies.made w 122 (inC i)
 have l1 := Lies.made (w.alloc (.cells (inC i) 122)) 73 (thC x v)
 have hbA := (Below.refl (w.alloc (.cells (inC i) 122)).heap.size (w.alloc (.cells (inC i) 122))).alloc (Nat.le_refl _) (.cells (thC x v) 73)
 have l0b := l0.below hbA l0.lt
 have HB := Lib.hid hb1
 have HL := Lib.hid l0b
 have HG := Lib.hid l1
 have HVR := Lib.hid (@vis_reg i hr)
 have HVD : Hid (visA i x = if i.op = 18 then ⟨1, i.c, i.d, 0, 0, x.r i.a.toNat⟩ else if i.op = 19 then ⟨2, i.c, i.d, wrap64 (i.k : Int), 0, 0⟩ else if i.op = 20 then ⟨3, i.c, 0, 0, 0, 0⟩ else if i.op = 21 then noneA 4 else if i.op = 22 then noneA 5 else if i.op = 23 then noneA 6 else if i.op = 24 then ⟨7, 0, 0, 0, 0, x.r i.a.toNat⟩ else noneA 8) := rfl
 clear hb0 hb1 l0 l1 hbA l0b hr
 have hba := Below.refl ((w.alloc (.cells (inC i) 122)).alloc (.cells (thC x v) 73)).heap.size ((w.alloc (.cells (inC i) 122)).alloc (.cells (thC x v) 73))
 have HGA := Lib.hid (fun o => HG.out.below (hba.alloc (Nat.le_refl _) o) HG.out.lt)
 have HBA := Lib.hid (fun o => HB.out.alloc (by simp; omega) o)
 rw [show (w.alloc (.cells (inC i) 122)).heap.size = w.heap.size + 1 by simp] at HGA
 clear hba
 by_cases o18 : i.op = 18
 ·obtain ⟨an, han⟩ : ∃ n : Nat, i.a = n := ⟨i.a.toNat, by have := HVR.out (.inl o18); omega⟩
  have ha8 : an < 8 := by have := HVR.out (.inl o18); omega
  have e18 : (i.op == 18) = true := by rw [beq_iff_eq]; exact o18
  rw [if_pos o18, han, Int.toNat_natCast] at HVD
  have HGR := Lib.hid (fun o => ((HGA.out o).cell (5 + an)).trans (thC_reg x v ha8))
  have HAN := Lib.hid han
  clear o18 HVR HG HGA HB HAN
  obtain ⟨iop, ia, ib, ic, id, ik⟩ := i
  have han : ia = an := han
  subst han
  go_enter Tryz.func140, Tryz.ntmps140
  go_upto_region 3 with (fail)
  have ra := HGR.out (.cells #[.int .i64 0, .int .i64 0, .int .i64 0, .int .i64 0, .int .u64 0, .int .u64 0] 63)
  go_region
  go_wp2
  exact bodyPost_ret (by simp [results, Tryz.results140, go_sem]; rfl) rfl ⟨by rw [HVD.out]; rfl, (HBA.out _).drew⟩
 have e18 : (i.op == 18) = false := by rw [beq_eq_false_iff_ne]; exact o18
 rw [if_neg o18] at HVD
 by_cases o19 : i.op = 19
 ·have e19 : (i.op == 19) = true := by rw [beq_iff_eq]; exact o19
  rw [if_pos o19] at HVD
  clear HVR HG HGA
  go_enter Tryz.func140, Tryz.ntmps140
  go_wp2
  exact bodyPost_ret (by simp [results, Tryz.results140, go_sem]; rfl) rfl ⟨by rw [HVD.out]; rfl, HBA.out _⟩
 have e19 : (i.op == 19) = false := by rw [beq_eq_false_iff_ne]; exact o19
 rw [if_neg o19] at HVD
 by_cases o20 : i.op = 20
 ·have e20 : (i.op == 20) = true := by rw [beq_iff_eq]; exact o20
  rw [if_pos o20] at HVD
  clear HVR HG HGA
  go_enter Tryz.func140, Tryz.ntmps140
  go_wp2
  exact bodyPost_ret (by simp [results, Tryz.results140, go_sem]; rfl) rfl ⟨by rw [HVD.out]; rfl, HBA.out _⟩
 have e20 : (i.op == 20) = false := by rw [beq_eq_false_iff_ne]; exact o20
 rw [if_neg o20] at HVD
 by_cases o21 : i.op = 21
 ·have e21 : (i.op == 21) = true := by rw [beq_iff_eq]; exact o21
  rw [if_pos o21] at HVD
  clear HVR HG HGA
  go_enter Tryz.func140, Tryz.ntmps140
  go_wp2
  exact bodyPost_ret (by simp [results, Tryz.results140, go_sem]; rfl) rfl ⟨by rw [HVD.out]; rfl, HBA.out _⟩
 have e21 : (i.op == 21) = false := by rw [beq_eq_false_iff_ne]; exact o21
 rw [if_neg o21] at HVD
 by_cases o22 : i.op = 22
 ·have e22 : (i.op == 22) = true := by rw [beq_iff_eq]; exact o22
  rw [if_pos o22] at HVD
  clear HVR HG HGA
  go_enter Tryz.func140, Tryz.ntmps140
  go_wp2
  exact bodyPost_ret (by simp [results, Tryz.results140, go_sem]; rfl) rfl ⟨by rw [HVD.out]; rfl, HBA.out _⟩
 have e22 : (i.op == 22) = false := by rw [beq_eq_false_iff_ne]; exact o22
 rw [if_neg o22] at HVD
 by_cases o23 : i.op = 23
 ·have e23 : (i.op == 23) = true := by rw [beq_iff_eq]; exact o23
  rw [if_pos o23] at HVD
  clear HVR HG HGA
  go_enter Tryz.func140, Tryz.ntmps140
  go_wp2
  exact bodyPost_ret (by simp [results, Tryz.results140, go_sem]; rfl) rfl ⟨by rw [HVD.out]; rfl, HBA.out _⟩
 have e23 : (i.op == 23) = false := by rw [beq_eq_false_iff_ne]; exact o23
 rw [if_neg o23] at HVD
 by_cases o24 : i.op = 24
 ·obtain ⟨an, han⟩ : ∃ n : Nat, i.a = n := ⟨i.a.toNat, by have := HVR.out (.inr o24); omega⟩
  have ha8 : an < 8 := by have := HVR.out (.inr o24); omega
  have e24 : (i.op == 24) = true := by rw [beq_iff_eq]; exact o24
  rw [if_pos o24, han, Int.toNat_natCast] at HVD
  have HGR := Lib.hid (fun o => ((HGA.out o).cell (5 + an)).trans (thC_reg x v ha8))
  have HAN := Lib.hid han
  clear o24 HVR HG HGA HB HAN
  obtain ⟨iop, ia, ib, ic, id, ik⟩ := i
  have han : ia = an := han
  subst han
  go_enter Tryz.func140, Tryz.ntmps140
  go_upto_region 15 with (fail)
  have ra := HGR.out (.cells #[.int .i64 0, .int .i64 0, .int .i64 0, .int .i64 0, .int .u64 0, .int .u64 0] 63)
  go_wp2
  exact bodyPost_ret (by simp [results, Tryz.results140, go_sem]; rfl) rfl ⟨by rw [HVD.out]; rfl, HBA.out _⟩
 have e24 : (i.op == 24) = false := by rw [beq_eq_false_iff_ne]; exact o24
 rw [if_neg o24] at HVD
 clear HVR HG HGA
 go_enter Tryz.func140, Tryz.ntmps140
 go_wp2
 exact bodyPost_ret (by simp [results, Tryz.results140, go_sem]; rfl) rfl ⟨by rw [HVD.out]; rfl, HBA.out _⟩
structure Fb where
 p : Pg
 th : List Th
 sn : List (List Nat)
 ln : List La
 now : Nat
 rds : Nat
 en : Bool
def thN (x : Th) : List Value := (thC x (.slice none 0 0)).toList
theorem thN_length (x : Th) : (thN x).length = 14 := rfl
structure SnsAt (w : World) (B : Nat) (v : Value) (vs : List Value) (ss : List (List Nat)) : Prop where
 row : w.ownsRow B 66 1 v ss.length vs
 each : ∀ (i : Nat) (s : List Nat), ss[i]? = some s → ∃ A c, vs[i]? = some (Value.slice A s.length c) ∧ w.ownsRow B 37 1 (.slice A s.length c) s.length (cells64 s)
 apart : ∀ (i j : Nat) (a b : Value) (r : Nat), i ≠ j → vs[i]? = some a → vs[j]? = some b → a.ownBlock = some r → b.ownBlock ≠ some r
theorem SnsAt.len {w : World} {B : Nat} {v : Value} {vs : List Value} {ss : List (List Nat)} (h : SnsAt w B v vs ss) : vs.length = ss.length := by have := h.row.1; omega
theorem SnsAt.kept {S : Nat → Prop} {w w' : World} {B : Nat} {v : Value} {vs : List Value} {ss : List (List Nat)} (h : SnsAt w B v vs ss) (k : Kept S w w') (h1 : ∀ r a, v.ownBlock = some r → Lies w r 66 a → ¬ S r) (h2 : ∀ u r a, u ∈ vs → u.ownBlock = some r → Lies w r 37 a → ¬ S r) : SnsAt w' B v vs ss := by
 refine ⟨owns_kept h.row k (fun r cur hr hl => h1 r cur hr hl), fun i s hs => ?_, h.apart⟩
 obtain ⟨A, c, e, ho⟩ := h.each i s hs
 exact ⟨A, c, e, owns_kept ho k (fun r cur hr hl => h2 _ r cur (List.mem_of_getElem? e) hr hl)⟩
theorem SnsAt.later {w w' : World} {B : Nat} {v : Value} {vs : List Value} {ss : List (List Nat)} (h : SnsAt w B v vs ss) (k : Below w.heap.size w w') : SnsAt w' B v vs ss := h.kept (Kept.of_below k) (fun _ _ _ _ e => e) (fun _ _ _ _ _ _ e => e)
def OwnPg (w : World) (B : Nat) (A : Option Addr) (c : Nat) (Q : Option Addr) (d : Nat) (p : Pg) : Prop :=
 w.ownsRow B 84 3 (.slice A p.rs.length c) p.rs.length (rowsOf riF p.rs) ∧
 ∃ vs : List Value, w.ownsRow B 78 1 (.slice Q p.ts.length d) p.ts.length vs ∧ ∀ (i : Nat) (l : List In), p.ts[i]? = some l → ∃ A' c', vs[i]? = some (Value.slice A' l.length c') ∧ w.ownsRow B 122 6 (.slice A' l.length c') l.length (rowsOf inF l)
section
variable {w w' : World} {B c d : Nat} {A Q : Option Addr} {p : Pg}
theorem OwnPg.pg (h : OwnPg w B A c Q d p) : PgAt w A c Q d p := by
 obtain ⟨h1, vs, h2, h3⟩ := h
 refine ⟨SeqS.of_owns h1, vs, SeqS.of_owns h2, fun i l hl => ?_⟩
 obtain ⟨A', c', e, ho⟩ := h3 i l hl
 exact ⟨A', c', e, SeqS.of_owns ho⟩
theorem OwnPg.kept {S : Nat → Prop} (h : OwnPg w B A c Q d p) (k : Kept S w w') (hn : ∀ r e cur, (e = 84 ∨ e = 78 ∨ e = 122) → Lies w r e cur → ¬ S r) : OwnPg w' B A c Q d p := by
 obtain ⟨h1, vs, h2, h3⟩ := h
 refine ⟨owns_kept h1 k (fun r cur _ hl => hn r _ cur (.inl rfl) hl), vs, owns_kept h2 k (fun r cur _ hl => hn r _ cur (.inr (.inl rfl)) hl), fun i l hl => ?_⟩
 obtain ⟨A', c', e, ho⟩ := h3 i l hl
 exact ⟨A', c', e, owns_kept ho k (fun r cur _ hl => hn r _ cur (.inr (.inr rfl)) hl)⟩
theorem OwnPg.later (h : OwnPg w B A c Q d p) (k : Below w.heap.size w w') : OwnPg w' B A c Q d p := h.kept (Kept.of_below k) (fun _ _ _ _ _ e => e)
end
structure Fv where
 A : Option Addr
 c : Nat
 Q : Option Addr
 d : Nat
 tv : Value
 sv : Value
 vs : List Value
 lv : Value
abbrev fbC (f : Fb) (z : Fv) : Array Value := #[.slice z.A f.p.rs.length z.c, .slice z.Q f.p.ts.length z.d, z.tv, z.sv, z.lv, .int .u64 (f.now : Int), .int .u64 (f.rds : Int), .bool f.en]
structure FabAt (w : World) (B F : Nat) (f : Fb) (z : Fv) : Prop where
 box : Lies w F 82 (fbC f z)
 pg : OwnPg w B z.A z.c z.Q z.d f.p
 tr : w.ownsRow B 73 14 z.tv f.th.length (rowsOf thN f.th)
 sr : SnsAt w B z.sv z.vs f.sn
 lr : LnsA w B z.lv f.ln
 hB : B ≤ F
structure FbOk (f : Fb) : Prop where
 pok : pgOk f.p
 tok : ∀ x ∈ f.th, thOk x ∧ x.sn = []
 tl : f.th.length = f.p.ts.length
 sl : f.sn.length = f.p.ts.length
 ll : f.ln.length = f.p.rs.length
 nb : f.now ≤ 18446744073709551615 ∧ f.rds ≤ 18446744073709551615
 sb : ∀ s ∈ f.sn, ∀ n ∈ s, n ≤ 18446744073709551615
section
variable {w w' : World} {B F : Nat} {f : Fb} {z : Fv}
theorem FabAt.later (h : FabAt w B F f z) (k : Below w.heap.size w w') : FabAt w' B F f z :=
 ⟨h.box.below k h.box.lt, h.pg.later k, owned_below h.tr k, h.sr.later k, h.lr.later k, h.hB⟩
theorem FabAt.lt (h : FabAt w B F f z) : F < w.heap.size := h.box.lt
def FpOf (F : Nat) (z : Fv) (k : Nat) : Prop := k = F ∨ z.tv.ownBlock = some k ∨ z.sv.ownBlock = some k ∨ z.lv.ownBlock = some k ∨ ∃ v ∈ z.vs, v.ownBlock = some k
theorem own_lies {w : World} {B n sz : Nat} {e : TypeId} {v : Value} {xs : List Value} {k : Nat} (h : w.ownsRow B e sz v n xs) (hv : v.ownBlock = some k) : B ≤ k ∧ ∃ cur, Lies w k e cur := by
 rcases owns_row h with ⟨rfl, _, _⟩ | ⟨r, cap, cur, rfl, hB, hl, _⟩
 ·cases hv
 ·simp only [Value.ownBlock, Option.some.injEq] at hv
  subst hv
  exact ⟨hB, cur, hl⟩
theorem FabAt.fp (h : FabAt w B F f z) {k : Nat} (hk : FpOf F z k) : B ≤ k ∧ ∃ e cur, Lies w k e cur ∧ (e = 82 ∨ e = 73 ∨ e = 66 ∨ e = 97 ∨ e = 37) := by
 rcases hk with rfl | hk | hk | hk | ⟨v, hv, hk⟩
 ·exact ⟨h.hB, _, _, h.box, .inl rfl⟩
 ·obtain ⟨h1, cur, h2⟩ := own_lies h.tr hk
  exact ⟨h1, _, cur, h2, .inr (.inl rfl)⟩
 ·obtain ⟨h1, cur, h2⟩ := own_lies h.sr.row hk
  exact ⟨h1, _, cur, h2, .inr (.inr (.inl rfl))⟩
 ·obtain ⟨xs, ho⟩ := h.lr.owns
  obtain ⟨h1, cur, h2⟩ := own_lies ho hk
  exact ⟨h1, _, cur, h2, .inr (.inr (.inr (.inl rfl)))⟩
 ·obtain ⟨i, hi⟩ := List.mem_iff_getElem?.1 hv
  obtain ⟨hil, _⟩ := List.getElem?_eq_some_iff.1 hi
  obtain ⟨A, c, e, ho⟩ := h.sr.each i _ (List.getElem?_eq_getElem (by rw [← h.sr.len]; exact hil))
  rw [hi] at e
  simp only [Option.some.injEq] at e
  rw [e] at hk
  obtain ⟨h1, cur, h2⟩ := own_lies ho hk
  exact ⟨h1, _, cur, h2, .inr (.inr (.inr (.inr rfl)))⟩
theorem FabAt.keptL {g : Nat} {cs : Array Value} {l' : List La} (h : FabAt w B F f z) (k : Kept (oneRow g) w w') (hl : Lies w g 97 cs) (hn : LnsA w' B z.lv l') (hlen : l'.length = f.ln.length) : FabAt w' B F { f with ln := l' } z := by
 have no : ∀ {r e cur}, Lies w r e cur → e ≠ 97 → ¬ oneRow g r := fun {r e cur} h1 h2 (h3 : r = g) => by subst h3; exact h2 (h1.same hl).1
 exact ⟨h.box.kept k (no h.box (by decide)), h.pg.kept k (fun r e cur he h1 => no h1 (by rcases he with rfl | rfl | rfl <;> decide)), owns_kept h.tr k (fun r cur _ h1 => no h1 (by decide)),
  h.sr.kept k (fun r a _ h1 => no h1 (by decide)) (fun _ r a _ _ h1 => no h1 (by decide)), hn, h.hB⟩
def codeN (f : Fb) (t : Nat) : List In := f.p.ts.getD t []
def thrN (f : Fb) (t : Nat) : Th := f.th.getD t ⟨0, 0, 0, 0, 0, fun _ => 0, []⟩
theorem thr_get (ok : FbOk f) {t : Nat} (ht : t < f.p.ts.length) : f.th[t]? = some (thrN f t) ∧ f.p.ts[t]? = some (codeN f t) ∧ thOk (thrN f t) ∧ (thrN f t).sn = [] ∧ ∀ i ∈ codeN f t, inOk i := by
 have h1 : f.th[t]? = some (thrN f t) := by
  unfold thrN
  rw [List.getD_eq_getElem?_getD, List.getElem?_eq_getElem (by rw [ok.tl]; exact ht)]; rfl
 have h2 : f.p.ts[t]? = some (codeN f t) := by
  unfold codeN
  rw [List.getD_eq_getElem?_getD, List.getElem?_eq_getElem ht]; rfl
 obtain ⟨h3, h4⟩ := ok.tok _ (List.mem_of_getElem? h1)
 exact ⟨h1, h2, h3, h4, ok.pok.2 _ (List.mem_of_getElem? h2)⟩
theorem FabAt.thr (h : FabAt w B F f z) (ok : FbOk f) {t : Nat} (ht : t < f.p.ts.length) : ∃ qb qo A c T ct, z.Q = some ⟨qb, qo, none⟩ ∧ z.tv = .slice (some ⟨T, 0, none⟩) f.p.ts.length ct ∧ f.p.ts.length ≤ ct ∧ ct ≤ 9223372036854775807 ∧ f.p.ts.length ≤ z.d ∧ z.d ≤ 9223372036854775807 ∧ T < w.heap.size ∧ B ≤ T ∧
  ∀ w2, Below w.heap.size w w2 → w2.cell? ⟨qb, qo + t, none⟩ = some (.slice A (codeN f t).length c) ∧ InsAt w2 A c (codeN f t) ∧ ∀ (j : Nat) (u : Value), j < 14 → (thN (thrN f t))[j]? = some u → w2.cell? ⟨T, t * 14 + j, none⟩ = some u := by
 obtain ⟨h1, h2, h3, h4, h5⟩ := thr_get ok ht
 obtain ⟨qb, qo, A, c, e1, hcq, hin⟩ := h.pg.pg.2.at_ h2
 obtain ⟨hd1, hd2⟩ := h.pg.pg.2.form
 rcases owns_row h.tr with ⟨_, e, _⟩ | ⟨T, ct, cur, e2, hT, hl, hc1, hc2⟩
 ·rw [ok.tl] at e; omega
 have hq0 := SeqS.of_owns h.tr
 rw [e2, ok.tl] at hq0
 rw [ok.tl] at e2 hc1
 unfold maxLen at hc2
 refine ⟨qb, qo, A, c, T, ct, e1, e2, hc1, by omega, hd1, hd2, hl.lt, hT, fun w2 hb => ⟨cell_later hcq hb, hin.later hb, fun j u hj hu => ?_⟩⟩
 obtain ⟨b3, o3, e3, _, g3⟩ := SeqS.at_ thN_length (by decide) (hq0.later hb) h1
 simp only [Option.some.injEq, Addr.mk.injEq, and_true] at e3
 obtain ⟨rfl, rfl⟩ := e3
 have := g3 j u hj hu
 rwa [Nat.zero_add] at this
end
structure Ev where
 th : Int
 kd : Int
 rg : Int
 tk : Nat
 vl : Nat
instance : Inhabited Ev := ⟨⟨0, 0, 0, 0, 0⟩⟩
instance : DecidableEq Ev := fun a b => if h : a.th = b.th ∧ a.kd = b.kd ∧ a.rg = b.rg ∧ a.tk = b.tk ∧ a.vl = b.vl then isTrue (by cases a; cases b; simp_all) else isFalse (fun e => h (by rw [e]; simp))
def evF (x : Ev) : List Value := [.int .i64 x.th, .int .i64 x.kd, .int .i64 x.rg, .int .u64 (x.tk : Int), .int .u64 (x.vl : Int)]
abbrev evC (x : Ev) : Array Value := #[.int .i64 x.th, .int .i64 x.kd, .int .i64 x.rg, .int .u64 (x.tk : Int), .int .u64 (x.vl : Int)]
theorem evF_length (x : Ev) : (evF x).length = 5 := rfl
def evI64 (z : Int) : Prop := -9223372036854775808 ≤ z ∧ z ≤ 9223372036854775807
def evOk (x : Ev) : Prop := evI64 x.th ∧ evI64 x.kd ∧ evI64 x.rg ∧ x.tk ≤ 18446744073709551615 ∧ x.vl ≤ 18446744073709551615
abbrev EvsAt (w : World) (A : Option Addr) (c : Nat) (l : List Ev) : Prop := SeqS w 5 (.slice A l.length c) l.length (rowsOf evF l)
theorem EvsAt.at_ {w : World} {A : Option Addr} {c : Nat} {l : List Ev} (h : EvsAt w A c l) {i : Nat} {x : Ev} (hx : l[i]? = some x) : ∃ b off, A = some ⟨b, off, none⟩ ∧ b < w.heap.size ∧ ∀ j u, j < 5 → (evF x)[j]? = some u → w.cell? ⟨b, off + i * 5 + j, none⟩ = some u :=
 SeqS.at_ evF_length (by decide) h hx
theorem evHeld : Tryz.prog.stoodInHeld 43 = false := by kernel_rfl
theorem evGuard : Tryz.prog.eqGuardType Tryz.prog.depth 43 = false := by kernel_rfl
def kindB (k : Int) : Bool := decide (1 ≤ k) && decide (k ≤ 15)
def ticketB (k : Int) : Bool := (k == 1) || ((k == 2) || ((k == 3) || ((k == 4) || (k == 13))))
def valueB (k : Int) : Bool := (k == 8) || ((k == 9) || ((k == 10) || (k == 12)))
def ringB (k : Int) : Bool := ticketB k || ((k == 5) || ((k == 6) || (k == 7)))
theorem isKind_any (k : Int) (w : World) : Calls Tryz.prog 106 #[.int .i64 k] w fun e w' => e = .returned (.bool (kindB k)) ∧ w = w' := by
 unfold kindB
 by_cases h : (1 : Int) ≤ k
 ·have e1 : decide ((1 : Int) ≤ k) = true := by simpa using h
  go_enter Tryz.func106, Tryz.ntmps106
  go_wp2
  go_ret
  exact ⟨by simp [h], rfl⟩
 ·have e1 : decide ((1 : Int) ≤ k) = false := by simpa using h
  go_enter Tryz.func106, Tryz.ntmps106
  go_wp2
  go_ret
  exact ⟨by simp [h], rfl⟩
theorem hasTicket_any (k : Int) (w : World) : Calls Tryz.prog 108 #[.int .i64 k] w fun e w' => e = .returned (.bool (ticketB k)) ∧ w = w' := by
 have hd : Hid (ticketB k = ((k == 1) || ((k == 2) || ((k == 3) || ((k == 4) || (k == 13)))))) := rfl
 generalize ticketB k = tb at *
 obtain ⟨a1, h1⟩ : ∃ a, (k == 1) = a := ⟨_, rfl⟩
 obtain ⟨a2, h2⟩ : ∃ a, (k == 2) = a := ⟨_, rfl⟩
 obtain ⟨a3, h3⟩ : ∃ a, (k == 3) = a := ⟨_, rfl⟩
 obtain ⟨a4, h4⟩ : ∃ a, (k == 4) = a := ⟨_, rfl⟩
 obtain ⟨a5, h5⟩ : ∃ a, (k == 13) = a := ⟨_, rfl⟩
 rw [h1, h2, h3, h4, h5] at hd
 cases a1 <;> cases a2 <;> cases a3 <;> cases a4 <;> cases a5
 all_goals
  obtain rfl := hd.out
  clear hd
  go_enter Tryz.func108, Tryz.ntmps108
  go_wp2
  go_ret
  exact ⟨rfl, rfl⟩
theorem hasValue_any (k : Int) (w : World) : Calls Tryz.prog 109 #[.int .i64 k] w fun e w' => e = .returned (.bool (valueB k)) ∧ w = w' := by
 have hd : Hid (valueB k = ((k == 8) || ((k == 9) || ((k == 10) || (k == 12))))) := rfl
 generalize valueB k = tb at *
 obtain ⟨a1, h1⟩ : ∃ a, (k == 8) = a := ⟨_, rfl⟩
 obtain ⟨a2, h2⟩ : ∃ a, (k == 9) = a := ⟨_, rfl⟩
 obtain ⟨a3, h3⟩ : ∃ a, (k == 10) = a := ⟨_, rfl⟩
 obtain ⟨a4, h4⟩ : ∃ a, (k == 12) = a := ⟨_, rfl⟩
 rw [h1, h2, h3, h4] at hd
 cases a1 <;> cases a2 <;> cases a3 <;> cases a4
 all_goals
  obtain rfl := hd.out
  clear hd
  go_enter Tryz.func109, Tryz.ntmps109
  go_wp2
  go_ret
  exact ⟨rfl, rfl⟩
theorem rings_any (k : Int) (w : World) : Calls Tryz.prog 107 #[.int .i64 k] w fun e w' => e = .returned (.bool (ringB k)) ∧ w = w' := by
 have hd : Hid (ringB k = (ticketB k || ((k == 5) || ((k == 6) || (k == 7))))) := rfl
 have HT := Lib.hid (hasTicket_any k w)
 generalize ringB k = rb at *
 generalize ticketB k = tb at *
 obtain ⟨a1, h1⟩ : ∃ a, (k == 5) = a := ⟨_, rfl⟩
 obtain ⟨a2, h2⟩ : ∃ a, (k == 6) = a := ⟨_, rfl⟩
 obtain ⟨a3, h3⟩ : ∃ a, (k == 7) = a := ⟨_, rfl⟩
 rw [h1, h2, h3] at hd
 cases tb <;> cases a1 <;> cases a2 <;> cases a3
 all_goals
  obtain rfl := hd.out
  clear hd
  go_enter Tryz.func107, Tryz.ntmps107
  go_wp2_with fail
  refine HT.out.mono ?_
  rintro e w2 ⟨rfl, rfl⟩
  clear HT
  go_wp2
  go_ret
  exact ⟨rfl, rfl⟩
theorem kinds_apart (k : Int) : (ticketB k = true ∧ ringB k = true ∧ valueB k = false) ∨ (ticketB k = false ∧ ringB k = true ∧ valueB k = false) ∨ (ticketB k = false ∧ ringB k = false ∧ valueB k = true) ∨ (ticketB k = false ∧ ringB k = false ∧ valueB k = false) := by
 unfold ringB
 cases ht : ticketB k with
 | true =>
  refine .inl ⟨rfl, rfl, ?_⟩
  unfold ticketB at ht
  simp only [Bool.or_eq_true, beq_iff_eq] at ht
  unfold valueB
  simp only [Bool.or_eq_false_iff, beq_eq_false_iff_ne]
  omega
 | false =>
  cases hr : ((k == 5) || ((k == 6) || (k == 7))) with
  | true =>
   refine .inr (.inl ⟨rfl, rfl, ?_⟩)
   simp only [Bool.or_eq_true, beq_iff_eq] at hr
   unfold valueB
   simp only [Bool.or_eq_false_iff, beq_eq_false_iff_ne]
   omega
  | false =>
   cases hv : valueB k with
   | true => exact .inr (.inr (.inl ⟨rfl, rfl, rfl⟩))
   | false => exact .inr (.inr (.inr ⟨rfl, rfl, rfl⟩))
def rightE (x : Ev) : Bool := kindB x.kd && (decide (0 ≤ x.th) && (decide (x.th < 8) && ((if ringB x.kd = true then decide (0 ≤ x.rg ∧ x.rg < 8) else x.rg == 0) && ((if ticketB x.kd = true then decide (x.tk < 4611686018427387904) else x.tk == 0) && (valueB x.kd || x.vl == 0)))))
def rest15 (x : Ev) : Ev := ⟨x.th, x.kd, if ringB x.kd = true ∧ 0 ≤ x.rg ∧ x.rg < 8 then x.rg else 0, if ticketB x.kd = true ∧ x.tk < 4611686018427387904 then x.tk else 0, if valueB x.kd = true then x.vl else 0⟩
theorem right_rest {x : Ev} (hk : kindB x.kd = true) (h0 : 0 ≤ x.th) (h8 : x.th < 8) : rightE x = decide (rest15 x = x) := by
 obtain ⟨th, kd, rg, tk, vl⟩ := x
 simp only at hk h0 h8
 unfold rightE rest15
 simp only
 rw [hk, decide_eq_true h0, decide_eq_true h8, Bool.eq_iff_iff]
 simp only [Bool.true_and, Bool.and_eq_true, decide_eq_true_eq, Ev.mk.injEq, true_and, Bool.or_eq_true]
 cases ringB kd <;> cases ticketB kd <;> cases valueB kd
 all_goals
  simp only [if_true, if_false, Bool.false_eq_true, false_and, true_and, false_or, true_or, decide_eq_true_eq, beq_iff_eq]
  constructor
  ·rintro ⟨q1, q2, q3⟩
   first
    | (refine ⟨?_, ?_, ?_⟩ <;> first | omega | (split <;> omega) | rfl)
    | (refine ⟨?_, ?_⟩ <;> first | omega | (split <;> omega) | rfl)
  ·rintro ⟨q1, q2, q3⟩
   refine ⟨?_, ?_, ?_⟩
   all_goals first
    | omega
    | (split at q1 <;> omega)
    | (split at q2 <;> omega)
    | trivial
theorem evEql (x y : Ev) (w : World) : (binOp .eql 43 (.agg (evC x)) (.agg (evC y))).run Tryz.prog w = .ok (.bool (decide (x = y))) w := by
 have h1 := evHeld
 rw [run_eql_struct, run_equalIn_agg w 9999 _ _ _ (by simp only [Program.fieldsOf, Tryz.underlying43]) h1]
 simp only [Program.fieldsOf, Tryz.underlying43]
 obtain ⟨a, b, c, d, e⟩ := x
 obtain ⟨a', b', c', d', e'⟩ := y
 simp [go_sem]
 by_cases e1 : a = a'
 ·by_cases e2 : b = b'
  ·by_cases e3 : c = c'
   ·by_cases e4 : d = d'
    ·by_cases e5 : e = e'
     ·simp [e1, e2, e3, e4, e5]
     ·simp [e1, e2, e3, e4, e5]; try omega
    ·simp [e1, e2, e3, e4]; try omega
   ·simp [e1, e2, e3]; try omega
  ·simp [e1, e2]; try omega
 ·simp [e1]; try omega
theorem ev_leaf {x : Ev} {R : Int} {T V : Nat} (hrest : rest15 x = ⟨x.th, x.kd, R, T, V⟩) {D : Bool} (hD : decide (rest15 x = x) = D) (w : World) :
  (binOp .eql 43 (.agg #[.int .i64 x.th, .int .i64 x.kd, .int .i64 R, .int .u64 (T : Int), .int .u64 (V : Int)]) (.agg (evC x))).run Tryz.prog w = .ok (.bool D) w := by
 have h := evEql (rest15 x) x w
 rw [hD, hrest] at h
 exact h
theorem rightE_no {x : Ev} (h : kindB x.kd = false ∨ x.th < 0 ∨ 8 ≤ x.th) : rightE x = false := by
 unfold rightE
 rcases h with h | h | h
 ·rw [h]; rfl
 ·rw [decide_eq_false (p := 0 ≤ x.th) (by omega)]; simp
 ·rw [decide_eq_false (p := x.th < 8) (by omega)]; simp
set_option maxHeartbeats 8000000 in
set_option maxRecDepth 100000 in
theorem right15 (x : Ev) (w : World) : Calls Tryz.prog 72 #[.agg (evC x)] w fun e w' => e = .returned (.bool (rightE x)) ∧ Below w.heap.size w w' := by
 have hb0 : Below w.heap.size w (w.alloc (.cells (evC x) 43)) := (Below.refl _ _).alloc (Nat.le_refl _) _
 have l0 := Lies.made w 43 (evC x)
 have HK := Lib.hid (isKind_any x.kd)
 have HNO := Lib.hid (@rightE_no x)
 have HYES := Lib.hid (@right_rest x)
 have HB := Lib.hid hb0
 have HL := Lib.hid l0
 clear hb0 l0
 by_cases hbad : kindB x.kd = false ∨ x.th < 0 ∨ 8 ≤ x.th
 ·have HE := Lib.hid (HNO.out hbad)
  clear HNO HYES
  have c0 := (HL.out.cell 0).trans (show _ = some (Value.int .i64 x.th) from rfl)
  have c1 := (HL.out.cell 1).trans (show _ = some (Value.int .i64 x.kd) from rfl)
  have cl := HL.out.lt
  have hcs : kindB x.kd = false ∨ (kindB x.kd = true ∧ x.th < 0) ∨ (kindB x.kd = true ∧ ¬ x.th < 0 ∧ 8 ≤ x.th) := by
   cases hk : kindB x.kd with
   | false => exact .inl rfl
   | true =>
    rw [hk] at hbad
    by_cases h0 : x.th < 0
    ·exact .inr (.inl ⟨rfl, h0⟩)
    ·exact .inr (.inr ⟨rfl, h0, by rcases hbad with h | h | h <;> first | cases h | omega⟩)
  clear hbad
  generalize kindB x.kd = kb at *
  rcases hcs with rfl | ⟨rfl, h0⟩ | ⟨rfl, h0, h8⟩
  ·go_enter Tryz.func72, Tryz.ntmps72
   go_wp2_with fail
   generalize w.alloc (.cells (evC x) 43) = w1 at *
   refine (HK.out _).mono ?_
   rintro e w2 ⟨rfl, rfl⟩
   go_wp2
   go_ret
   exact ⟨ret_bool (by rw [HE.out]), HB.out⟩
  ·have e1 : decide (x.th < 0) = true := decide_eq_true h0
   go_enter Tryz.func72, Tryz.ntmps72
   go_wp2_with fail
   generalize w.alloc (.cells (evC x) 43) = w1 at *
   refine (HK.out _).mono ?_
   rintro e w2 ⟨rfl, rfl⟩
   go_wp2
   go_ret
   exact ⟨ret_bool (by rw [HE.out]), HB.out⟩
  ·have e1 : decide (x.th < 0) = false := decide_eq_false h0
   have e2 : decide (8 ≤ x.th) = true := decide_eq_true h8
   go_enter Tryz.func72, Tryz.ntmps72
   go_wp2_with fail
   generalize w.alloc (.cells (evC x) 43) = w1 at *
   refine (HK.out _).mono ?_
   rintro e w2 ⟨rfl, rfl⟩
   go_wp2
   go_ret
   exact ⟨ret_bool (by rw [HE.out]), HB.out⟩
 ·have hk : kindB x.kd = true := by
   cases hk : kindB x.kd with
   | true => rfl
   | false => exact absurd (.inl hk) hbad
  have h0 : 0 ≤ x.th := by
   apply Classical.byContradiction
   intro h
   exact hbad (.inr (.inl (by omega)))
  have h8 : x.th < 8 := by
   apply Classical.byContradiction
   intro h
   exact hbad (.inr (.inr (by omega)))
  obtain ⟨D, hD⟩ : ∃ D, decide (rest15 x = x) = D := ⟨_, rfl⟩
  have hre := HYES.out hk h0 h8
  rw [hD] at hre
  have HRE := Lib.hid hre
  have HD := Lib.hid hD
  have HR := Lib.hid (rings_any x.kd)
  have HT := Lib.hid (hasTicket_any x.kd)
  have HV := Lib.hid (hasValue_any x.kd)
  rw [hk] at HK
  have e1 : decide (x.th < 0) = false := decide_eq_false (by omega)
  have e2 : decide (8 ≤ x.th) = false := decide_eq_false (by omega)
  clear hbad HNO HYES hre hD h0 h8 hk HB HL
  have hka := kinds_apart x.kd
  have HRS : Hid (rest15 x = ⟨x.th, x.kd, if ringB x.kd = true ∧ 0 ≤ x.rg ∧ x.rg < 8 then x.rg else 0, if ticketB x.kd = true ∧ x.tk < 4611686018427387904 then x.tk else 0, if valueB x.kd = true then x.vl else 0⟩) := rfl
  generalize ringB x.kd = rb at *
  generalize ticketB x.kd = tb at *
  generalize valueB x.kd = vb at *
  rcases hka with ⟨rfl, rfl, rfl⟩ | ⟨rfl, rfl, rfl⟩ | ⟨rfl, rfl, rfl⟩ | ⟨rfl, rfl, rfl⟩
  ·by_cases r0 : 0 ≤ x.rg
   ·have r1 : decide (0 ≤ x.rg) = true := decide_eq_true r0
    by_cases r8 : x.rg < 8
    ·have r2 : decide (x.rg < 8) = true := decide_eq_true r8
     by_cases t0 : x.tk < 4611686018427387904
     ·have t1 : decide ((x.tk : Int) < 4611686018427387904) = true := decide_eq_true (by omega)
      have t2 : decide (x.tk < 4611686018427387904) = true := decide_eq_true t0
      have hrest : rest15 x = ⟨x.th, x.kd, x.rg, x.tk, 0⟩ := by (rw [HRS.out]; simp [r0, r8, t0])
      have hq : ∀ w : World, (binOp .eql 43 (.agg #[.int .i64 x.th, .int .i64 x.kd, .int .i64 (x.rg), .int .u64 ((x.tk : Nat) : Int), .int .u64 ((0 : Nat) : Int)]) (.agg (evC x))).run Tryz.prog w = .ok (.bool D) w := fun w => ev_leaf hrest HD.out w
      simp only [Int.natCast_zero] at hq
      have hg := evGuard
      clear hrest
      go_enter Tryz.func72, Tryz.ntmps72
      go_wp2_with fail
      refine (HK.out _).mono ?_
      rintro e w2 ⟨rfl, rfl⟩
      go_wp2_with fail
      refine (HR.out _).mono ?_
      rintro e w2 ⟨rfl, rfl⟩
      go_wp2_with fail
      refine (HT.out _).mono ?_
      rintro e w2 ⟨rfl, rfl⟩
      go_wp2_with fail
      refine (HV.out _).mono ?_
      rintro e w2 ⟨rfl, rfl⟩
      go_wp2
      go_ret
      exact ⟨ret_bool (by rw [HRE.out]), ((Below.refl _ _).alloc (Nat.le_refl _) _).alloc (by simp) _⟩
     ·have t1 : decide ((x.tk : Int) < 4611686018427387904) = false := decide_eq_false (by omega)
      have t2 : decide (x.tk < 4611686018427387904) = false := decide_eq_false t0
      have hrest : rest15 x = ⟨x.th, x.kd, x.rg, 0, 0⟩ := by (rw [HRS.out]; simp [r0, r8, t0])
      have hq : ∀ w : World, (binOp .eql 43 (.agg #[.int .i64 x.th, .int .i64 x.kd, .int .i64 (x.rg), .int .u64 ((0 : Nat) : Int), .int .u64 ((0 : Nat) : Int)]) (.agg (evC x))).run Tryz.prog w = .ok (.bool D) w := fun w => ev_leaf hrest HD.out w
      simp only [Int.natCast_zero] at hq
      have hg := evGuard
      clear hrest
      go_enter Tryz.func72, Tryz.ntmps72
      go_wp2_with fail
      refine (HK.out _).mono ?_
      rintro e w2 ⟨rfl, rfl⟩
      go_wp2_with fail
      refine (HR.out _).mono ?_
      rintro e w2 ⟨rfl, rfl⟩
      go_wp2_with fail
      refine (HT.out _).mono ?_
      rintro e w2 ⟨rfl, rfl⟩
      go_wp2_with fail
      refine (HV.out _).mono ?_
      rintro e w2 ⟨rfl, rfl⟩
      go_wp2
      go_ret
      exact ⟨ret_bool (by rw [HRE.out]), ((Below.refl _ _).alloc (Nat.le_refl _) _).alloc (by simp) _⟩
    ·have r2 : decide (x.rg < 8) = false := decide_eq_false r8
     by_cases t0 : x.tk < 4611686018427387904
     ·have t1 : decide ((x.tk : Int) < 4611686018427387904) = true := decide_eq_true (by omega)
      have t2 : decide (x.tk < 4611686018427387904) = true := decide_eq_true t0
      have hrest : rest15 x = ⟨x.th, x.kd, 0, x.tk, 0⟩ := by (rw [HRS.out]; simp [r0, r8, t0])
      have hq : ∀ w : World, (binOp .eql 43 (.agg #[.int .i64 x.th, .int .i64 x.kd, .int .i64 (0), .int .u64 ((x.tk : Nat) : Int), .int .u64 ((0 : Nat) : Int)]) (.agg (evC x))).run Tryz.prog w = .ok (.bool D) w := fun w => ev_leaf hrest HD.out w
      simp only [Int.natCast_zero] at hq
      have hg := evGuard
      clear hrest
      go_enter Tryz.func72, Tryz.ntmps72
      go_wp2_with fail
      refine (HK.out _).mono ?_
      rintro e w2 ⟨rfl, rfl⟩
      go_wp2_with fail
      refine (HR.out _).mono ?_
      rintro e w2 ⟨rfl, rfl⟩
      go_wp2_with fail
      refine (HT.out _).mono ?_
      rintro e w2 ⟨rfl, rfl⟩
      go_wp2_with fail
      refine (HV.out _).mono ?_
      rintro e w2 ⟨rfl, rfl⟩
      go_wp2
      go_ret
      exact ⟨ret_bool (by rw [HRE.out]), ((Below.refl _ _).alloc (Nat.le_refl _) _).alloc (by simp) _⟩
     ·have t1 : decide ((x.tk : Int) < 4611686018427387904) = false := decide_eq_false (by omega)
      have t2 : decide (x.tk < 4611686018427387904) = false := decide_eq_false t0
      have hrest : rest15 x = ⟨x.th, x.kd, 0, 0, 0⟩ := by (rw [HRS.out]; simp [r0, r8, t0])
      have hq : ∀ w : World, (binOp .eql 43 (.agg #[.int .i64 x.th, .int .i64 x.kd, .int .i64 (0), .int .u64 ((0 : Nat) : Int), .int .u64 ((0 : Nat) : Int)]) (.agg (evC x))).run Tryz.prog w = .ok (.bool D) w := fun w => ev_leaf hrest HD.out w
      simp only [Int.natCast_zero] at hq
      have hg := evGuard
      clear hrest
      go_enter Tryz.func72, Tryz.ntmps72
      go_wp2_with fail
      refine (HK.out _).mono ?_
      rintro e w2 ⟨rfl, rfl⟩
      go_wp2_with fail
      refine (HR.out _).mono ?_
      rintro e w2 ⟨rfl, rfl⟩
      go_wp2_with fail
      refine (HT.out _).mono ?_
      rintro e w2 ⟨rfl, rfl⟩
      go_wp2_with fail
      refine (HV.out _).mono ?_
      rintro e w2 ⟨rfl, rfl⟩
      go_wp2
      go_ret
      exact ⟨ret_bool (by rw [HRE.out]), ((Below.refl _ _).alloc (Nat.le_refl _) _).alloc (by simp) _⟩
   ·have r1 : decide (0 ≤ x.rg) = false := decide_eq_false r0
    by_cases t0 : x.tk < 4611686018427387904
    ·have t1 : decide ((x.tk : Int) < 4611686018427387904) = true := decide_eq_true (by omega)
     have t2 : decide (x.tk < 4611686018427387904) = true := decide_eq_true t0
     have hrest : rest15 x = ⟨x.th, x.kd, 0, x.tk, 0⟩ := by (rw [HRS.out]; simp [r0, t0])
     have hq : ∀ w : World, (binOp .eql 43 (.agg #[.int .i64 x.th, .int .i64 x.kd, .int .i64 (0), .int .u64 ((x.tk : Nat) : Int), .int .u64 ((0 : Nat) : Int)]) (.agg (evC x))).run Tryz.prog w = .ok (.bool D) w := fun w => ev_leaf hrest HD.out w
     simp only [Int.natCast_zero] at hq
     have hg := evGuard
     clear hrest
     go_enter Tryz.func72, Tryz.ntmps72
     go_wp2_with fail
     refine (HK.out _).mono ?_
     rintro e w2 ⟨rfl, rfl⟩
     go_wp2_with fail
     refine (HR.out _).mono ?_
     rintro e w2 ⟨rfl, rfl⟩
     go_wp2_with fail
     refine (HT.out _).mono ?_
     rintro e w2 ⟨rfl, rfl⟩
     go_wp2_with fail
     refine (HV.out _).mono ?_
     rintro e w2 ⟨rfl, rfl⟩
     go_wp2
     go_ret
     exact ⟨ret_bool (by rw [HRE.out]), ((Below.refl _ _).alloc (Nat.le_refl _) _).alloc (by simp) _⟩
    ·have t1 : decide ((x.tk : Int) < 4611686018427387904) = false := decide_eq_false (by omega)
     have t2 : decide (x.tk < 4611686018427387904) = false := decide_eq_false t0
     have hrest : rest15 x = ⟨x.th, x.kd, 0, 0, 0⟩ := by (rw [HRS.out]; simp [r0, t0])
     have hq : ∀ w : World, (binOp .eql 43 (.agg #[.int .i64 x.th, .int .i64 x.kd, .int .i64 (0), .int .u64 ((0 : Nat) : Int), .int .u64 ((0 : Nat) : Int)]) (.agg (evC x))).run Tryz.prog w = .ok (.bool D) w := fun w => ev_leaf hrest HD.out w
     simp only [Int.natCast_zero] at hq
     have hg := evGuard
     clear hrest
     go_enter Tryz.func72, Tryz.ntmps72
     go_wp2_with fail
     refine (HK.out _).mono ?_
     rintro e w2 ⟨rfl, rfl⟩
     go_wp2_with fail
     refine (HR.out _).mono ?_
     rintro e w2 ⟨rfl, rfl⟩
     go_wp2_with fail
     refine (HT.out _).mono ?_
     rintro e w2 ⟨rfl, rfl⟩
     go_wp2_with fail
     refine (HV.out _).mono ?_
     rintro e w2 ⟨rfl, rfl⟩
     go_wp2
     go_ret
     exact ⟨ret_bool (by rw [HRE.out]), ((Below.refl _ _).alloc (Nat.le_refl _) _).alloc (by simp) _⟩
  ·by_cases r0 : 0 ≤ x.rg
   ·have r1 : decide (0 ≤ x.rg) = true := decide_eq_true r0
    by_cases r8 : x.rg < 8
    ·have r2 : decide (x.rg < 8) = true := decide_eq_true r8
     have hrest : rest15 x = ⟨x.th, x.kd, x.rg, 0, 0⟩ := by (rw [HRS.out]; simp [r0, r8])
     have hq : ∀ w : World, (binOp .eql 43 (.agg #[.int .i64 x.th, .int .i64 x.kd, .int .i64 (x.rg), .int .u64 ((0 : Nat) : Int), .int .u64 ((0 : Nat) : Int)]) (.agg (evC x))).run Tryz.prog w = .ok (.bool D) w := fun w => ev_leaf hrest HD.out w
     simp only [Int.natCast_zero] at hq
     have hg := evGuard
     clear hrest
     go_enter Tryz.func72, Tryz.ntmps72
     go_wp2_with fail
     refine (HK.out _).mono ?_
     rintro e w2 ⟨rfl, rfl⟩
     go_wp2_with fail
     refine (HR.out _).mono ?_
     rintro e w2 ⟨rfl, rfl⟩
     go_wp2_with fail
     refine (HT.out _).mono ?_
     rintro e w2 ⟨rfl, rfl⟩
     go_wp2_with fail
     refine (HV.out _).mono ?_
     rintro e w2 ⟨rfl, rfl⟩
     go_wp2
     go_ret
     exact ⟨ret_bool (by rw [HRE.out]), ((Below.refl _ _).alloc (Nat.le_refl _) _).alloc (by simp) _⟩
    ·have r2 : decide (x.rg < 8) = false := decide_eq_false r8
     have hrest : rest15 x = ⟨x.th, x.kd, 0, 0, 0⟩ := by (rw [HRS.out]; simp [r0, r8])
     have hq : ∀ w : World, (binOp .eql 43 (.agg #[.int .i64 x.th, .int .i64 x.kd, .int .i64 (0), .int .u64 ((0 : Nat) : Int), .int .u64 ((0 : Nat) : Int)]) (.agg (evC x))).run Tryz.prog w = .ok (.bool D) w := fun w => ev_leaf hrest HD.out w
     simp only [Int.natCast_zero] at hq
     have hg := evGuard
     clear hrest
     go_enter Tryz.func72, Tryz.ntmps72
     go_wp2_with fail
     refine (HK.out _).mono ?_
     rintro e w2 ⟨rfl, rfl⟩
     go_wp2_with fail
     refine (HR.out _).mono ?_
     rintro e w2 ⟨rfl, rfl⟩
     go_wp2_with fail
     refine (HT.out _).mono ?_
     rintro e w2 ⟨rfl, rfl⟩
     go_wp2_with fail
     refine (HV.out _).mono ?_
     rintro e w2 ⟨rfl, rfl⟩
     go_wp2
     go_ret
     exact ⟨ret_bool (by rw [HRE.out]), ((Below.refl _ _).alloc (Nat.le_refl _) _).alloc (by simp) _⟩
   ·have r1 : decide (0 ≤ x.rg) = false := decide_eq_false r0
    have hrest : rest15 x = ⟨x.th, x.kd, 0, 0, 0⟩ := by (rw [HRS.out]; simp [r0])
    have hq : ∀ w : World, (binOp .eql 43 (.agg #[.int .i64 x.th, .int .i64 x.kd, .int .i64 (0), .int .u64 ((0 : Nat) : Int), .int .u64 ((0 : Nat) : Int)]) (.agg (evC x))).run Tryz.prog w = .ok (.bool D) w := fun w => ev_leaf hrest HD.out w
    simp only [Int.natCast_zero] at hq
    have hg := evGuard
    clear hrest
    go_enter Tryz.func72, Tryz.ntmps72
    go_wp2_with fail
    refine (HK.out _).mono ?_
    rintro e w2 ⟨rfl, rfl⟩
    go_wp2_with fail
    refine (HR.out _).mono ?_
    rintro e w2 ⟨rfl, rfl⟩
    go_wp2_with fail
    refine (HT.out _).mono ?_
    rintro e w2 ⟨rfl, rfl⟩
    go_wp2_with fail
    refine (HV.out _).mono ?_
    rintro e w2 ⟨rfl, rfl⟩
    go_wp2
    go_ret
    exact ⟨ret_bool (by rw [HRE.out]), ((Below.refl _ _).alloc (Nat.le_refl _) _).alloc (by simp) _⟩
  ·have hrest : rest15 x = ⟨x.th, x.kd, 0, 0, x.vl⟩ := by (rw [HRS.out]; simp)
   have hq : ∀ w : World, (binOp .eql 43 (.agg #[.int .i64 x.th, .int .i64 x.kd, .int .i64 (0), .int .u64 ((0 : Nat) : Int), .int .u64 ((x.vl : Nat) : Int)]) (.agg (evC x))).run Tryz.prog w = .ok (.bool D) w := fun w => ev_leaf hrest HD.out w
   simp only [Int.natCast_zero] at hq
   have hg := evGuard
   clear hrest
   go_enter Tryz.func72, Tryz.ntmps72
   go_wp2_with fail
   refine (HK.out _).mono ?_
   rintro e w2 ⟨rfl, rfl⟩
   go_wp2_with fail
   refine (HR.out _).mono ?_
   rintro e w2 ⟨rfl, rfl⟩
   go_wp2_with fail
   refine (HT.out _).mono ?_
   rintro e w2 ⟨rfl, rfl⟩
   go_wp2_with fail
   refine (HV.out _).mono ?_
   rintro e w2 ⟨rfl, rfl⟩
   go_wp2
   go_ret
   exact ⟨ret_bool (by rw [HRE.out]), ((Below.refl _ _).alloc (Nat.le_refl _) _).alloc (by simp) _⟩
  ·have hrest : rest15 x = ⟨x.th, x.kd, 0, 0, 0⟩ := by (rw [HRS.out]; simp)
   have hq : ∀ w : World, (binOp .eql 43 (.agg #[.int .i64 x.th, .int .i64 x.kd, .int .i64 (0), .int .u64 ((0 : Nat) : Int), .int .u64 ((0 : Nat) : Int)]) (.agg (evC x))).run Tryz.prog w = .ok (.bool D) w := fun w => ev_leaf hrest HD.out w
   simp only [Int.natCast_zero] at hq
   have hg := evGuard
   clear hrest
   go_enter Tryz.func72, Tryz.ntmps72
   go_wp2_with fail
   refine (HK.out _).mono ?_
   rintro e w2 ⟨rfl, rfl⟩
   go_wp2_with fail
   refine (HR.out _).mono ?_
   rintro e w2 ⟨rfl, rfl⟩
   go_wp2_with fail
   refine (HT.out _).mono ?_
   rintro e w2 ⟨rfl, rfl⟩
   go_wp2_with fail
   refine (HV.out _).mono ?_
   rintro e w2 ⟨rfl, rfl⟩
   go_wp2
   go_ret
   exact ⟨ret_bool (by rw [HRE.out]), ((Below.refl _ _).alloc (Nat.le_refl _) _).alloc (by simp) _⟩
section
variable {w w' : World} {B F : Nat} {f : Fb} {z : Fv}
theorem owns_form {e : TypeId} {sz n : Nat} {v : Value} {xs : List Value} (h : w.ownsRow B e sz v n xs) : ∃ A c, v = .slice A n c ∧ n ≤ c ∧ c ≤ 9223372036854775807 := by
 rcases owns_row h with ⟨rfl, rfl, _⟩ | ⟨r, cap, cur, rfl, _, _, h1, h2⟩
 ·exact ⟨none, 0, rfl, Nat.le_refl _, by decide⟩
 ·unfold maxLen at h2
  exact ⟨_, _, rfl, h1, by omega⟩
theorem FabAt.cells (h : FabAt w B F f z) : w.cell? ⟨F, 0, none⟩ = some (.slice z.A f.p.rs.length z.c) ∧ w.cell? ⟨F, 1, none⟩ = some (.slice z.Q f.p.ts.length z.d) ∧ w.cell? ⟨F, 2, none⟩ = some z.tv ∧ w.cell? ⟨F, 3, none⟩ = some z.sv ∧ w.cell? ⟨F, 4, none⟩ = some z.lv ∧
  w.cell? ⟨F, 5, none⟩ = some (.int .u64 (f.now : Int)) ∧ w.cell? ⟨F, 6, none⟩ = some (.int .u64 (f.rds : Int)) ∧ w.cell? ⟨F, 7, none⟩ = some (.bool f.en) :=
 ⟨h.box.cell 0, h.box.cell 1, h.box.cell 2, h.box.cell 3, h.box.cell 4, h.box.cell 5, h.box.cell 6, h.box.cell 7⟩
theorem FabAt.forms (h : FabAt w B F f z) (ok : FbOk f) : ∃ T ct S cs L cl, z.tv = .slice T f.p.ts.length ct ∧ z.sv = .slice S f.p.ts.length cs ∧ z.lv = .slice L f.p.rs.length cl ∧ (f.p.ts.length ≤ ct ∧ ct ≤ 9223372036854775807) ∧ (f.p.ts.length ≤ cs ∧ cs ≤ 9223372036854775807) ∧ (f.p.rs.length ≤ cl ∧ cl ≤ 9223372036854775807) := by
 obtain ⟨T, ct, e1, a1, a2⟩ := owns_form h.tr
 obtain ⟨S, cs, e2, b1, b2⟩ := owns_form h.sr.row
 obtain ⟨xs, h3⟩ := h.lr.owns
 obtain ⟨L, cl, e3, c1, c2⟩ := owns_form h3
 rw [ok.tl] at e1 a1
 rw [ok.sl] at e2 b1
 rw [ok.ll] at e3 c1
 exact ⟨T, ct, S, cs, L, cl, e1, e2, e3, ⟨a1, a2⟩, ⟨b1, b2⟩, ⟨c1, c2⟩⟩
def hasF (f : Fb) (t : Int) : Bool := decide (0 ≤ t) && decide (t < (f.p.ts.length : Int))
set_option maxHeartbeats 1000000 in
theorem fbHas (t : Int) (h : FabAt w B F f z) (ok : FbOk f) : Calls Tryz.prog 62 #[.pointer (some ⟨F, 0, none⟩), .int .i64 t] w fun e w' => e = .returned (.bool (hasF f t)) ∧ w = w' := by
 obtain ⟨c0, c1, c2, c3, c4, c5, c6, c7⟩ := h.cells
 obtain ⟨T, ct, S, cs, L, cl, e1, _, _, ⟨a1, a2⟩, _, _⟩ := h.forms ok
 rw [e1] at c2
 have hlt := h.lt
 have HX : Hid (hasF f t = (decide (0 ≤ t) && decide (t < (f.p.ts.length : Int)))) := rfl
 clear c0 c1 c3 c4 c5 c6 c7 h ok e1
 by_cases ht : 0 ≤ t
 ·have e0 : decide (0 ≤ t) = true := decide_eq_true ht
  go_enter Tryz.func62, Tryz.ntmps62
  go_wp2
  go_ret
  exact ⟨ret_bool (by rw [HX.out, e0, Bool.true_and]), rfl⟩
 ·have e0 : decide (0 ≤ t) = false := decide_eq_false ht
  go_enter Tryz.func62, Tryz.ntmps62
  go_wp2
  go_ret
  exact ⟨ret_bool (by rw [HX.out, e0, Bool.false_and]), rfl⟩
def namesF (f : Fb) (e : Ev) : Int := if rightE e = true then if hasF f e.th = true then 0 else 5 else 3
set_option maxHeartbeats 1000000 in
theorem fbNames (e : Ev) (h : FabAt w B F f z) (ok : FbOk f) : Calls Tryz.prog 45 #[.pointer (some ⟨F, 0, none⟩), .agg (evC e)] w fun q w' => q = .returned (.int .i64 (namesF f e)) ∧ Below w.heap.size w w' := by
 have hb := (Below.refl w.heap.size w).alloc (Nat.le_refl _) (.cells (evC e) 43)
 have lb := Lies.made w 43 (evC e)
 have h1 := h.later hb
 have c0 := (lb.cell 0).trans (show _ = some (Value.int .i64 e.th) from rfl)
 have c1 := (lb.cell 1).trans (show _ = some (Value.int .i64 e.kd) from rfl)
 have c2 := (lb.cell 2).trans (show _ = some (Value.int .i64 e.rg) from rfl)
 have c3 := (lb.cell 3).trans (show _ = some (Value.int .u64 (e.tk : Int)) from rfl)
 have c4 := (lb.cell 4).trans (show _ = some (Value.int .u64 (e.vl : Int)) from rfl)
 have HB := Lib.hid hb
 have H1 := Lib.hid h1
 have LB := Lib.hid lb
 have HX : Hid (namesF f e = if rightE e = true then if hasF f e.th = true then 0 else 5 else 3) := rfl
 have OK := Lib.hid ok
 clear hb h1 lb h ok
 go_enter Tryz.func45, Tryz.ntmps45
 go_wp2_with fail
 refine (right15 e _).mono ?_
 rintro q w3 ⟨rfl, hb3⟩
 clear c0 c1 c2 c3 c4
 have H3 := Lib.hid (H1.out.later hb3)
 have L3 := Lib.hid (LB.out.below hb3 LB.out.lt)
 have HB3 := Lib.hid (HB.out.trans (hb3.mono HB.out.size))
 have c0 := (L3.out.cell 0).trans (show _ = some (Value.int .i64 e.th) from rfl)
 clear hb3 H1 LB HB
 obtain ⟨rb, hrb⟩ : ∃ rb, rightE e = rb := ⟨_, rfl⟩
 rw [hrb] at HX ⊢
 clear hrb
 cases rb
 ·go_wp2
  go_ret
  exact ⟨by rw [HX.out]; rfl, HB3.out⟩
 ·go_wp2_with fail
  refine (fbHas e.th H3.out OK.out).mono ?_
  rintro q w4 ⟨rfl, rfl⟩
  obtain ⟨hb, hhb⟩ : ∃ hb, hasF f e.th = hb := ⟨_, rfl⟩
  rw [hhb] at HX ⊢
  clear hhb
  cases hb
  ·go_wp2
   go_ret
   exact ⟨by rw [HX.out]; rfl, HB3.out⟩
  ·go_wp2
   go_ret
   exact ⟨by rw [HX.out]; rfl, HB3.out⟩
end
end Go.Proofs.YtdffpbfebgcmaaaGreat
