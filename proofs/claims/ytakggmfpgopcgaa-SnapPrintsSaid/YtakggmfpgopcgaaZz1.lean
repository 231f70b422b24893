import Derived.WalkKit
import Derived.ProofKit
import Derived.Lib.Hide
import Derived.Lib.AppendStr
import Derived.Lib.SlBytesRow
import Derived.Laws.AppendOwnNone
import Derived.Deep.AppendLies
import Derived.Deep.Draws
import Derived.BigQuiet
import Derived.Deep.QuietTactic
import Derived.Deep.RegionWith
import Derived.OpenShut
import Derived.Outline
import Derived.Deep.Slices
import Derived.ChangeSame
import Derived.Laws.IdiomStrings
import Derived.SliceStrings
import Derived.Laws.DeepStrings4
import Derived.SizedLaws
import Derived.Laws.OwnMore
import Derived.Test.YtakggmfpgopcgaaRows
import Derived.Deep.DeepCutAuto
import Derived.Deep.OwnRows
import Derived.IntWalk
import Derived.Lib.BufferRead
import Derived.Laws.BitsAllLaws
import Derived.Laws.Bits64
import Derived.Laws.Bits64b
import Derived.Lib.SliceRun
import Derived.Deep.RegionHeld
import Derived.Great.BuildSlice
import Derived.Deep.MidRow
import Derived.Laws.StructEq
import Derived.StillTailTactics
import Derived.ShutString
import Derived.ChangeOld
import Derived.Below
namespace Go.Proofs.Ytakggmfpgopcgaa
open Go.RowKit
set_option linter.unusedVariables false
set_option linter.unusedSimpArgs false
theorem then_ {w w1 w2 : World} (h : Below w.heap.size w w1) (h2 : Below w1.heap.size w1 w2) : Below w.heap.size w w2 := h.trans (h2.mono h.size)
theorem below_of_grown {w w' : World} {base : Nat} {e : TypeId} {size : Nat} {v : Value} {n : Nat} {xs : List Value} {o : Obj}
  (hown : w.ownsRow base e size v n xs) (hb : base ≤ w.heap.size) (hg : (w.alloc o).grownBy w' v.ownBlock) : Below base w w' :=
 ((Below.refl _ _).alloc hb o).grown hg (by simp; omega) (fun k hk => by have := hown.lt k hk; omega)
theorem append_one {P : Program} {ops : Array Oper} {rest : List Oper} {o : Oper} {a : Act} {Q : Exit → Act → World → Prop} (w : World) (x : Value)
  (hg : o.guard = none) (s y : Operand) (t : TypeId) (hop : o.op = Op.call { callee := Callee.builtin Builtin.append, args := #[s, y], argTypes := #[t, t] })
  (base : Nat) (e : TypeId) (z : Value) (bytes : Nat) (ht : P.underlying t = some (.slice e)) (hi : (P.info? e).map (fun i => (i.zero, i.size, i.bytes)) = some (some z, 1, bytes))
  (hzs : z.cells.size = 1) (hx1 : x.oneCell' = true)
  (v : Value) (n : Nat) (xs : List Value) (hs : a.eval s = v) (hown : w.ownsRow base e 1 v n xs) (hy : a.eval y = .slice (some ⟨w.heap.size, 0, none⟩) 1 1)
  (b1 : n + 1 ≤ maxLen) (b2 : (n + 1) * bytes ≤ 140737488355328) (b3 : base ≤ w.heap.size)
  (hK : ∀ v' w', w'.ownsRow base e 1 v' (n + 1) (xs ++ [x]) → Below base w w' → (w.alloc (.cells #[x] e)).grownBy w' v.ownBlock → wpList P ops Q rest (a.put o.dst v') w') :
  wpList P ops Q (o :: rest) a (w.alloc (.cells #[x] e)) := by
 obtain ⟨i0, hi, hz0, hz1, hz2⟩ := info_parts hi
 refine wpList_append_own _ hg s y t hop base e i0 z 1 bytes ht hi hz0 hz1 hz2 hzs (by decide) v n xs hs (hown.alloc _) ⟨w.heap.size, 0, none⟩ 1 1 [x] hy rfl ?_ ?_ b1 b2 (by simp; omega) ?_
 ·intro j u hj
  match j, hj with
  | 0, hj => simp at hj; subst hj; simp [Addr.add, World.cell?_alloc_at]
 ·intro u hu; simp at hu; subst hu; exact hx1
 ·intro v' w' ho hgr _
  exact hK v' w' ho (below_of_grown hown b3 hgr) hgr
theorem addr_add (g j : Nat) : (⟨g, 0, none⟩ : Addr).add j = ⟨g, j, none⟩ := by unfold Addr.add; split <;> simp_all
theorem ownsRow_open {w : World} {base : Nat} {e : TypeId} {v : Value} {n : Nat} {xs : List Value} (h : w.ownsRow base e 1 v n xs) (hn : 0 < n) :
  ∃ g cap, v = .slice (some ⟨g, 0, none⟩) n cap ∧ base ≤ g ∧ g < w.heap.size ∧ n ≤ cap ∧ cap ≤ maxLen ∧ ∀ j u, xs[j]? = some u → w.cell? ⟨g, j, none⟩ = some u := by
 rcases h.2 with ⟨_, rfl⟩ | ⟨g, cap, cur, rfl, hb, hg, hc, hm, _, ht⟩
 ·omega
 ·refine ⟨g, cap, rfl, hb, (Array.getElem?_eq_some_iff.1 hg).1, hc, hm, fun j u hu => ?_⟩
  have := h.cells (g := g) rfl j u hu
  rwa [addr_add] at this
theorem ret_int {k : IntKind} {a b : Int} (h : a = b) : Ending.returned (.int k a) = .returned (.int k b) := by rw [h]
theorem ret_bool {a b : Bool} (h : a = b) : Ending.returned (.bool a) = .returned (.bool b) := by rw [h]
def Lies (w : World) (g : Nat) (t : TypeId) (cs : Array Value) : Prop := w.heap[g]? = some (.cells cs t (0, 0))
theorem Lies.lt {w : World} {g : Nat} {t : TypeId} {cs : Array Value} (h : Lies w g t cs) : g < w.heap.size := by
 unfold Lies at h
 exact (Array.getElem?_eq_some_iff.1 h).1
theorem Lies.cell {w : World} {g : Nat} {t : TypeId} {cs : Array Value} (h : Lies w g t cs) (i : Nat) : w.cell? ⟨g, i, none⟩ = cs[i]? := by
 unfold Lies at h
 simp [World.cell?, h]
theorem Lies.free {w : World} {g : Nat} {t : TypeId} {cs : Array Value} (h : Lies w g t cs) (i : Nat) : w.frozen? ⟨g, i, none⟩ = false := by
 unfold Lies at h
 simp [World.frozen?, h]
theorem Lies.made (w : World) (t : TypeId) (cs : Array Value) : Lies (w.alloc (.cells cs t)) w.heap.size t cs := heap_alloc_new w _
theorem Lies.put {w : World} {g : Nat} {t : TypeId} {cs : Array Value} (h : Lies w g t cs) (i : Nat) (u : Value) : Lies (w.setCell ⟨g, i, none⟩ u) g t (cs.setIfInBounds i u) := by
 unfold Lies at h ⊢
 simp [World.setCell, Array.getElem?_modify, h]
theorem Lies.same {w : World} {g : Nat} {t t' : TypeId} {cs cs' : Array Value} (h : Lies w g t cs) (h' : Lies w g t' cs') : t = t' ∧ cs = cs' := by
 unfold Lies at h h'
 rw [h] at h'
 injection h' with h'
 injection h' with h1 h2 _
 exact ⟨h2, h1⟩
structure Kept (S : Nat → Prop) (w1 w2 : World) : Prop where
 os : w2.os = w1.os
 tape : w2.tape = w1.tape
 output : w2.output = w1.output
 size : w1.heap.size ≤ w2.heap.size
 at_ : ∀ k, k < w1.heap.size → ¬ S k → w2.heap[k]? = w1.heap[k]?
def noRow : Nat → Prop := fun _ => False
def oneRow (g : Nat) : Nat → Prop := fun k => k = g
theorem Kept.refl (S : Nat → Prop) (w : World) : Kept S w w := ⟨rfl, rfl, rfl, Nat.le_refl _, fun _ _ _ => rfl⟩
theorem Kept.trans {S T : Nat → Prop} {a b c : World} (h : Kept S a b) (k : Kept T b c) (hs : ∀ i, i < a.heap.size → T i → S i) : Kept S a c :=
 ⟨k.os.trans h.os, k.tape.trans h.tape, k.output.trans h.output, Nat.le_trans h.size k.size, fun i hi hn =>
  (k.at_ i (Nat.lt_of_lt_of_le hi h.size) (fun ht => hn (hs i hi ht))).trans (h.at_ i hi hn)⟩
theorem Kept.mono {S T : Nat → Prop} {a b : World} (h : Kept S a b) (hs : ∀ i, i < a.heap.size → S i → T i) : Kept T a b :=
 ⟨h.os, h.tape, h.output, h.size, fun i hi hn => h.at_ i hi (fun ht => hn (hs i hi ht))⟩
theorem Kept.drewN (S : Nat → Prop) (w : World) (n : Nat) : Kept S w (w.drewN n) := ⟨rfl, rfl, rfl, Nat.le_refl _, fun _ _ _ => rfl⟩
theorem Kept.alloc (S : Nat → Prop) (w : World) (o : Obj) : Kept S w (w.alloc o) := ⟨rfl, rfl, rfl, by simp, fun _ hk _ => heap_alloc_old w o hk⟩
theorem Kept.put (w : World) (g i : Nat) (u : Value) : Kept (oneRow g) w (w.setCell ⟨g, i, none⟩ u) :=
 ⟨rfl, rfl, rfl, by simp, fun k _ hn => Below.heap_setCell _ _ _ _ (fun e => hn e)⟩
theorem Kept.of_grown {w w' : World} {row : Option Nat} (h : w.grownBy w' row) : Kept (fun k => row = some k) w w' :=
 ⟨h.os, h.tape, h.output, h.size, fun k hk hn => h.block k hk (fun e => hn e.symm)⟩
theorem Kept.of_below {w w' : World} (h : Below w.heap.size w w') : Kept noRow w w' := ⟨h.os, h.tape, h.output, h.size, fun k hk _ => h.block k hk⟩
theorem Kept.below {S : Nat → Prop} {B : Nat} {w w' : World} (h : Kept S w w') (hB : B ≤ w.heap.size) (hs : ∀ k, k < B → ¬ S k) : Below B w w' :=
 ⟨h.os, h.tape, h.output, h.size, fun k hk => h.at_ k (by omega) (hs k hk)⟩
section
variable {S : Nat → Prop} {w w' : World} {g : Nat} {t : TypeId} {cs : Array Value} {B : Nat} {e : TypeId} {size : Nat} {v : Value} {n : Nat} {xs : List Value}
theorem Lies.kept (h : Lies w g t cs) (k : Kept S w w') (hn : ¬ S g) : Lies w' g t cs := (k.at_ g h.lt hn).trans h
theorem Lies.below (h : Lies w g t cs) (k : Below B w w') (hg : g < B) : Lies w' g t cs := (k.block g hg).trans h
theorem Lies.drewN (h : Lies w g t cs) (m : Nat) : Lies (w.drewN m) g t cs := h
theorem Lies.alloc (h : Lies w g t cs) (o : Obj) : Lies (w.alloc o) g t cs := (heap_alloc_old w o h.lt).trans h
theorem Lies.far (h : Lies w g t cs) {p : Addr} (hp : g ≠ p.block) (u : Value) : Lies (w.setCell p u) g t cs := (Below.heap_setCell w p u g hp).trans h
theorem owns_row (h : w.ownsRow B e size v n xs) : (v = .slice none 0 0 ∧ n = 0 ∧ xs = []) ∨ ∃ r cap cur, v = .slice (some ⟨r, 0, none⟩) n cap ∧ B ≤ r ∧ Lies w r e cur ∧ n ≤ cap ∧ cap ≤ maxLen := by
 rcases h.2 with ⟨rfl, rfl⟩ | ⟨r, cap, cur, rfl, hb, hh, h1, h2, _⟩
 ·exact .inl ⟨rfl, rfl, by have := h.1; simpa using this⟩
 ·exact .inr ⟨r, cap, cur, rfl, hb, hh, h1, h2⟩
theorem owns_kept (h : w.ownsRow B e size v n xs) (k : Kept S w w') (hn : ∀ r cur, v.ownBlock = some r → Lies w r e cur → ¬ S r) : w'.ownsRow B e size v n xs := by
 refine ⟨h.1, ?_⟩
 rcases h.2 with h2 | ⟨r, cap, cur, rfl, hb, hh, rest⟩
 ·exact .inl h2
 ·exact .inr ⟨r, cap, cur, rfl, hb, (k.at_ r (Array.getElem?_eq_some_iff.1 hh).1 (hn r cur rfl hh)).trans hh, rest⟩
theorem owns_put (h : w.ownsRow B e size v n xs) (hg : Lies w g t cs) (hne : e ≠ t) (i : Nat) (u : Value) : (w.setCell ⟨g, i, none⟩ u).ownsRow B e size v n xs :=
 owns_kept h (Kept.put w g i u) (fun r cur _ hl hr => by
  have : r = g := hr
  subst this
  exact hne (hl.same hg).1)
theorem own_ne (h : w.ownsRow B e size v n xs) (hl : Lies w g t cs) (hne : e ≠ t) : ¬ v.ownBlock = some g := by
 intro hv
 rcases owns_row h with ⟨rfl, _⟩ | ⟨r, cap, cur, rfl, hr, hl2, _⟩
 ·cases hv
 ·obtain rfl : r = g := by simpa [Value.ownBlock] using hv
  exact hne (hl2.same hl).1
theorem kept_grown {o : Obj} {row : Option Nat} (h : (w.alloc o).grownBy w' row) : Kept (fun k => row = some k) w w' :=
 (Kept.alloc _ w o).trans (Kept.of_grown h) (fun _ _ h => h)
theorem kept_append {a : World} {o : Obj} (k : Kept S a w) (ho : w.ownsRow B e size v n xs) (hB : a.heap.size ≤ B) (h : (w.alloc o).grownBy w' v.ownBlock) : Kept S a w' :=
 k.trans (kept_grown h) (fun i hi hv => by have := (ho.lt i hv).1; omega)
theorem owns_mono (h : w.ownsRow B e size v n xs) {B' : Nat} (hB : B' ≤ B) : w.ownsRow B' e size v n xs := by
 refine ⟨h.1, ?_⟩
 rcases h.2 with h2 | ⟨r, cap, cur, rfl, hb, rest⟩
 ·exact .inl h2
 ·exact .inr ⟨r, cap, cur, rfl, by omega, rest⟩
end
theorem slice_text {P : Program} (T : TypeId) (hT : P.underlying T = some .string) (s : ByteArray) (i j : Nat) (a b : Int) (ha : a = i) (hb : b = j) (hij : i ≤ j) (hj : j ≤ s.size) (W : World) :
  (Instr.slice T (.string s) (some (.int .i64 a)) (some (.int .i64 b)) none).run P W = .ok (.string (s.extract i j)) W := by
 subst ha hb
 rw [run_slice_string_if W T s _ _ _ _ hT, if_pos ⟨by omega, by omega⟩, if_pos ⟨by omega, by omega⟩]
 rfl
theorem addr_plus (b off k : Nat) : (⟨b, off, none⟩ : Addr).add k = ⟨b, off + k, none⟩ := by unfold Addr.add; split <;> simp_all
def SeqAt (w : World) (v : Value) (xs : List Value) : Prop := ∃ A c, v = .slice A xs.length c ∧ xs.length ≤ c ∧ c ≤ maxLen ∧ ∀ k u, xs[k]? = some u → ∃ b off, A = some ⟨b, off, none⟩ ∧ w.cell? ⟨b, off + k, none⟩ = some u
theorem eq_of_data {a b : ByteArray} (h : a.data.toList = b.data.toList) : a = b := ByteArray.ext (Array.toList_inj.1 h)
theorem strCells_append (a b : ByteArray) : Lib.strCells (a ++ b) = Lib.strCells a ++ Lib.strCells b := by
 simp [Lib.strCells]
theorem or_add {a b k : Nat} (ha : a < 2 ^ k) : a ||| b * 2 ^ k = a + b * 2 ^ k := by
 have := Nat.shiftLeft_add_eq_or_of_lt ha b
 rw [Nat.shiftLeft_eq] at this
 rw [Nat.or_comm, ← this, Nat.add_comm]
theorem SeqAt.get {w w' : World} {A : Option Addr} {c n : Nat} {xs : List Value} (h : SeqAt w (.slice A n c) xs) (hb : Below w.heap.size w w') {k : Nat} {u : Value} (hk : xs[k]? = some u) :
  ∃ b off, A = some ⟨b, off, none⟩ ∧ b < w.heap.size ∧ w'.cell? ⟨b, off + k, none⟩ = some u := by
 obtain ⟨A', c', e, _, _, h3⟩ := h
 injection e with e1 e2 e3
 subst e1
 obtain ⟨b, off, e, hc⟩ := h3 k u hk
 have hl := World.block_lt_of_cell? w _ hc
 exact ⟨b, off, e, hl, (hb.cell (p := ⟨b, off + k, none⟩) hl).trans hc⟩
theorem below_drewN {B : Nat} {a w : World} (h : Below B a w) (n : Nat) : Below B a (w.drewN n) := ⟨h.os, h.tape, h.output, h.size, h.block⟩
theorem cell_later {w w' : World} {p : Addr} {v : Value} (h : w.cell? p = some v) (hb : Below w.heap.size w w') : w'.cell? p = some v := (hb.cell (World.block_lt_of_cell? w _ h)).trans h
theorem Kept.drew (S : Nat → Prop) (w : World) : Kept S w w.drew := Kept.drewN S w 1
def SeqS (w : World) (sz : Nat) (v : Value) (n : Nat) (xs : List Value) : Prop :=
 xs.length = n * sz ∧ ∃ A c, v = .slice A n c ∧ n ≤ c ∧ c ≤ maxLen ∧ (A = none → c = 0) ∧ ∀ k u, xs[k]? = some u → ∃ b off, A = some ⟨b, off, none⟩ ∧ w.cell? ⟨b, off + k, none⟩ = some u
section
variable {w w' : World} {B : Nat} {e : TypeId} {sz n : Nat} {v : Value} {xs : List Value}
theorem SeqS.of_owns (h : w.ownsRow B e sz v n xs) : SeqS w sz v n xs := by
 refine ⟨h.1, ?_⟩
 rcases owns_row h with ⟨rfl, h0, rfl⟩ | ⟨r, cap, cur, rfl, _, _, h1, h2⟩
 ·subst h0
  exact ⟨none, 0, rfl, Nat.le_refl _, by unfold maxLen; omega, fun _ => rfl, fun k u hu => by simp at hu⟩
 ·exact ⟨_, cap, rfl, h1, h2, (fun h => by cases h), fun k u hu => ⟨r, 0, rfl, by
   have := h.cells (g := r) rfl k u hu
   rw [addr_add] at this
   rw [Nat.zero_add]; exact this⟩⟩
theorem SeqS.later (h : SeqS w sz v n xs) (hb : Below w.heap.size w w') : SeqS w' sz v n xs := by
 obtain ⟨h1, A, c, rfl, h2, h3, h0, h4⟩ := h
 refine ⟨h1, A, c, rfl, h2, h3, h0, fun k u hu => ?_⟩
 obtain ⟨b, off, rfl, hc⟩ := h4 k u hu
 exact ⟨b, off, rfl, (hb.cell (p := ⟨b, off + k, none⟩) (World.block_lt_of_cell? w _ hc)).trans hc⟩
theorem SeqS.nil (w : World) (sz : Nat) : SeqS w sz (.slice none 0 0) 0 [] := ⟨by simp, none, 0, rfl, Nat.le_refl _, by unfold maxLen; omega, fun _ => rfl, fun k u hu => by simp at hu⟩
theorem SeqS.elem (h : SeqS w sz v n xs) {i : Nat} (hi : i < n) (hz : 0 < sz) : ∃ b off c, v = .slice (some ⟨b, off, none⟩) n c ∧ n ≤ c ∧ c ≤ maxLen ∧ ∀ j u, j < sz → xs[i * sz + j]? = some u → w.cell? ⟨b, off + i * sz + j, none⟩ = some u := by
 obtain ⟨h1, A, c, rfl, h2, h3, _, h4⟩ := h
 have hl : i * sz < xs.length := by rw [h1]; exact Nat.mul_lt_mul_of_pos_right hi hz
 obtain ⟨b, off, rfl, _⟩ := h4 (i * sz) _ (List.getElem?_eq_getElem hl)
 refine ⟨b, off, c, rfl, h2, h3, fun j u hj hu => ?_⟩
 obtain ⟨b', off', e, hc⟩ := h4 _ u hu
 cases e
 rw [Nat.add_assoc]; exact hc
theorem SeqS.form (h : SeqS w sz v n xs) : ∃ A c, v = .slice A n c ∧ n ≤ c ∧ c ≤ maxLen ∧ (A = none → c = 0) := by
 obtain ⟨h1, A, c, rfl, h2, h3, h0, _⟩ := h
 exact ⟨A, c, rfl, h2, h3, h0⟩
end
theorem append_argS {P : Program} {ops : Array Oper} {rest : List Oper} {o : Oper} {a : Act} {Q : Exit → Act → World → Prop} (w : World) (sz : Nat)
  (hg : o.guard = none) (s y : Operand) (t : TypeId) (hop : o.op = Op.call { callee := Callee.builtin Builtin.append, args := #[s, y], argTypes := #[t, t] })
  (base : Nat) (e : TypeId) (z : Value) (bytes : Nat) (ht : P.underlying t = some (.slice e)) (hi : (P.info? e).map (fun i => (i.zero, i.size, i.bytes)) = some (some z, sz, bytes))
  (hzs : z.cells.size = sz) (hsz : 0 < sz)
  (v : Value) (n : Nat) (ys : List Value) (hs : a.eval s = v) (hown : w.ownsRow base e sz v n ys) (A : Option Addr) (len cap : Nat) (hy : a.eval y = .slice A len cap)
  (xs : List Value) (hx : SeqS w sz (.slice A len cap) len xs) (h1 : ∀ u ∈ xs, u.oneCell' = true)
  (b1 : n + len ≤ maxLen) (b2 : (n + len) * bytes ≤ 140737488355328) (b3 : base ≤ w.heap.size)
  (hK : ∀ v' w', w'.ownsRow base e sz v' (n + len) (ys ++ xs) → Below base w w' → w.grownBy w' v.ownBlock → wpList P ops Q rest (a.put o.dst v') w') :
  wpList P ops Q (o :: rest) a w := by
 obtain ⟨i0, hi, hz0, hz1, hz2⟩ := info_parts hi
 obtain ⟨hl, A', c', e1, hlc, hcm, h0, hcell⟩ := hx
 simp only [Value.slice.injEq, true_and] at e1
 obtain ⟨rfl, rfl⟩ := e1
 cases A with
 | none =>
  have hc0 := h0 rfl
  subst hc0
  obtain rfl : len = 0 := by omega
  have hx0 : xs = [] := List.length_eq_zero_iff.1 (by simpa using hl)
  subst hx0
  refine wpList_append_own_none hg s y t hop base e i0 sz ht hi v n ys hs hown hy ?_
  exact hK v w (by simpa using hown) (Below.refl _ _) ⟨rfl, rfl, rfl, Nat.le_refl _, fun _ _ _ => rfl⟩
 | some ad =>
  refine wpList_append_own _ hg s y t hop base e i0 z sz bytes ht hi hz0 hz1 hz2 hzs hsz v n ys hs hown ad len cap xs hy hl ?_ h1 b1 b2 b3 ?_
  ·intro j u hj
   obtain ⟨b, off, he, hc⟩ := hcell j u hj
   injection he with he
   subst he
   rw [addr_plus]; exact hc
  ·intro v' w' ho hgr _
   exact hK v' w' ho ((Below.refl _ _).grown hgr b3 (fun k hk => (hown.lt k hk).1)) hgr
section
variable {α : Type} {f : α → List Value} {sz : Nat}
def rowsOf (f : α → List Value) (l : List α) : List Value := l.flatMap f
theorem rowsOf_length (hf : ∀ x, (f x).length = sz) (l : List α) : (rowsOf f l).length = l.length * sz := by
 induction l with
 | nil => simp [rowsOf]
 | cons a l ih => simp only [rowsOf, List.flatMap_cons, List.length_append, List.length_cons, Nat.add_mul, hf] at *; omega
theorem rowsOf_append (l m : List α) : rowsOf f (l ++ m) = rowsOf f l ++ rowsOf f m := by simp [rowsOf]
theorem rowsOf_one (a : α) : rowsOf f [a] = f a := by simp [rowsOf]
theorem rowsOf_cons (a : α) (l : List α) : rowsOf f (a :: l) = f a ++ rowsOf f l := by simp [rowsOf]
theorem rowsOf_get (hf : ∀ x, (f x).length = sz) : ∀ {l : List α} {i : Nat} {x : α} (_ : l[i]? = some x) {j : Nat} (_ : j < sz), (rowsOf f l)[i * sz + j]? = (f x)[j]?
 | a :: l, 0, x, h, j, hj => by
  simp at h; subst h
  rw [rowsOf_cons, Nat.zero_mul, Nat.zero_add, List.getElem?_append_left (by rw [hf]; exact hj)]
 | a :: l, i + 1, x, h, j, hj => by
  rw [rowsOf_cons, List.getElem?_append_right (by rw [hf, Nat.add_mul]; omega), hf, show (i + 1) * sz + j - sz = i * sz + j by rw [Nat.add_mul]; omega]
  exact rowsOf_get hf (by simpa using h) hj
theorem rowsOf_mem {l : List α} {u : Value} (h : u ∈ rowsOf f l) : ∃ x ∈ l, u ∈ f x := List.mem_flatMap.1 h
theorem SeqS.at_ {w : World} {A : Option Addr} {n c : Nat} {l : List α} (hf : ∀ x, (f x).length = sz) (hs : 0 < sz) (h : SeqS w sz (.slice A n c) n (rowsOf f l)) {k : Nat} {x : α} (hx : l[k]? = some x) :
  ∃ b off, A = some ⟨b, off, none⟩ ∧ b < w.heap.size ∧ ∀ j u, j < sz → (f x)[j]? = some u → w.cell? ⟨b, off + k * sz + j, none⟩ = some u := by
 have hk : k < n := by
  have h1 := h.1
  rw [rowsOf_length hf] at h1
  have := Nat.eq_of_mul_eq_mul_right hs h1
  rw [← this]; exact (List.getElem?_eq_some_iff.1 hx).1
 obtain ⟨b, off, c', hA, _, _, hc⟩ := h.elem (i := k) hk hs
 simp only [Value.slice.injEq] at hA
 obtain ⟨rfl, _, _⟩ := hA
 have hg := fun j u hj hu => hc j u hj (by rw [rowsOf_get hf hx hj]; exact hu)
 refine ⟨b, off, rfl, ?_, hg⟩
 have hl := hf x
 exact World.block_lt_of_cell? w _ (hg 0 _ hs (List.getElem?_eq_getElem (by omega)))
end
structure In where
 op : Int
 a : Int
 b : Int
 c : Int
 d : Int
 k : Nat
instance : Inhabited In := ⟨⟨0, 0, 0, 0, 0, 0⟩⟩
def inF (x : In) : List Value := [.int .i64 x.op, .int .i64 x.a, .int .i64 x.b, .int .i64 x.c, .int .i64 x.d, .int .u64 (x.k : Int)]
abbrev inC (x : In) : Array Value := #[.int .i64 x.op, .int .i64 x.a, .int .i64 x.b, .int .i64 x.c, .int .i64 x.d, .int .u64 (x.k : Int)]
theorem inF_length (x : In) : (inF x).length = 6 := rfl
def i64 (z : Int) : Prop := -9223372036854775808 ≤ z ∧ z ≤ 9223372036854775807
def inOk (x : In) : Prop := i64 x.op ∧ i64 x.a ∧ i64 x.b ∧ i64 x.c ∧ i64 x.d ∧ x.k ≤ 18446744073709551615
structure Ri where
 k : Int
 c : Int
 r : Int
instance : Inhabited Ri := ⟨⟨0, 0, 0⟩⟩
def riF (x : Ri) : List Value := [.int .i64 x.k, .int .i64 x.c, .int .i64 x.r]
abbrev riC (x : Ri) : Array Value := #[.int .i64 x.k, .int .i64 x.c, .int .i64 x.r]
theorem riF_length (x : Ri) : (riF x).length = 3 := rfl
def riOk (x : Ri) : Prop := i64 x.k ∧ i64 x.c ∧ i64 x.r
structure Pg where
 rs : List Ri
 ts : List (List In)
def pgOk (p : Pg) : Prop := (∀ x ∈ p.rs, riOk x) ∧ ∀ l ∈ p.ts, ∀ x ∈ l, inOk x
abbrev InsAt (w : World) (A : Option Addr) (c : Nat) (l : List In) : Prop := SeqS w 6 (.slice A l.length c) l.length (rowsOf inF l)
abbrev RisAt (w : World) (A : Option Addr) (c : Nat) (l : List Ri) : Prop := SeqS w 3 (.slice A l.length c) l.length (rowsOf riF l)
def ThsAt (w : World) (A : Option Addr) (c : Nat) (ts : List (List In)) : Prop :=
 ∃ vs : List Value, SeqS w 1 (.slice A ts.length c) ts.length vs ∧ ∀ (i : Nat) (l : List In), ts[i]? = some l → ∃ B d, vs[i]? = some (Value.slice B l.length d) ∧ InsAt w B d l
def PgAt (w : World) (A : Option Addr) (c : Nat) (B : Option Addr) (d : Nat) (p : Pg) : Prop := RisAt w A c p.rs ∧ ThsAt w B d p.ts
abbrev pgC (A : Option Addr) (c : Nat) (B : Option Addr) (d : Nat) (p : Pg) : Array Value := #[.slice A p.rs.length c, .slice B p.ts.length d]
section
variable {w w' : World} {A B : Option Addr} {c d : Nat} {p : Pg} {ts : List (List In)}
theorem ThsAt.later (h : ThsAt w A c ts) (k : Below w.heap.size w w') : ThsAt w' A c ts := by
 obtain ⟨vs, h1, h2⟩ := h
 refine ⟨vs, h1.later k, fun i l hl => ?_⟩
 obtain ⟨B, d, h3, h4⟩ := h2 i l hl
 exact ⟨B, d, h3, h4.later k⟩
theorem PgAt.later (h : PgAt w A c B d p) (k : Below w.heap.size w w') : PgAt w' A c B d p := ⟨h.1.later k, h.2.later k⟩
theorem seq_form {sz n : Nat} {xs : List Value} (h : SeqS w sz (.slice A n c) n xs) : n ≤ c ∧ c ≤ 9223372036854775807 := by
 obtain ⟨A', c', e, h1, h2, _⟩ := h.form
 simp only [Value.slice.injEq, true_and] at e
 obtain ⟨rfl, rfl⟩ := e
 unfold maxLen at h2
 exact ⟨h1, h2⟩
theorem ThsAt.form (h : ThsAt w A c ts) : ts.length ≤ c ∧ c ≤ 9223372036854775807 := by
 obtain ⟨vs, h1, _⟩ := h
 exact seq_form h1
theorem ThsAt.at_ (h : ThsAt w A c ts) {i : Nat} {l : List In} (hl : ts[i]? = some l) : ∃ b off B d, A = some ⟨b, off, none⟩ ∧ w.cell? ⟨b, off + i, none⟩ = some (.slice B l.length d) ∧ InsAt w B d l := by
 obtain ⟨vs, h1, h2⟩ := h
 obtain ⟨B, d, h3, h4⟩ := h2 i l hl
 obtain ⟨_, A', c', e, _, _, _, hc⟩ := h1
 simp only [Value.slice.injEq, true_and] at e
 obtain ⟨rfl, rfl⟩ := e
 obtain ⟨b, off, e2, hc⟩ := hc i _ h3
 exact ⟨b, off, B, d, e2, hc, h4⟩
theorem InsAt.at_ {l : List In} (h : InsAt w A c l) {i : Nat} {x : In} (hx : l[i]? = some x) : ∃ b off, A = some ⟨b, off, none⟩ ∧ b < w.heap.size ∧ ∀ j u, j < 6 → (inF x)[j]? = some u → w.cell? ⟨b, off + i * 6 + j, none⟩ = some u :=
 SeqS.at_ inF_length (by decide) h hx
theorem RisAt.at_ {l : List Ri} (h : RisAt w A c l) {i : Nat} {x : Ri} (hx : l[i]? = some x) : ∃ b off, A = some ⟨b, off, none⟩ ∧ b < w.heap.size ∧ ∀ j u, j < 3 → (riF x)[j]? = some u → w.cell? ⟨b, off + i * 3 + j, none⟩ = some u :=
 SeqS.at_ riF_length (by decide) h hx
end
def opB (op : Int) : Bool := decide (1 ≤ op ∧ op ≤ 25)
def gL (op : Int) : Int × Int × Int × Int :=
 if op = 1 then (7, 0, 0, 0) else if op = 2 then (7, 7, 0, 0) else if op = 23 then (7, 7, 0, 0) else if op = 15 then (0, 0, 0, 0) else
 if op = 16 then (7, 0, 0, 0) else if op = 17 then (7, 0, 0, 0) else if op = 18 then (7, 7, 7, 2) else if op = 19 then (7, 7, 7, 2) else if op = 20 then (0, 0, 7, 0) else
 if op = 21 then (7, 0, 0, 0) else if op = 22 then (7, 0, 0, 0) else if op = 24 then (7, 0, 0, 0) else if op = 25 then (0, 0, 0, 0) else (7, 7, 7, 0)
def gK (op : Int) : Nat :=
 if op = 1 then 18446744073709551615 else if op = 15 then 256 else if op = 16 then 256 else if op = 17 then 256 else if op = 19 then 7 else 0
def wB (n m : Int) : Bool := decide (0 ≤ n) && decide (n ≤ m)
def kB (x : In) : Bool := decide (x.k ≤ gK x.op)
def rightB (x : In) : Bool := opB x.op && (wB x.a (gL x.op).1 && (wB x.b (gL x.op).2.1 && (wB x.c (gL x.op).2.2.1 && (wB x.d (gL x.op).2.2.2 && kB x))))
def jumpsB (op : Int) : Bool := decide (15 ≤ op) && decide (op ≤ 17)
def onRingB (op : Int) : Bool := op == 18 || (op == 19 || op == 20)
theorem gK_wf (op : Int) : gK op ≤ 18446744073709551615 := by
 unfold gK
 repeat' split
 all_goals decide
theorem within_any (n m : Int) (w : World) : Calls Try.prog 93 #[.int .i64 n, .int .i64 m] w fun e w' => e = .returned (.bool (wB n m)) ∧ w = w' := by
 unfold wB
 by_cases h : (0 : Int) ≤ n
 ·have e1 : decide ((0 : Int) ≤ n) = true := by simpa using h
  go_enter Try.func93, Try.ntmps93
  go_wp2
  go_ret
  exact ⟨by simp [h], rfl⟩
 ·have e1 : decide ((0 : Int) ≤ n) = false := by simpa using h
  go_enter Try.func93, Try.ntmps93
  go_wp2
  go_ret
  exact ⟨by simp [h], rfl⟩
theorem plain_any (n : Int) (w : World) : Calls Try.prog 90 #[.int .i64 n] w fun e w' => e = .returned (.bool (decide (1 ≤ n) && decide (n ≤ 17))) ∧ w = w' := by
 by_cases h : (1 : Int) ≤ n
 ·have e1 : decide ((1 : Int) ≤ n) = true := by simpa using h
  go_enter Try.func90, Try.ntmps90
  go_wp2
  go_ret
  exact ⟨by simp [h], rfl⟩
 ·have e1 : decide ((1 : Int) ≤ n) = false := by simpa using h
  go_enter Try.func90, Try.ntmps90
  go_wp2
  go_ret
  exact ⟨by simp [h], rfl⟩
theorem seen_any (n : Int) (w : World) : Calls Try.prog 91 #[.int .i64 n] w fun e w' => e = .returned (.bool (decide (18 ≤ n) && decide (n ≤ 25))) ∧ w = w' := by
 by_cases h : (18 : Int) ≤ n
 ·have e1 : decide ((18 : Int) ≤ n) = true := by simpa using h
  go_enter Try.func91, Try.ntmps91
  go_wp2
  go_ret
  exact ⟨by simp [h], rfl⟩
 ·have e1 : decide ((18 : Int) ≤ n) = false := by simpa using h
  go_enter Try.func91, Try.ntmps91
  go_wp2
  go_ret
  exact ⟨by simp [h], rfl⟩
def gV (op : Int) : Value := .agg #[.int .i64 0, .int .i64 (gL op).1, .int .i64 (gL op).2.1, .int .i64 (gL op).2.2.1, .int .i64 (gL op).2.2.2, .int .u64 (gK op : Int)]
set_option maxHeartbeats 8000000 in
theorem greatest_lit (op : Int) (w : World) (h : op = 1 ∨ op = 2 ∨ op = 3 ∨ op = 4 ∨ op = 5 ∨ op = 6 ∨ op = 7 ∨ op = 8 ∨ op = 9 ∨ op = 10 ∨ op = 11 ∨ op = 12 ∨ op = 13 ∨ op = 14 ∨ op = 15 ∨ op = 16 ∨ op = 17 ∨ op = 18 ∨ op = 19 ∨ op = 20 ∨ op = 21 ∨ op = 22 ∨ op = 23 ∨ op = 24 ∨ op = 25) :
  Calls Try.prog 92 #[.int .i64 op] w fun e w' => e = .returned (gV op) ∧ Below w.heap.size w w' := by
 rcases h with rfl | rfl | rfl | rfl | rfl | rfl | rfl | rfl | rfl | rfl | rfl | rfl | rfl | rfl | rfl | rfl | rfl | rfl | rfl | rfl | rfl | rfl | rfl | rfl | rfl
 all_goals
  go_enter Try.func92, Try.ntmps92
  go_wp2
  refine bodyPost_ret (v := gV _) (by simp [results, Try.results92, go_sem, gV, gL, gK]) rfl ⟨rfl, ?_⟩
  repeat (first | exact (Below.refl _ _).alloc (Nat.le_refl _) _ | refine Below.setCell ?_ (by simp) _)
theorem op_lit {op : Int} (h : opB op = true) : op = 1 ∨ op = 2 ∨ op = 3 ∨ op = 4 ∨ op = 5 ∨ op = 6 ∨ op = 7 ∨ op = 8 ∨ op = 9 ∨ op = 10 ∨ op = 11 ∨ op = 12 ∨ op = 13 ∨ op = 14 ∨ op = 15 ∨ op = 16 ∨ op = 17 ∨ op = 18 ∨ op = 19 ∨ op = 20 ∨ op = 21 ∨ op = 22 ∨ op = 23 ∨ op = 24 ∨ op = 25 := by
 have := of_decide_eq_true h
 omega
theorem op_split (op : Int) : opB op = ((decide (1 ≤ op) && decide (op ≤ 17)) || (decide (18 ≤ op) && decide (op ≤ 25))) := by
 unfold opB
 rw [Bool.eq_iff_iff]
 simp only [Bool.or_eq_true, Bool.and_eq_true, decide_eq_true_eq]
 omega
theorem jumps_any (x : In) (w : World) : Calls Try.prog 82 #[.agg (inC x)] w fun e w' => e = .returned (.bool (jumpsB x.op)) ∧ Below w.heap.size w w' := by
 unfold jumpsB
 have hb : Below w.heap.size w (w.alloc (.cells (inC x) 42)) := (Below.refl _ _).alloc (Nat.le_refl _) _
 by_cases h : (15 : Int) ≤ x.op
 ·have e1 : decide ((15 : Int) ≤ x.op) = true := by simpa using h
  go_enter Try.func82, Try.ntmps82
  go_wp2
  go_ret
  exact ⟨by simp [h], hb⟩
 ·have e1 : decide ((15 : Int) ≤ x.op) = false := by simpa using h
  go_enter Try.func82, Try.ntmps82
  go_wp2
  go_ret
  exact ⟨by simp [h], hb⟩
set_option maxHeartbeats 8000000 in
set_option maxRecDepth 100000 in
theorem right_any (x : In) (w : World) : Calls Try.prog 81 #[.agg (inC x)] w fun e w' => e = .returned (.bool (rightB x)) ∧ Below w.heap.size w w' := by
 have hb0 : Below w.heap.size w (w.alloc (.cells (inC x) 42)) := (Below.refl _ _).alloc (Nat.le_refl _) _
 have l0 := Lies.made w 42 (inC x)
 have hop := op_split x.op
 obtain ⟨pb, hpb⟩ : ∃ pb, (decide (1 ≤ x.op) && decide (x.op ≤ 17)) = pb := ⟨_, rfl⟩
 obtain ⟨sb, hsb⟩ : ∃ sb, (decide (18 ≤ x.op) && decide (x.op ≤ 25)) = sb := ⟨_, rfl⟩
 have HP : Hid (∀ w, Calls Try.prog 90 #[.int .i64 x.op] w fun e w' => e = .returned (.bool pb) ∧ w = w') := fun w => by rw [← hpb]; exact plain_any _ _
 have HS : Hid (∀ w, Calls Try.prog 91 #[.int .i64 x.op] w fun e w' => e = .returned (.bool sb) ∧ w = w') := fun w => by rw [← hsb]; exact seen_any _ _
 rw [hpb, hsb] at hop
 clear hpb hsb
 have HB0 := Lib.hid hb0
 have HL0 := Lib.hid l0
 have HW := Lib.hid within_any
 have hr : rightB x = (opB x.op && (wB x.a (gL x.op).1 && (wB x.b (gL x.op).2.1 && (wB x.c (gL x.op).2.2.1 && (wB x.d (gL x.op).2.2.2 && kB x))))) := rfl
 clear hb0 l0
 by_cases hno : opB x.op = false
 ·rw [hno, Bool.false_and] at hr
  have HR := Lib.hid hr
  rw [hno] at hop
  obtain ⟨rfl, rfl⟩ : pb = false ∧ sb = false := by cases pb <;> cases sb <;> simp at hop ⊢
  clear hop hno hr
  go_enter Try.func81, Try.ntmps81
  go_wp2_with fail
  generalize w.alloc (.cells (inC x) 42) = w1 at *
  have x0 := (HL0.out.cell 0).trans (show _ = some (Value.int .i64 x.op) from rfl)
  have hx := HL0.out.lt
  refine (HP.out _).mono ?_
  rintro e w' ⟨rfl, rfl⟩
  go_wp2_with fail
  refine (HS.out _).mono ?_
  rintro e w' ⟨rfl, rfl⟩
  go_wp2
  go_ret
  exact ⟨ret_bool (by rw [HR.out]), HB0.out⟩
 ·have hyes : opB x.op = true := by simpa using hno
  rw [hyes, Bool.true_and] at hr
  rw [hyes] at hop
  have HG := Lib.hid (fun w => greatest_lit x.op w (op_lit hyes))
  unfold gV at HG
  have HR := Lib.hid hr
  have HOP := Lib.hid hop
  clear hr hno hyes hop
  unfold kB at HR
  have hgk := gK_wf x.op
  generalize gK x.op = gk at *
  generalize (gL x.op).1 = ga at *
  generalize (gL x.op).2.1 = gb at *
  generalize (gL x.op).2.2.1 = gc at *
  generalize (gL x.op).2.2.2 = gd at *
  obtain ⟨b1, h1⟩ : ∃ b, wB x.a ga = b := ⟨_, rfl⟩
  obtain ⟨b2, h2⟩ : ∃ b, wB x.b gb = b := ⟨_, rfl⟩
  obtain ⟨b3, h3⟩ : ∃ b, wB x.c gc = b := ⟨_, rfl⟩
  obtain ⟨b4, h4⟩ : ∃ b, wB x.d gd = b := ⟨_, rfl⟩
  obtain ⟨b5, h5⟩ : ∃ b, decide (x.k ≤ gk) = b := ⟨_, rfl⟩
  have W1 := Lib.hid (fun w => within_any x.a ga w)
  have W2 := Lib.hid (fun w => within_any x.b gb w)
  have W3 := Lib.hid (fun w => within_any x.c gc w)
  have W4 := Lib.hid (fun w => within_any x.d gd w)
  rw [h1] at W1 HR
  rw [h2] at W2 HR
  rw [h3] at W3 HR
  rw [h4] at W4 HR
  rw [h5] at HR
  clear h1 h2 h3 h4 HW
  go_enter Try.func81, Try.ntmps81
  go_wp2_with fail
  generalize w.alloc (.cells (inC x) 42) = w1 at *
  have x0 := (HL0.out.cell 0).trans (show _ = some (Value.int .i64 x.op) from rfl)
  have hx := HL0.out.lt
  refine (HP.out _).mono ?_
  rintro e w' ⟨rfl, rfl⟩
  cases pb
  ·obtain rfl : sb = true := by simpa using HOP.out.symm
   go_wp2_with fail
   refine (HS.out _).mono ?_
   rintro e w' ⟨rfl, rfl⟩
   go_wp2_with fail
   refine (HG.out _).mono ?_
   rintro e w2 ⟨rfl, hb2⟩
   have hx2 := HL0.out.below hb2 HL0.out.lt
   have HB2 := Lib.hid (HB0.out.trans (hb2.mono HB0.out.size))
   have HL2 := Lib.hid hx2
   clear x0 hx hx2 hb2 HB0 HL0 HG HP HS
   go_upto_region 4 with (fail)
   have HL3 := Lib.hid (HL2.out.alloc (.cells #[.int .i64 0, .int .i64 ga, .int .i64 gb, .int .i64 gc, .int .i64 gd, .int .u64 (gk : Int)] 42))
   have HL4 := Lib.hid (Lies.made w2 42 #[.int .i64 0, .int .i64 ga, .int .i64 gb, .int .i64 gc, .int .i64 gd, .int .u64 (gk : Int)])
   have HB3 := Lib.hid (HB2.out.alloc HB2.out.size (.cells #[.int .i64 0, .int .i64 ga, .int .i64 gb, .int .i64 gc, .int .i64 gd, .int .u64 (gk : Int)] 42))
   generalize w2.alloc (.cells #[.int .i64 0, .int .i64 ga, .int .i64 gb, .int .i64 gc, .int .i64 gd, .int .u64 (gk : Int)] 42) = w3 at *
   generalize w2.heap.size = n2 at *
   have y1 := (HL3.out.cell 1).trans (show _ = some (Value.int .i64 x.a) from rfl)
   have y2 := (HL3.out.cell 2).trans (show _ = some (Value.int .i64 x.b) from rfl)
   have y3 := (HL3.out.cell 3).trans (show _ = some (Value.int .i64 x.c) from rfl)
   have y4 := (HL3.out.cell 4).trans (show _ = some (Value.int .i64 x.d) from rfl)
   have y5 := (HL3.out.cell 5).trans (show _ = some (Value.int .u64 (x.k : Int)) from rfl)
   have z1 := (HL4.out.cell 1).trans (show _ = some (Value.int .i64 ga) from rfl)
   have z2 := (HL4.out.cell 2).trans (show _ = some (Value.int .i64 gb) from rfl)
   have z3 := (HL4.out.cell 3).trans (show _ = some (Value.int .i64 gc) from rfl)
   have z4 := (HL4.out.cell 4).trans (show _ = some (Value.int .i64 gd) from rfl)
   have z5 := (HL4.out.cell 5).trans (show _ = some (Value.int .u64 (gk : Int)) from rfl)
   have ly := HL3.out.lt
   have lz := HL4.out.lt
   clear HL2 HB2 HL3 HL4
   go_wp2_with fail
   refine (W1.out _).mono ?_
   rintro e w' ⟨rfl, rfl⟩
   cases b1
   ·go_wp2
    go_ret
    exact ⟨ret_bool (by rw [HR.out]; simp [h5]), HB3.out⟩
   go_wp2_with fail
   refine (W2.out _).mono ?_
   rintro e w' ⟨rfl, rfl⟩
   cases b2
   ·go_wp2
    go_ret
    exact ⟨ret_bool (by rw [HR.out]; simp [h5]), HB3.out⟩
   go_wp2_with fail
   refine (W3.out _).mono ?_
   rintro e w' ⟨rfl, rfl⟩
   cases b3
   ·go_wp2
    go_ret
    exact ⟨ret_bool (by rw [HR.out]; simp [h5]), HB3.out⟩
   go_wp2_with fail
   refine (W4.out _).mono ?_
   rintro e w' ⟨rfl, rfl⟩
   cases b4
   ·go_wp2
    go_ret
    exact ⟨ret_bool (by rw [HR.out]; simp [h5]), HB3.out⟩
   go_wp2
   go_ret
   exact ⟨ret_bool (by rw [HR.out]; simp [h5]), HB3.out⟩
  ·go_wp2_with fail
   refine (HG.out _).mono ?_
   rintro e w2 ⟨rfl, hb2⟩
   have hx2 := HL0.out.below hb2 HL0.out.lt
   have HB2 := Lib.hid (HB0.out.trans (hb2.mono HB0.out.size))
   have HL2 := Lib.hid hx2
   clear x0 hx hx2 hb2 HB0 HL0 HG HP HS
   go_upto_region 4 with (fail)
   have HL3 := Lib.hid (HL2.out.alloc (.cells #[.int .i64 0, .int .i64 ga, .int .i64 gb, .int .i64 gc, .int .i64 gd, .int .u64 (gk : Int)] 42))
   have HL4 := Lib.hid (Lies.made w2 42 #[.int .i64 0, .int .i64 ga, .int .i64 gb, .int .i64 gc, .int .i64 gd, .int .u64 (gk : Int)])
   have HB3 := Lib.hid (HB2.out.alloc HB2.out.size (.cells #[.int .i64 0, .int .i64 ga, .int .i64 gb, .int .i64 gc, .int .i64 gd, .int .u64 (gk : Int)] 42))
   generalize w2.alloc (.cells #[.int .i64 0, .int .i64 ga, .int .i64 gb, .int .i64 gc, .int .i64 gd, .int .u64 (gk : Int)] 42) = w3 at *
   generalize w2.heap.size = n2 at *
   have y1 := (HL3.out.cell 1).trans (show _ = some (Value.int .i64 x.a) from rfl)
   have y2 := (HL3.out.cell 2).trans (show _ = some (Value.int .i64 x.b) from rfl)
   have y3 := (HL3.out.cell 3).trans (show _ = some (Value.int .i64 x.c) from rfl)
   have y4 := (HL3.out.cell 4).trans (show _ = some (Value.int .i64 x.d) from rfl)
   have y5 := (HL3.out.cell 5).trans (show _ = some (Value.int .u64 (x.k : Int)) from rfl)
   have z1 := (HL4.out.cell 1).trans (show _ = some (Value.int .i64 ga) from rfl)
   have z2 := (HL4.out.cell 2).trans (show _ = some (Value.int .i64 gb) from rfl)
   have z3 := (HL4.out.cell 3).trans (show _ = some (Value.int .i64 gc) from rfl)
   have z4 := (HL4.out.cell 4).trans (show _ = some (Value.int .i64 gd) from rfl)
   have z5 := (HL4.out.cell 5).trans (show _ = some (Value.int .u64 (gk : Int)) from rfl)
   have ly := HL3.out.lt
   have lz := HL4.out.lt
   clear HL2 HB2 HL3 HL4
   go_wp2_with fail
   refine (W1.out _).mono ?_
   rintro e w' ⟨rfl, rfl⟩
   cases b1
   ·go_wp2
    go_ret
    exact ⟨ret_bool (by rw [HR.out]; simp [h5]), HB3.out⟩
   go_wp2_with fail
   refine (W2.out _).mono ?_
   rintro e w' ⟨rfl, rfl⟩
   cases b2
   ·go_wp2
    go_ret
    exact ⟨ret_bool (by rw [HR.out]; simp [h5]), HB3.out⟩
   go_wp2_with fail
   refine (W3.out _).mono ?_
   rintro e w' ⟨rfl, rfl⟩
   cases b3
   ·go_wp2
    go_ret
    exact ⟨ret_bool (by rw [HR.out]; simp [h5]), HB3.out⟩
   go_wp2_with fail
   refine (W4.out _).mono ?_
   rintro e w' ⟨rfl, rfl⟩
   cases b4
   ·go_wp2
    go_ret
    exact ⟨ret_bool (by rw [HR.out]; simp [h5]), HB3.out⟩
   go_wp2
   go_ret
   exact ⟨ret_bool (by rw [HR.out]; simp [h5]), HB3.out⟩
theorem owned_below {w w' : World} {B : Nat} {e : TypeId} {size n : Nat} {v : Value} {xs : List Value} (h : w.ownsRow B e size v n xs) (k : Below w.heap.size w w') : w'.ownsRow B e size v n xs :=
 owns_kept h (Kept.of_below k) (fun _ _ _ _ hf => hf)
theorem owned_empty {w : World} {B : Nat} (e : TypeId) (sz : Nat) (hB : B ≤ w.heap.size) : (w.alloc (.cells #[] e)).ownsRow B e sz (.slice (some ⟨w.heap.size, 0, none⟩) 0 0) 0 [] :=
 World.ownsRow_made (base := B) (e := e) (size := sz) w #[] 0 hB (by unfold maxLen; omega) (by simp)
theorem run_make_rowS {P : Program} (t e : TypeId) (z : Value) (size bytes : Nat) (ht : P.underlying t = some (.slice e)) (hinfo : (P.info? e).map (fun i => (i.zero, i.size, i.bytes)) = some (some z, size, bytes))
  (kl kc : IntKind) (n : Nat) (hbytes : bytes * n ≤ 281474976710656) (hn : n ≤ 1099511627776) (w : World) :
  (Instr.makeSlice t (.int kl (n : Int)) (.int kc (n : Int))).run P w = .ok (.slice (some ⟨w.heap.size, 0, none⟩) n n) (w.alloc (.cells (madeCells z.cells (n * size)) e)) := by
 obtain ⟨i, hi, hz0, hz1, hz2⟩ := info_parts hinfo
 have hb' : (i.bytes : Int) * (n : Int) ≤ 281474976710656 := by
  have h : ((i.bytes * n : Nat) : Int) ≤ 281474976710656 := by rw [hz2]; omega
  rwa [Int.natCast_mul] at h
 have hr := run_make (P := P) w t e i z ht hi hz0 kl kc n n (by omega) (Int.le_refl _) hb' (by omega)
 simp only [Int.toNat_natCast, hz1] at hr
 exact hr
def RdAt (w : World) (g : Nat) (s : ByteArray) (i : Nat) : Prop := Lies w g 94 #[.string s, .int .i64 i] ∧ i ≤ s.size ∧ s.size ≤ maxLen
theorem octetNew (s : ByteArray) (w : World) (hs : s.size ≤ maxLen) : Calls Try.prog 29 #[.string s] w fun e w' =>
  e = .returned (.pointer (some ⟨w.heap.size, 0, none⟩)) ∧ RdAt w' w.heap.size s 0 ∧ Kept noRow w w' := by
 go_enter Try.func29, Try.ntmps29
 go_wp2
 go_ret
 exact ⟨rfl, ⟨Lies.made _ _ _, Nat.zero_le _, hs⟩, Kept.alloc _ _ _⟩
theorem octetLeft (g : Nat) (s : ByteArray) (i : Nat) (w : World) (h : RdAt w g s i) : Calls Try.prog 31 #[.pointer (some ⟨g, 0, none⟩)] w fun e w' =>
  e = .returned (.int .i64 ((s.size : Int) - i)) ∧ ∃ n, w' = w.drewN n := by
 obtain ⟨h1, h2, h3⟩ := h
 have c0 : w.cell? ⟨g, 0, none⟩ = some (.string s) := h1.cell 0
 have c1 : w.cell? ⟨g, 1, none⟩ = some (.int .i64 i) := h1.cell 1
 unfold maxLen at h3
 clear h1
 go_enter Try.func31, Try.ntmps31
 go_wp2_with fail
 go_quiet (fail)
 go_wp2
 go_ret
 exact ⟨rfl, _, rfl⟩
theorem ret_two {a b c d : Value} (h : a = b) (k : c = d) : Ending.returned (.tuple #[a, c]) = .returned (.tuple #[b, d]) := by rw [h, k]
theorem ret_text {a b : ByteArray} (h : a = b) : Ending.returned (.string a) = .returned (.string b) := by rw [h]
theorem v_int {k : IntKind} {a b : Int} (h : a = b) : Value.int k a = .int k b := by rw [h]
theorem octetTakeEnd (g : Nat) (s : ByteArray) (i : Nat) (n : Int) (w : World) (h : RdAt w g s i) (hn : (s.size : Int) - i < n) : Calls Try.prog 86 #[.pointer (some ⟨g, 0, none⟩), .int .i64 n] w fun e w' =>
  e = .returned (.tuple #[.string ByteArray.empty, .int .i64 2]) ∧ ∃ m, w' = w.drewN m := by
 have h2 := h.2.1
 go_enter Try.func86, Try.ntmps86
 go_wp2_with fail
 refine (octetLeft g s i w h).mono ?_
 rintro e w' ⟨rfl, m, rfl⟩
 go_wp2
 go_ret2
 exact ⟨rfl, _, rfl⟩
theorem octetTakeOk (g : Nat) (s : ByteArray) (i : Nat) (n : Int) (w : World) (h : RdAt w g s i) (h0 : 0 ≤ n) (hn : n ≤ (s.size : Int) - i) : Calls Try.prog 86 #[.pointer (some ⟨g, 0, none⟩), .int .i64 n] w fun e w' =>
  e = .returned (.tuple #[.string (s.extract i (i + n.toNat)), .int .i64 0]) ∧ RdAt w' g s (i + n.toNat) ∧ Kept (oneRow g) w w' := by
 have hr := h
 obtain ⟨h1, h2, h3⟩ := h
 obtain ⟨k, rfl⟩ := Int.eq_ofNat_of_zero_le h0
 have c0 : w.cell? ⟨g, 0, none⟩ = some (.string s) := h1.cell 0
 have c1 : w.cell? ⟨g, 1, none⟩ = some (.int .i64 i) := h1.cell 1
 have f1 : w.frozen? ⟨g, 1, none⟩ = false := h1.free 1
 have h4 := h3
 unfold maxLen at h4
 have hk : i + k ≤ s.size := by omega
 have hki : (i : Int) + k ≤ s.size := by omega
 have H1 := Lib.hid h1
 have H3 := Lib.hid h3
 clear h1 h3
 go_enter Try.func86, Try.ntmps86
 go_wp2_with fail
 refine (octetLeft g s i w hr).mono ?_
 rintro e w' ⟨rfl, m, rfl⟩
 go_wp2_with fail
 have q1 : IntKind.i64.wrap ((i : Int) + k) = i + k := IntWalk.i64_in _ (by omega)
 have hsl := slice_text (P := Try.prog) 9 Try.underlying9 s i (i + k) i ((i : Int) + k) rfl (by omega) (by omega) hk
 go_quiet (fail)
 go_wp2
 go_ret2
 refine ⟨rfl, ⟨?_, hk, H3.out⟩, (Kept.drewN _ _ _).trans (Kept.put _ g 1 _) (fun _ _ h => h)⟩
 exact (H1.out.drewN _).put 1 _
theorem RdAt.kept {w w' : World} {g : Nat} {s : ByteArray} {i : Nat} {S : Nat → Prop} (h : RdAt w g s i) (k : Kept S w w') (hn : ¬ S g) : RdAt w' g s i := ⟨h.1.kept k hn, h.2⟩
theorem octetByteEnd (g : Nat) (s : ByteArray) (w : World) (h : RdAt w g s s.size) : Calls Try.prog 72 #[.pointer (some ⟨g, 0, none⟩)] w fun e w' =>
  e = .returned (.tuple #[.int .u8 0, .int .i64 2]) ∧ ∃ n, w' = w.drewN n := by
 go_enter Try.func72, Try.ntmps72
 go_wp2_with fail
 refine (octetTakeEnd g s s.size 1 w h (by omega)).mono ?_
 rintro e w' ⟨rfl, m, rfl⟩
 go_wp2
 go_ret2
 exact ⟨rfl, _, rfl⟩
theorem octetByteOk (g : Nat) (s : ByteArray) (i : Nat) (w : World) (h : RdAt w g s i) (hi : i < s.size) : Calls Try.prog 72 #[.pointer (some ⟨g, 0, none⟩)] w fun e w' =>
  e = .returned (.tuple #[.int .u8 (s[i]'hi).toNat, .int .i64 0]) ∧ RdAt w' g s (i + 1) ∧ Kept (oneRow g) w w' := by
 obtain ⟨t, ht⟩ : ∃ t, t = s.extract i (i + 1) := ⟨_, rfl⟩
 have hts : 0 < t.size := by rw [ht, ByteArray.size_extract]; omega
 have hb : t[0]'hts = s[i]'hi := by
  subst ht; simp [ByteArray.getElem_extract]
 have HB := Lib.hid hb
 clear hb
 go_enter Try.func72, Try.ntmps72
 go_wp2_with fail
 refine (octetTakeOk g s i 1 w h (by omega) (by omega)).mono ?_
 rintro e w' ⟨rfl, hr, hk⟩
 rw [show (1 : Int).toNat = 1 from rfl] at *
 rw [← ht]
 clear ht
 go_wp2
 go_ret2
 exact ⟨ret_two (v_int (by rw [HB.out])) rfl, hr, hk⟩
def leb : Nat → Nat → List UInt8
 | 0, n => [UInt8.ofNat n]
 | f + 1, n => if n < 128 then [UInt8.ofNat n] else UInt8.ofNat (n % 128 + 128) :: leb f (n / 128)
def enc (n : Nat) : List UInt8 := leb 9 n
def M64 : Nat := 18446744073709551616
theorem leb_small (f n : Nat) (h : n < 128) : leb f n = [UInt8.ofNat n] := by cases f <;> simp [leb, h]
theorem leb_big (f n : Nat) (h : ¬ n < 128) : leb (f + 1) n = UInt8.ofNat (n % 128 + 128) :: leb f (n / 128) := by simp [leb, h]
theorem leb_length (f n : Nat) : 1 ≤ (leb f n).length ∧ (leb f n).length ≤ f + 1 := by
 induction f generalizing n with
 | zero => simp [leb]
 | succ f ih =>
  by_cases h : n < 128
  ·rw [leb_small _ _ h]; simp
  ·rw [leb_big _ _ h, List.length_cons]; have := ih (n / 128); omega
theorem enc_length (n : Nat) : 1 ≤ (enc n).length ∧ (enc n).length ≤ 10 := leb_length 9 n
theorem pow128_succ (f : Nat) : (128 : Nat) ^ (f + 1) = 128 ^ f * 128 := Nat.pow_succ 128 f
theorem lt_div (f n : Nat) (h : n < 128 ^ (f + 2)) : n / 128 < 128 ^ (f + 1) := by
 rw [Nat.pow_succ] at h
 rw [Nat.div_lt_iff_lt_mul (by decide)]
 exact h
theorem m64_lt : M64 ≤ 128 ^ 10 := by unfold M64; rw [show (128 : Nat) ^ 10 = 1180591620717411303424 by decide +kernel]; omega
def rdV : Nat → Nat → Nat → List UInt8 → Nat × Nat × Nat
 | 0, _, _, _ => (0, 3, 0)
 | _ + 1, _, _, [] => (0, 2, 0)
 | f + 1, k, v, b :: l =>
  if (0 < k ∧ b = 0) ∨ (k = 9 ∧ 1 < b.toNat) then (0, 3, 1)
  else if b.toNat < 128 then (v + b.toNat * 128 ^ k, 0, 1)
  else ((rdV f (k + 1) (v + (b.toNat - 128) * 128 ^ k) l).1, (rdV f (k + 1) (v + (b.toNat - 128) * 128 ^ k) l).2.1, (rdV f (k + 1) (v + (b.toNat - 128) * 128 ^ k) l).2.2 + 1)
def rd (l : List UInt8) : Nat × Nat × Nat := rdV 10 0 0 l
theorem rdV_used (f : Nat) : ∀ k v l, (rdV f k v l).2.2 ≤ l.length := by
 induction f with
 | zero => intro k v l; simp [rdV]
 | succ f ih =>
  intro k v l
  cases l with
  | nil => simp [rdV]
  | cons b l =>
   rw [rdV]
   split
   ·simp
   ·split
    ·simp
    ·simp; exact ih _ _ _
theorem rdV_leb (f : Nat) : ∀ k v n r, f + k = 9 → n < 128 ^ (f + 1) → (k = 9 → n < 2) → (0 < k → 0 < n) → (n * 128 ^ k < M64) →
  rdV (f + 1) k v (leb f n ++ r) = (v + n * 128 ^ k, 0, (leb f n).length) := by
 induction f with
 | zero =>
  intro k v n r hk hn h9 h0 hm
  have hn2 : n < 2 := h9 (by omega)
  have hb : (UInt8.ofNat n).toNat = n := by simp; omega
  have hz : UInt8.ofNat n = 0 ↔ n = 0 := by
   constructor
   ·intro h; have := congrArg UInt8.toNat h; rw [hb] at this; simpa using this
   ·rintro rfl; rfl
  rw [leb, List.singleton_append, rdV, if_neg, if_pos (by rw [hb]; omega), hb]
  ·rfl
  ·rintro (⟨a, b⟩ | ⟨_, b⟩)
   ·have := h0 a; rw [hz] at b; omega
   ·rw [hb] at b; omega
 | succ f ih =>
  intro k v n r hk hn h9 h0 hm
  by_cases h : n < 128
  ·have hb : (UInt8.ofNat n).toNat = n := by simp; omega
   have hz : UInt8.ofNat n = 0 ↔ n = 0 := by
    constructor
    ·intro h; have := congrArg UInt8.toNat h; rw [hb] at this; simpa using this
    ·rintro rfl; rfl
   rw [leb_small _ _ h, List.singleton_append, rdV, if_neg, if_pos (by rw [hb]; omega), hb]
   ·rfl
   ·rintro (⟨a, b⟩ | ⟨a, b⟩)
    ·have := h0 a; rw [hz] at b; omega
    ·omega
  ·have hb : (UInt8.ofNat (n % 128 + 128)).toNat = n % 128 + 128 := by simp; omega
   have hz : UInt8.ofNat (n % 128 + 128) ≠ 0 := by
    intro h; have := congrArg UInt8.toNat h; rw [hb] at this; simp at this
   have hpow : n / 128 * 128 ^ (k + 1) ≤ n * 128 ^ k := by
    rw [pow128_succ, Nat.mul_comm (128 ^ k), ← Nat.mul_assoc]
    exact Nat.mul_le_mul_right _ (Nat.div_mul_le_self n 128)
   have hr := ih (k + 1) (v + n % 128 * 128 ^ k) (n / 128) r (by omega) (lt_div _ _ hn) (by
    intro h9'
    have : k = 8 := by omega
    subst this
    unfold M64 at hm
    have e : (128 : Nat) ^ 8 = 72057594037927936 := by decide
    rw [e] at hm
    omega) (by intro _; omega) (Nat.lt_of_le_of_lt hpow hm)
   rw [leb_big _ _ h, List.cons_append, rdV, if_neg, if_neg (by rw [hb]; omega), hb, Nat.add_sub_cancel, hr]
   ·simp only [List.length_cons]
    congr 1
    rw [pow128_succ, Nat.mul_comm (128 ^ k), ← Nat.mul_assoc, Nat.add_assoc, ← Nat.add_mul]
    congr 2
    omega
   ·rintro (⟨_, b⟩ | ⟨a, _⟩)
    ·exact hz b
    ·omega
theorem rd_enc (n : Nat) (r : List UInt8) (hn : n < M64) : rd (enc n ++ r) = (n, 0, (enc n).length) := by
 have := rdV_leb 9 0 0 n r rfl (Nat.lt_of_lt_of_le hn m64_lt) (by omega) (by omega) (by simpa using hn)
 simpa [rd, enc] using this
def encs (l : List Nat) : List UInt8 := l.flatMap enc
def encList (l : List Nat) : List UInt8 := enc l.length ++ encs l
theorem encs_next {l : List Nat} {k n : Nat} (h : l[k]? = some n) : encs (l.take k) ++ enc n = encs (l.take (k + 1)) := by
 rw [List.take_add_one, h]; simp [encs]
theorem encs_length (l : List Nat) : (encs l).length ≤ 10 * l.length := by
 induction l with
 | nil => simp [encs]
 | cons n l ih => simp only [encs, List.flatMap_cons, List.length_append, List.length_cons] at *; have := (enc_length n).2; omega
theorem encs_cons (n : Nat) (l : List Nat) : encs (n :: l) = enc n ++ encs l := rfl
theorem Try.infoU8 : (Try.prog.info? 5).map (fun i => (i.zero, i.size, i.bytes)) = some (some (.int .u8 0), 1, 1) := by kernel_rfl
def cellsB (l : List UInt8) : List Value := l.map fun b => Value.int .u8 b.toNat
def textB (l : List UInt8) : ByteArray := ⟨l.toArray⟩
theorem cellsB_text (l : List UInt8) : Lib.strCells (textB l) = cellsB l := by simp [Lib.strCells, textB, cellsB]
theorem textB_size (l : List UInt8) : (textB l).size = l.length := by simp [textB, ByteArray.size]
theorem cellsB_push (d : List UInt8) (b : UInt8) : cellsB d ++ [.int .u8 (b.toNat : Int)] = cellsB (d ++ [b]) := by simp [cellsB]
theorem byte_of (s : ByteArray) (i : Nat) (hi : i < s.size) : s.data.toList[i]? = some s[i] := by
 rw [Array.getElem?_toList]; exact Array.getElem?_eq_getElem hi
theorem convert_owned (w : World) (B : Nat) (v : Value) (l : List UInt8) (n : Nat) (hn : n = l.length) (ho : w.ownsRow B 5 1 v n (cellsB l)) :
  (convert 55 9 v).run Try.prog w = .ok (.string (textB l)) w := by
 subst hn
 rcases owns_row ho with ⟨rfl, h0, _⟩ | ⟨r, cap, cur, rfl, _⟩
 ·have hl : l = [] := List.length_eq_zero_iff.1 h0
  subst hl
  exact Lib.run_convert_nil_bytes (P := Try.prog) w 55 9 5 0 Try.underlying55 Try.underlying5 Try.underlying9
 ·have := Lib.run_convert_whole (P := Try.prog) w 55 5 9 Try.underlying55 Try.underlying5 Try.underlying9 r 0 (textB l) (fun i hi => by
   rw [Nat.zero_add, ← addr_add]
   refine ho.cells (g := r) rfl i _ ?_
   rw [← cellsB_text]
   simp only [Lib.strCells, List.getElem?_map, byte_of (textB l) i hi]; rfl) cap
  rw [textB_size] at this
  exact this
theorem text_append (a b : List UInt8) : textB a ++ textB b = textB (a ++ b) := by apply eq_of_data; simp [textB]
theorem or128 : ∀ a : Nat, a < 256 → a ||| 128 = a % 128 + 128 := by decide +kernel
theorem bits_or128 (n : Nat) : bits .or .u8 ((n : Int) % 256) 128 = ((n % 128 + 128 : Nat) : Int) := by
 have h : ((n : Int) % 256) = ((n % 256 : Nat) : Int) := by omega
 have := u8_or_nat (n % 256) 128 (Nat.mod_lt _ (by decide)) (by decide)
 rw [h]
 refine Eq.trans this ?_
 rw [or128 _ (Nat.mod_lt _ (by decide)), show n % 256 % 128 = n % 128 by omega]
theorem more_byte (m : Nat) : bits .or .u8 ((m : Int) % 256) 128 = ((UInt8.ofNat (m % 128 + 128)).toNat : Int) := by
 rw [bits_or128, UInt8.toNat_ofNat']
 omega
theorem last_byte (m : Nat) (h : m < 128) : (m : Int) = ((UInt8.ofNat m).toNat : Int) := by
 rw [UInt8.toNat_ofNat']
 omega
theorem grow_step {f m : Nat} {d l : List UInt8} {n : Nat} (hd : d ++ leb f m = l ++ enc n) (hp : m < 128 ^ (f + 1)) (h : ¬ m < 128) :
  ∃ f', f = f' + 1 ∧ d ++ [UInt8.ofNat (m % 128 + 128)] ++ leb f' (m / 128) = l ++ enc n ∧ m / 128 < 128 ^ (f' + 1) := by
 cases f with
 | zero => simp at hp; omega
 | succ f =>
  refine ⟨f, rfl, ?_, lt_div _ _ hp⟩
  rw [leb_big _ _ h] at hd
  rw [← hd]; simp
theorem grow_done {f m : Nat} {d l : List UInt8} {n : Nat} (hd : d ++ leb f m = l ++ enc n) (h : m < 128) : d ++ [UInt8.ofNat m] = l ++ enc n := by
 rw [leb_small _ _ h] at hd; exact hd
set_option maxHeartbeats 1000000 in
theorem varintGrow (v : Value) (l : List UInt8) (n : Nat) (w : World) (B : Nat) (hB : B ≤ w.heap.size) (ho : w.ownsRow B 5 1 v l.length (cellsB l)) (hl : l.length ≤ 140737488355000) (hn : n < M64) :
  Calls Try.prog 54 #[v, .int .u64 n] w fun e w' => ∃ v', e = .returned v' ∧ w'.ownsRow B 5 1 v' (l ++ enc n).length (cellsB (l ++ enc n)) ∧ Below B w w' := by
 have hn2 : n ≤ 18446744073709551615 := by unfold M64 at hn; omega
 go_enter Try.func54, Try.ntmps54
 go_wp2
 go_loopw [0, 1] (fun t i wr => ∃ (f m : Nat) (d : List UInt8), i = .int .u64 m ∧ m ≤ 18446744073709551615 ∧ f ≤ 9 ∧ Hid (m < 128 ^ (f + 1)) ∧ Hid (d ++ leb f m = l ++ enc n) ∧ d.length + (f + 1) ≤ l.length + 10 ∧ wr.ownsRow B 5 1 t d.length (cellsB d) ∧ Below B w wr)
  (fun _ i _ => (intOf i).toNat)
 case atStart => exact ⟨9, n, l, rfl, hn2, by omega, Nat.lt_of_lt_of_le hn m64_lt, rfl, by omega, ho, Below.refl _ _⟩
 case round =>
  clear ho
  obtain ⟨f, m, d, rfl, hm, hf, hp, hd, hdl, ho, hb⟩ := hrel
  have hBr : B ≤ wr.heap.size := Nat.le_trans hB hb.size
  by_cases h : m < 128
  ·have e0 : decide ((128 : Int) ≤ (m : Int)) = false := by simp; omega
   have hx := last_byte m h
   have hg := Lib.hid (grow_done hd.out h)
   generalize UInt8.ofNat m = b at *
   have HX := Lib.hid hx
   clear hx
   go_wp2_with (at_builtin; rw [HX.out]; refine append_one wr (.int .u8 b.toNat) rfl (.tmp 15) (.tmp 18) 55 rfl B 5 _ _ Try.underlying55 Try.infoU8 rfl rfl _ _ _ rfl ho rfl (by unfold maxLen; omega) (by omega) hBr ?_; intro v' w1 hown1 hb1 _)
   go_ret
   rw [cellsB_push, hg.out] at hown1
   exact ⟨_, rfl, by rw [← hg.out, List.length_append]; rw [hg.out]; exact hown1, hb.trans hb1⟩
  ·have e0 : decide ((128 : Int) ≤ (m : Int)) = true := by simp; omega
   have hx := more_byte m
   obtain ⟨f', rfl, hd', hp'⟩ := grow_step hd.out hp.out h
   have HD := Lib.hid hd'
   have HP := Lib.hid hp'
   clear hd hp hd' hp'
   generalize UInt8.ofNat (m % 128 + 128) = b at *
   go_wp2_with (at_builtin; refine append_one wr (.int .u8 b.toNat) rfl (.tmp 9) (.tmp 13) 55 rfl B 5 _ _ Try.underlying55 Try.infoU8 rfl rfl _ _ _ rfl ho rfl (by unfold maxLen; omega) (by omega) hBr ?_; intro v' w1 hown1 hb1 _)
   rw [cellsB_push] at hown1
   go_roundw
   case rel => exact ⟨f', m / 128, d ++ [b], by go_num, by omega, by omega, HP, HD, by rw [List.length_append]; simp; omega, by rw [List.length_append]; exact hown1, hb.trans hb1⟩
   case measure => simp [intOf]; omega
def wrongB (k : Nat) (b : UInt8) : Bool := decide ((0 < k ∧ b = 0) ∨ (k = 9 ∧ 1 < b.toNat))
theorem varintWrong (k : Nat) (b : UInt8) (w : World) (hk : k ≤ 9) : Calls Try.prog 73 #[.int .i64 k, .int .u8 b.toNat] w fun e w' => e = .returned (.bool (wrongB k b)) ∧ w = w' := by
 have hb := b.toNat_lt
 have hz : (b = 0) ↔ b.toNat = 0 := by
  constructor
  ·rintro rfl; rfl
  ·intro h; exact UInt8.toNat_inj.1 h
 have hw : wrongB k b = decide ((0 < k ∧ b.toNat = 0) ∨ (k = 9 ∧ 1 < b.toNat)) := by simp only [wrongB, hz]
 have HW := Lib.hid hw
 clear hw hz
 generalize b.toNat = B at *
 by_cases h1 : 0 < k
 ·have e1 : decide ((0 : Int) < (k : Int)) = true := by simp; omega
  by_cases h2 : B = 0
  ·have e2 : ((B : Int) == 0) = true := by simp; omega
   go_enter Try.func73, Try.ntmps73
   go_wp2
   go_ret
   exact ⟨ret_bool (by rw [HW.out]; simp; omega), rfl⟩
  ·have e2 : ((B : Int) == 0) = false := by simp; omega
   by_cases h3 : k = 9
   ·subst h3
    have hf : (decide ((1 : Int) < (B : Int))) = decide ((0 < 9 ∧ B = 0) ∨ ((9 : Nat) = 9 ∧ 1 < B)) := by simp [h2]; omega
    have HF := Lib.hid hf
    clear hf
    go_enter Try.func73, Try.ntmps73
    go_wp2
    go_ret
    exact ⟨ret_bool (by rw [HW.out]; exact HF.out), rfl⟩
   ·have e3 : ((k : Int) == 9) = false := by simp; omega
    go_enter Try.func73, Try.ntmps73
    go_wp2
    go_ret
    exact ⟨ret_bool (by rw [HW.out]; simp; omega), rfl⟩
 ·have e1 : decide ((0 : Int) < (k : Int)) = false := by simp; omega
  have e3 : ((k : Int) == 9) = false := by simp; omega
  go_enter Try.func73, Try.ntmps73
  go_wp2
  go_ret
  exact ⟨ret_bool (by rw [HW.out]; simp; omega), rfl⟩
def restOf (s : ByteArray) (i : Nat) : List UInt8 := s.data.toList.drop i
theorem rest_cons (s : ByteArray) (i : Nat) (h : i < s.size) : restOf s i = s[i]'h :: restOf s (i + 1) := by
 unfold restOf
 rw [List.drop_eq_getElem_cons (by simpa using h)]
 rfl
theorem rest_nil (s : ByteArray) : restOf s s.size = [] := by unfold restOf; exact List.drop_of_length_le (by simp)
theorem rdV_wrong (f k v : Nat) (b : UInt8) (l : List UInt8) (h : wrongB k b = true) : rdV (f + 1) k v (b :: l) = (0, 3, 1) := by
 unfold wrongB at h; rw [rdV, if_pos (of_decide_eq_true h)]
theorem rdV_last (f k v : Nat) (b : UInt8) (l : List UInt8) (h : wrongB k b = false) (hb : b.toNat < 128) : rdV (f + 1) k v (b :: l) = (v + b.toNat * 128 ^ k, 0, 1) := by
 unfold wrongB at h; rw [rdV, if_neg (of_decide_eq_false h), if_pos hb]
theorem rdV_more (f k v : Nat) (b : UInt8) (l : List UInt8) (h : wrongB k b = false) (hb : ¬ b.toNat < 128) : rdV (f + 1) k v (b :: l) =
  ((rdV f (k + 1) (v + (b.toNat - 128) * 128 ^ k) l).1, (rdV f (k + 1) (v + (b.toNat - 128) * 128 ^ k) l).2.1, (rdV f (k + 1) (v + (b.toNat - 128) * 128 ^ k) l).2.2 + 1) := by
 unfold wrongB at h; rw [rdV, if_neg (of_decide_eq_false h), if_neg hb]
theorem and127 : ∀ a : Nat, a < 256 → a &&& 127 = a % 128 := by decide +kernel
theorem bits_and127 (b : UInt8) : bits .and .u8 (b.toNat : Int) 127 = ((b.toNat % 128 : Nat) : Int) := by
 have := u8_and_nat b.toNat 127 b.toNat_lt (by decide)
 refine Eq.trans this ?_
 rw [and127 _ b.toNat_lt]
theorem pow7 (k : Nat) : (128 : Nat) ^ k = 2 ^ (7 * k) := by rw [Nat.pow_mul]
theorem group_fits (k x : Nat) (hk : k ≤ 9) (hx : x < 128) (h9 : k = 9 → x < 2) : x * 128 ^ k < 18446744073709551616 := by
 by_cases h : k = 9
 ·subst h; have := h9 rfl
  rw [show (128 : Nat) ^ 9 = 9223372036854775808 by decide +kernel]; omega
 ·have h8 : k ≤ 8 := by omega
  have hp : (128 : Nat) ^ k ≤ 128 ^ 8 := Nat.pow_le_pow_right (by decide) h8
  rw [show (128 : Nat) ^ 8 = 72057594037927936 by decide +kernel] at hp
  calc x * 128 ^ k ≤ 127 * 72057594037927936 := Nat.mul_le_mul (by omega) hp
   _ < 18446744073709551616 := by decide +kernel
theorem or_group (k v x : Nat) (hk : k ≤ 9) (hv : v < 128 ^ k) (hx : x < 128) (h9 : k = 9 → x < 2) :
  bits .or .u64 (v : Int) (IntKind.u64.wrap ((x : Int) * 2 ^ (7 * k))) = ((v + x * 128 ^ k : Nat) : Int) ∧ v + x * 128 ^ k < 128 ^ (k + 1) ∧ v + x * 128 ^ k ≤ 18446744073709551615 := by
 have hf := group_fits k x hk hx h9
 have hp : (128 : Nat) ^ k ≤ 128 ^ 9 := Nat.pow_le_pow_right (by decide) hk
 rw [show (128 : Nat) ^ 9 = 9223372036854775808 by decide +kernel] at hp
 have hw : IntKind.u64.wrap ((x : Int) * 2 ^ (7 * k)) = ((x * 128 ^ k : Nat) : Int) := by
  have e : (x : Int) * 2 ^ (7 * k) = ((x * 128 ^ k : Nat) : Int) := by rw [pow7, Int.natCast_mul, Int.natCast_pow]; rfl
  rw [e, IntKind.wrap_u64]
  omega
 refine ⟨?_, ?_, ?_⟩
 ·rw [hw, bits_or_u64_nat _ _ (by omega) hf]
  congr 1
  rw [pow7]
  exact or_add (by rw [← pow7]; exact hv)
 ·rw [pow128_succ]
  have : x * 128 ^ k ≤ 127 * 128 ^ k := Nat.mul_le_mul_right _ (by omega)
  omega
 ·by_cases h : k = 9
  ·subst h
   have := h9 rfl
   rw [show (128 : Nat) ^ 9 = 9223372036854775808 by decide +kernel] at *
   omega
  ·have h8 : k ≤ 8 := by omega
   have hp8 : (128 : Nat) ^ k ≤ 128 ^ 8 := Nat.pow_le_pow_right (by decide) h8
   rw [show (128 : Nat) ^ 8 = 72057594037927936 by decide +kernel] at hp8
   have : x * 128 ^ k ≤ 127 * 72057594037927936 := Nat.mul_le_mul (by omega) hp8
   omega
theorem or_group_byte (k v : Nat) (b : UInt8) (hk : k ≤ 9) (hv : v < 128 ^ k) (hw : wrongB k b = false) :
  bits .or .u64 (v : Int) (IntKind.u64.wrap ((b.toNat : Int) % 128 * 2 ^ (7 * k))) = ((v + b.toNat % 128 * 128 ^ k : Nat) : Int) ∧ v + b.toNat % 128 * 128 ^ k < 128 ^ (k + 1) ∧ v + b.toNat % 128 * 128 ^ k ≤ 18446744073709551615 := by
 have h9 : k = 9 → b.toNat < 2 := by
  intro h; unfold wrongB at hw; have := of_decide_eq_false hw; omega
 have := or_group k v (b.toNat % 128) hk hv (Nat.mod_lt _ (by decide)) (fun h => by have := h9 h; omega)
 rw [Int.natCast_emod] at this
 exact this
set_option maxHeartbeats 1000000 in
theorem varintRead (g : Nat) (s : ByteArray) (i : Nat) (w : World) (h : RdAt w g s i) : Calls Try.prog 58 #[.pointer (some ⟨g, 0, none⟩)] w fun e w' =>
  e = .returned (.tuple #[.int .u64 (rd (restOf s i)).1, .int .i64 (rd (restOf s i)).2.1]) ∧ RdAt w' g s (i + (rd (restOf s i)).2.2) ∧ Kept (oneRow g) w w' := by
 go_enter Try.func58, Try.ntmps58
 go_wp2
 go_loopw [4, 5] (fun t u wr => ∃ (k v : Nat), k ≤ 9 ∧ t = .int .u64 v ∧ u = .int .i64 k ∧ RdAt wr g s (i + k) ∧ Hid (v < 128 ^ k) ∧ v ≤ 18446744073709551615 ∧ Kept (oneRow g) w wr ∧
   Hid (rd (restOf s i) = ((rdV (9 - k + 1) k v (restOf s (i + k))).1, (rdV (9 - k + 1) k v (restOf s (i + k))).2.1, (rdV (9 - k + 1) k v (restOf s (i + k))).2.2 + k)))
  (fun _ u _ => 10 - (intOf u).toNat)
 case atStart => exact ⟨0, 0, by omega, rfl, rfl, h, by show 0 < 1; omega, by omega, Kept.refl _ _, rfl⟩
 case round =>
  clear h
  obtain ⟨k, v, hk, rfl, rfl, hr, hv, hv2, hkp, hrd⟩ := hrel
  by_cases hend : i + k < s.size
  ·have hb := rest_cons s (i + k) hend
   go_wp2_with fail
   refine (octetByteOk g s (i + k) wr hr hend).mono ?_
   rintro e w1 ⟨rfl, hr1, hk1⟩
   have hkp := hkp.trans hk1 (fun _ _ h => h)
   generalize s[i + k]'hend = b at *
   rw [hb] at hrd
   clear hb hr hk1
   have hbl := b.toNat_lt
   go_wp2_with fail
   refine (varintWrong k b w1 hk).mono ?_
   rintro e w' ⟨rfl, rfl⟩
   cases hwb : wrongB k b
   ·by_cases hlast : b.toNat < 128
    ·have e1 : decide ((b.toNat : Int) < 128) = true := by simp; omega
     have hx := bits_and127 b
     obtain ⟨og, _, _⟩ := or_group_byte k v b hk hv.out hwb
     have OG := Lib.hid og
     have hres := hrd.out
     rw [rdV_last _ _ _ _ _ hwb hlast, ← Nat.mod_eq_of_lt hlast] at hres
     have HRES := Lib.hid hres
     clear hrd hres og
     go_wp2
     go_ret2
     exact ⟨ret_two (v_int (by rw [HRES.out]; exact OG.out)) (v_int (by rw [HRES.out]; rfl)), by rw [HRES.out]; show RdAt w1 g s (i + (1 + k)); rw [Nat.add_comm 1 k, ← Nat.add_assoc]; exact hr1, hkp⟩
    ·have e1 : decide ((b.toNat : Int) < 128) = false := by simp; omega
     have hx := bits_and127 b
     obtain ⟨og, og2, og3⟩ := or_group_byte k v b hk hv.out hwb
     have OG := Lib.hid og
     have OG2 := Lib.hid og2
     have hk8 : k ≤ 8 := by
      unfold wrongB at hwb; have := of_decide_eq_false hwb; omega
     have hres := hrd.out
     rw [rdV_more _ _ _ _ _ hwb hlast, show b.toNat - 128 = b.toNat % 128 by omega] at hres
     have HRES := Lib.hid hres
     clear hrd hres og og2
     go_wp2
     go_roundw
     case rel =>
      refine ⟨k + 1, v + b.toNat % 128 * 128 ^ k, by omega, v_int OG.out, by go_num, hr1, OG2, og3, hkp, ?_⟩
      have he : 9 - k = 9 - (k + 1) + 1 := by omega
      show _ = _
      rw [HRES.out, he]
      simp only [Nat.add_assoc, Nat.add_comm 1 k]
     case measure => simp [intOf]; omega
   ·have hres := hrd.out
    rw [rdV_wrong _ _ _ _ _ hwb] at hres
    have HRES := Lib.hid hres
    clear hrd hres
    go_wp2
    go_ret2
    exact ⟨ret_two (v_int (by rw [HRES.out]; rfl)) (v_int (by rw [HRES.out]; rfl)), by rw [HRES.out]; show RdAt w1 g s (i + (1 + k)); rw [Nat.add_comm 1 k, ← Nat.add_assoc]; exact hr1, hkp⟩
  ·have hpos : i + k = s.size := by have := hr.2.1; omega
   have hres := hrd.out
   rw [hpos] at hr hres
   rw [rest_nil, rdV] at hres
   have HRES := Lib.hid hres
   have HPOS := Lib.hid hpos
   clear hrd hres hpos
   go_wp2_with fail
   refine (octetByteEnd g s wr hr).mono ?_
   rintro e w1 ⟨rfl, n1, rfl⟩
   go_wp2
   go_ret2
   exact ⟨ret_two (v_int (by rw [HRES.out]; rfl)) (v_int (by rw [HRES.out]; rfl)), by rw [HRES.out]; show RdAt _ g s (i + (0 + k)); rw [Nat.zero_add, HPOS.out]; exact hr, hkp.trans (Kept.drewN _ _ _) (fun _ _ h => h)⟩
theorem Try.infoU64 : (Try.prog.info? 24).map (fun i => (i.zero, i.size, i.bytes)) = some (some (.int .u64 0), 1, 8) := by kernel_rfl
theorem rdV_ok (f : Nat) : ∀ k v l, (rdV f k v l).2.1 = 0 → 1 ≤ (rdV f k v l).2.2 := by
 induction f with
 | zero => intro k v l h; simp [rdV] at h
 | succ f ih =>
  intro k v l
  cases l with
  | nil => simp [rdV]
  | cons b l =>
   rw [rdV]
   split
   ·simp
   ·split
    ·simp
    ·simp
theorem rd_ok (l : List UInt8) (h : (rd l).2.1 = 0) : 1 ≤ (rd l).2.2 := rdV_ok _ _ _ _ h
theorem rdV_bound (f : Nat) : ∀ k v l, v ≤ 18446744073709551615 → k + f = 10 → v < 128 ^ k → (rdV f k v l).1 ≤ 18446744073709551615 := by
 induction f with
 | zero => intro k v l _ _ _; simp [rdV]
 | succ f ih =>
  intro k v l hv hk hp
  cases l with
  | nil => simp [rdV]
  | cons b l =>
   cases hw : wrongB k b
   ·have hg := or_group_byte k v b (by omega) hp hw
    by_cases hb : b.toNat < 128
    ·rw [rdV_last _ _ _ _ _ hw hb]
     have := hg.2.2
     rw [Nat.mod_eq_of_lt hb] at this
     exact this
    ·rw [rdV_more _ _ _ _ _ hw hb, show b.toNat - 128 = b.toNat % 128 by have := b.toNat_lt; omega]
     exact ih _ _ _ hg.2.2 (by omega) hg.2.1
   ·rw [rdV_wrong _ _ _ _ _ hw]; simp
theorem rd_bound (l : List UInt8) : (rd l).1 ≤ 18446744073709551615 := rdV_bound 10 0 0 l (by omega) rfl (by omega)
def cells64 (l : List Nat) : List Value := l.map fun (n : Nat) => Value.int .u64 (n : Int)
theorem cells64_push (d : List Nat) (n : Nat) : cells64 d ++ [.int .u64 (n : Int)] = cells64 (d ++ [n]) := by simp [cells64]
theorem cells64_get {l : List Nat} {k n : Nat} (h : l[k]? = some n) : (cells64 l)[k]? = some (.int .u64 (n : Int)) := by simp [cells64, h]
theorem cells64_length (l : List Nat) : (cells64 l).length = l.length := by simp [cells64]
theorem cells64_one (l : List Nat) : ∀ u ∈ cells64 l, u.oneCell' = true := fun u hu => by
 obtain ⟨n, _, rfl⟩ := List.mem_map.1 hu; rfl
structure Th where
 at_ : Int
 ph : Int
 rg : Int
 st : Int
 tk : Nat
 r : Nat → Nat
 sn : List Nat
abbrev thC (x : Th) (v : Value) : Array Value := #[.int .i64 x.at_, .int .i64 x.ph, .int .i64 x.rg, .int .i64 x.st, .int .u64 (x.tk : Int), .int .u64 (x.r 0 : Int), .int .u64 (x.r 1 : Int), .int .u64 (x.r 2 : Int), .int .u64 (x.r 3 : Int), .int .u64 (x.r 4 : Int), .int .u64 (x.r 5 : Int), .int .u64 (x.r 6 : Int), .int .u64 (x.r 7 : Int), v]
def thOk (x : Th) : Prop := i64 x.at_ ∧ i64 x.ph ∧ i64 x.rg ∧ i64 x.st ∧ x.tk ≤ 18446744073709551615 ∧ (∀ i, x.r i ≤ 18446744073709551615) ∧ ∀ n ∈ x.sn, n ≤ 18446744073709551615
theorem thC_reg (x : Th) (v : Value) {i : Nat} (h : i < 8) : (thC x v)[5 + i]? = some (.int .u64 (x.r i : Int)) := by
 have : i = 0 ∨ i = 1 ∨ i = 2 ∨ i = 3 ∨ i = 4 ∨ i = 5 ∨ i = 6 ∨ i = 7 := by omega
 rcases this with rfl | rfl | rfl | rfl | rfl | rfl | rfl | rfl <;> rfl
def setR (x : Th) (i u : Nat) : Th := { x with r := fun j => if j = i then u else x.r j }
theorem thC_set (x : Th) (v : Value) {i u : Nat} (h : i < 8) : (thC x v).setIfInBounds (5 + i) (.int .u64 (u : Int)) = thC (setR x i u) v := by
 have : i = 0 ∨ i = 1 ∨ i = 2 ∨ i = 3 ∨ i = 4 ∨ i = 5 ∨ i = 6 ∨ i = 7 := by omega
 rcases this with rfl | rfl | rfl | rfl | rfl | rfl | rfl | rfl <;> rfl
def cdX (n : Nat) (x : In) : Bool := rightB x && !(jumpsB x.op && decide (n < x.k))
def codeB (l : List In) : Bool := decide (l.length ≤ 256) && l.all (cdX l.length)
theorem codeB_long {l : List In} (h : 256 < l.length) : codeB l = false := by unfold codeB; rw [decide_eq_false (by omega)]; rfl
theorem codeB_bad {l : List In} {i : Nat} {x : In} (hx : l[i]? = some x) (hb : cdX l.length x = false) : codeB l = false := by
 unfold codeB
 rw [Bool.and_eq_false_iff]
 refine .inr ?_
 rw [List.all_eq_false]
 exact ⟨x, List.mem_of_getElem? hx, by rw [hb]; decide⟩
theorem codeB_ok {l : List In} (hl : ¬ 256 < l.length) (h : ∀ y ∈ l, cdX l.length y = true) : codeB l = true := by
 unfold codeB
 rw [decide_eq_true (by omega), List.all_eq_true.2 h]; rfl
theorem take_all {l : List In} {k n : Nat} {x : In} (ha : ∀ y ∈ l.take k, cdX n y = true) (hx : l[k]? = some x) (hr : cdX n x = true) : ∀ y ∈ l.take (k + 1), cdX n y = true := by
 intro y hy
 rw [List.take_add_one, hx, Option.toList_some, List.mem_append] at hy
 rcases hy with hy | hy
 ·exact ha y hy
 ·rw [List.mem_singleton] at hy; subst hy; exact hr
set_option maxHeartbeats 8000000 in
set_option maxRecDepth 100000 in
theorem code16 (l : List In) (A : Option Addr) (c : Nat) (w : World) (h : InsAt w A c l) :
  Calls Try.prog 66 #[.slice A l.length c] w fun e w' => e = .returned (.bool (codeB l)) ∧ Below w.heap.size w w' := by
 obtain ⟨hc1, hc2⟩ := seq_form h
 have HH := Lib.hid h
 have HB := Lib.hid (Below.refl w.heap.size w)
 have HLO := Lib.hid (@codeB_long l)
 have HBAD := Lib.hid (fun i x => @codeB_bad l i x)
 have HOK := Lib.hid (@codeB_ok l)
 clear h
 by_cases hl : 256 < l.length
 ·have e1 : decide ((256 : Int) < (l.length : Int)) = true := decide_eq_true (by omega)
  have e2 : decide (256 < l.length) = true := decide_eq_true hl
  have HE := Lib.hid (HLO.out hl)
  clear HLO HBAD HOK
  go_enter Try.func66, Try.ntmps66
  go_wp2
  go_ret
  exact ⟨ret_bool HE.out.symm, HB.out⟩
 have e1 : decide ((256 : Int) < (l.length : Int)) = false := decide_eq_false (by omega)
 have e2 : decide (256 < l.length) = false := decide_eq_false hl
 have HOK2 := Lib.hid (HOK.out hl)
 clear HLO HOK
 go_enter Try.func66, Try.ntmps66
 go_wp2_with fail
 go_loopw [10] (fun u wr => ∃ k : Nat, k ≤ l.length ∧ u = .int .i64 k ∧ Hid (∀ y ∈ l.take k, cdX l.length y = true) ∧ Hid (Below w.heap.size w wr)) (fun u _ => l.length - (intOf u).toNat)
 case atStart => exact ⟨0, by omega, rfl, (by show ∀ y ∈ l.take 0, _; simp), HB⟩
 case round =>
  clear HB
  obtain ⟨k, hk, rfl, HA, HB⟩ := hrel
  by_cases hlt : k < l.length
  ·have hki : (k : Int) < (l.length : Int) := by omega
   obtain ⟨x, hx⟩ : ∃ x, l[k]? = some x := ⟨_, List.getElem?_eq_getElem hlt⟩
   obtain ⟨b, off, rfl, hbl, hg⟩ := InsAt.at_ (HH.out.later HB.out) hx
   have g0 := hg 0 _ (by decide) rfl
   have g1 := hg 1 _ (by decide) rfl
   have g2 := hg 2 _ (by decide) rfl
   have g3 := hg 3 _ (by decide) rfl
   have g4 := hg 4 _ (by decide) rfl
   have g5 := hg 5 _ (by decide) rfl
   rw [Nat.add_zero] at g0
   have HBD := Lib.hid (HBAD.out k x hx)
   have HNX := Lib.hid (fun h => take_all (n := l.length) HA.out hx h)
   have hbx : Below wr.heap.size wr (wr.alloc (.cells (inC x) 42)) := (Below.refl _ _).alloc (Nat.le_refl _) _
   have HB2 := Lib.hid (HB.out.trans (hbx.mono HB.out.size))
   have HL2 := Lib.hid (Lies.made wr 42 (inC x))
   have HR := Lib.hid (fun w => right_any x w)
   have HJ := Lib.hid (fun w => jumps_any x w)
   have HCX : Hid (cdX l.length x = (rightB x && !(jumpsB x.op && decide (l.length < x.k)))) := rfl
   clear hg hx hbx HB HA
   go_upto_region 6 with (fail)
   clear g0 g1 g2 g3 g4 g5
   generalize wr.alloc (.cells (inC x) 42) = w2 at *
   generalize wr.heap.size = n2 at *
   have c0 := (HL2.out.cell 0).trans (show _ = some (Value.int .i64 x.op) from rfl)
   have c1 := (HL2.out.cell 1).trans (show _ = some (Value.int .i64 x.a) from rfl)
   have c2 := (HL2.out.cell 2).trans (show _ = some (Value.int .i64 x.b) from rfl)
   have c3 := (HL2.out.cell 3).trans (show _ = some (Value.int .i64 x.c) from rfl)
   have c4 := (HL2.out.cell 4).trans (show _ = some (Value.int .i64 x.d) from rfl)
   have c5 := (HL2.out.cell 5).trans (show _ = some (Value.int .u64 (x.k : Int)) from rfl)
   have cl := HL2.out.lt
   go_wp2_with fail
   refine (HR.out _).mono ?_
   rintro e w3 ⟨rfl, hbm⟩
   replace HB2 := Lib.hid (HB2.out.trans (hbm.mono HB2.out.size))
   replace HL2 := Lib.hid (HL2.out.below hbm HL2.out.lt)
   clear hbm c0 c1 c2 c3 c4 c5 cl HR
   generalize rightB x = rb at *
   cases rb with
   | false =>
    have HE := Lib.hid (HBD.out (by rw [HCX.out]; rfl))
    clear HBD HNX HCX HJ
    go_wp2
    go_ret
    exact ⟨ret_bool HE.out.symm, HB2.out⟩
   | true =>
    have c0 := (HL2.out.cell 0).trans (show _ = some (Value.int .i64 x.op) from rfl)
    have c1 := (HL2.out.cell 1).trans (show _ = some (Value.int .i64 x.a) from rfl)
    have c2 := (HL2.out.cell 2).trans (show _ = some (Value.int .i64 x.b) from rfl)
    have c3 := (HL2.out.cell 3).trans (show _ = some (Value.int .i64 x.c) from rfl)
    have c4 := (HL2.out.cell 4).trans (show _ = some (Value.int .i64 x.d) from rfl)
    have c5 := (HL2.out.cell 5).trans (show _ = some (Value.int .u64 (x.k : Int)) from rfl)
    have cl := HL2.out.lt
    go_wp2_with fail
    refine (HJ.out _).mono ?_
    rintro e w4 ⟨rfl, hbm⟩
    replace HB2 := Lib.hid (HB2.out.trans (hbm.mono HB2.out.size))
    replace HL2 := Lib.hid (HL2.out.below hbm HL2.out.lt)
    clear hbm c0 c1 c2 c3 c4 c5 cl HJ
    have c0 := (HL2.out.cell 0).trans (show _ = some (Value.int .i64 x.op) from rfl)
    have c1 := (HL2.out.cell 1).trans (show _ = some (Value.int .i64 x.a) from rfl)
    have c2 := (HL2.out.cell 2).trans (show _ = some (Value.int .i64 x.b) from rfl)
    have c3 := (HL2.out.cell 3).trans (show _ = some (Value.int .i64 x.c) from rfl)
    have c4 := (HL2.out.cell 4).trans (show _ = some (Value.int .i64 x.d) from rfl)
    have c5 := (HL2.out.cell 5).trans (show _ = some (Value.int .u64 (x.k : Int)) from rfl)
    have cl := HL2.out.lt
    have hwl : IntKind.u64.wrap (l.length : Int) = (l.length : Int) := by rw [IntKind.wrap_u64]; omega
    generalize jumpsB x.op = jb at *
    obtain ⟨kb, hkb⟩ : ∃ b, decide (l.length < x.k) = b := ⟨_, rfl⟩
    have hkb2 : decide ((l.length : Int) < (x.k : Int)) = kb := by rw [← hkb]; congr 1; apply propext; omega
    rw [hkb] at HCX
    cases jb with
    | false =>
     have HN2 := Lib.hid (HNX.out (by rw [HCX.out]; rfl))
     clear HBD HNX HCX
     go_wp2
     go_roundw
     case rel => exact ⟨k + 1, by omega, by go_num, HN2, HB2⟩
     case measure => simp [intOf]; omega
    | true =>
     cases kb with
     | false =>
      have HN2 := Lib.hid (HNX.out (by rw [HCX.out]; rfl))
      clear HBD HNX HCX
      go_wp2
      go_roundw
      case rel => exact ⟨k + 1, by omega, by go_num, HN2, HB2⟩
      case measure => simp [intOf]; omega
     | true =>
      have HE := Lib.hid (HBD.out (by rw [HCX.out]; rfl))
      clear HBD HNX HCX
      go_wp2
      go_ret
      exact ⟨ret_bool HE.out.symm, HB2.out⟩
  ·obtain rfl : k = l.length := by omega
   have HA2 := HA.out
   rw [List.take_length] at HA2
   have HE := Lib.hid (HOK2.out HA2)
   clear HA2 HA HOK2 HBAD
   go_wp2
   go_ret
   exact ⟨ret_bool HE.out.symm, HB.out⟩
theorem Try.info64 : (Try.prog.info? 24).map (fun i => (i.zero, i.size, i.bytes)) = some (some (.int .u64 0), 1, 8) := by kernel_rfl
set_option maxHeartbeats 2000000 in
set_option maxRecDepth 100000 in
theorem clone16 (l : List Nat) (A : Option Addr) (c : Nat) (w : World) (h : SeqS w 1 (.slice A l.length c) l.length (cells64 l)) (hl : l.length ≤ 1000000) :
  Calls Try.prog 53 #[.slice A l.length c] w fun e w' => ∃ v, e = .returned v ∧ w'.ownsRow w.heap.size 24 1 v l.length (cells64 l) ∧ Below w.heap.size w w' := by
 have hf := h
 obtain ⟨h1, A', c', e1, hlc, hcm, h0, hcell⟩ := hf
 simp only [Value.slice.injEq, true_and] at e1
 obtain ⟨rfl, rfl⟩ := e1
 have HLEN := Lib.hid hl
 have hlen2 : (cells64 l).length = l.length := by simp [cells64]
 cases A with
 | none =>
  have hn := h0 rfl
  have hl0 : l = [] := by
   cases l with
   | nil => rfl
   | cons a t => simp only [List.length_cons] at hlc; omega
  subst hl0
  have HEQ : ∀ q : World, (binOp .eql 38 (.slice none ([] : List Nat).length c) (.slice none 0 0)).run Try.prog q = .ok (.bool true) q := fun q => Lib.run_eql_slice_nil q _ _ none _ _ _ _ Try.underlying38
  simp only [List.length_nil] at HEQ
  clear h0 hn hcell h1 h
  go_enter Try.func53, Try.ntmps53
  go_wp2
  go_ret
  exact ⟨_, rfl, World.ownsRow_nil _ _ _ _, Below.refl _ _⟩
 | some p =>
  obtain ⟨b, o, f⟩ := p
  have HSQ := Lib.hid (SeqS.later h ((Below.refl w.heap.size w).alloc (Nat.le_refl _) (.cells #[] 24)))
  have HE := Lib.hid (owned_empty (w := w) (B := w.heap.size) 24 1 (Nat.le_refl _))
  have HBA := Lib.hid ((Below.refl w.heap.size w).alloc (Nat.le_refl _) (.cells #[] 24))
  have HEQ : ∀ q : World, (binOp .eql 38 (.slice (some ⟨b, o, f⟩) l.length c) (.slice none 0 0)).run Try.prog q = .ok (.bool false) q := fun q => Lib.run_eql_slice_nil q _ _ (some ⟨b, o, f⟩) _ _ _ _ Try.underlying38
  clear h0 hcell h1 h hlen2 hl
  go_enter Try.func53, Try.ntmps53
  go_wp2_with (at_builtin; refine append_argS (w.alloc (.cells #[] 24)) 1 rfl (.tmp 5) (.tmp 6) 38 rfl w.heap.size 24 (.int .u64 0) 8 Try.underlying38 Try.info64 rfl (by decide) _ 0 [] rfl HE.out (some ⟨b, o, f⟩) l.length c rfl (cells64 l) HSQ.out (cells64_one _) (by have := HLEN.out; unfold maxLen; omega) (by have := HLEN.out; omega) (by simp) ?_)
  intro v' w3 ho3 hb3 hg3
  have HO := Lib.hid ho3
  have HB := Lib.hid (HBA.out.trans hb3)
  clear ho3 hb3 hg3 HSQ HE HBA
  go_wp2
  go_ret
  exact ⟨v', rfl, HO.out, HB.out⟩
theorem infoRi17 : (Try.prog.info? 102).map (fun i => (i.zero, i.size, i.bytes)) = some (some (.agg #[.int .i64 0, .int .i64 0, .int .i64 0]), 3, 24) := by kernel_rfl
theorem infoIn17 : (Try.prog.info? 42).map (fun i => (i.zero, i.size, i.bytes)) = some (some (.agg #[.int .i64 0, .int .i64 0, .int .i64 0, .int .i64 0, .int .i64 0, .int .u64 0]), 6, 48) := by kernel_rfl
theorem riF_one17 (l : List Ri) : ∀ u ∈ rowsOf riF l, u.oneCell' = true := fun u hu => by
 obtain ⟨x, _, h⟩ := rowsOf_mem hu
 unfold riF at h
 simp at h
 rcases h with rfl | rfl | rfl <;> rfl
theorem inF_one17 (l : List In) : ∀ u ∈ rowsOf inF l, u.oneCell' = true := fun u hu => by
 obtain ⟨x, _, h⟩ := rowsOf_mem hu
 unfold inF at h
 simp at h
 rcases h with rfl | rfl | rfl | rfl | rfl | rfl <;> rfl
set_option maxHeartbeats 2000000 in
set_option maxRecDepth 100000 in
theorem cloneRi (l : List Ri) (A : Option Addr) (c : Nat) (w : World) (h : SeqS w 3 (.slice A l.length c) l.length (rowsOf riF l)) (hl : l.length ≤ 1000000) :
  Calls Try.prog 60 #[.slice A l.length c] w fun e w' => ∃ v, e = .returned v ∧ w'.ownsRow w.heap.size 102 3 v l.length (rowsOf riF l) ∧ Below w.heap.size w w' := by
 have hf := h
 obtain ⟨h1, A', c', e1, hlc, hcm, h0, hcell⟩ := hf
 simp only [Value.slice.injEq, true_and] at e1
 obtain ⟨rfl, rfl⟩ := e1
 have HLEN := Lib.hid hl
 cases A with
 | none =>
  have hn := h0 rfl
  have hl0 : l = [] := by
   cases l with
   | nil => rfl
   | cons a t => simp only [List.length_cons] at hlc; omega
  subst hl0
  have HEQ : ∀ q : World, (binOp .eql 45 (.slice none ([] : List Ri).length c) (.slice none 0 0)).run Try.prog q = .ok (.bool true) q := fun q => Lib.run_eql_slice_nil q _ _ none _ _ _ _ Try.underlying45
  simp only [List.length_nil] at HEQ
  clear h0 hn hcell h1 h
  go_enter Try.func60, Try.ntmps60
  go_wp2
  go_ret
  exact ⟨_, rfl, World.ownsRow_nil _ _ _ _, Below.refl _ _⟩
 | some p =>
  obtain ⟨b, o, f⟩ := p
  have HSQ := Lib.hid (SeqS.later h ((Below.refl w.heap.size w).alloc (Nat.le_refl _) (.cells #[] 102)))
  have HE := Lib.hid (owned_empty (w := w) (B := w.heap.size) 102 3 (Nat.le_refl _))
  have HBA := Lib.hid ((Below.refl w.heap.size w).alloc (Nat.le_refl _) (.cells #[] 102))
  have HEQ : ∀ q : World, (binOp .eql 45 (.slice (some ⟨b, o, f⟩) l.length c) (.slice none 0 0)).run Try.prog q = .ok (.bool false) q := fun q => Lib.run_eql_slice_nil q _ _ (some ⟨b, o, f⟩) _ _ _ _ Try.underlying45
  clear h0 hcell h1 h hl
  go_enter Try.func60, Try.ntmps60
  go_wp2_with (at_builtin; refine append_argS (w.alloc (.cells #[] 102)) 3 rfl (.tmp 5) (.tmp 6) 45 rfl w.heap.size 102 _ 24 Try.underlying45 infoRi17 rfl (by decide) _ 0 [] rfl HE.out (some ⟨b, o, f⟩) l.length c rfl (rowsOf riF l) HSQ.out (riF_one17 _) (by have := HLEN.out; unfold maxLen; omega) (by have := HLEN.out; omega) (by simp) ?_)
  intro v' w3 ho3 hb3 hg3
  have HO := Lib.hid ho3
  have HB := Lib.hid (HBA.out.trans hb3)
  clear ho3 hb3 hg3 HSQ HE HBA
  go_wp2
  go_ret
  exact ⟨v', rfl, HO.out, HB.out⟩
set_option maxHeartbeats 2000000 in
set_option maxRecDepth 100000 in
theorem cloneIn (l : List In) (A : Option Addr) (c : Nat) (w : World) (h : SeqS w 6 (.slice A l.length c) l.length (rowsOf inF l)) (hl : l.length ≤ 1000000) :
  Calls Try.prog 61 #[.slice A l.length c] w fun e w' => ∃ v, e = .returned v ∧ w'.ownsRow w.heap.size 42 6 v l.length (rowsOf inF l) ∧ Below w.heap.size w w' := by
 have hf := h
 obtain ⟨h1, A', c', e1, hlc, hcm, h0, hcell⟩ := hf
 simp only [Value.slice.injEq, true_and] at e1
 obtain ⟨rfl, rfl⟩ := e1
 have HLEN := Lib.hid hl
 cases A with
 | none =>
  have hn := h0 rfl
  have hl0 : l = [] := by
   cases l with
   | nil => rfl
   | cons a t => simp only [List.length_cons] at hlc; omega
  subst hl0
  have HEQ : ∀ q : World, (binOp .eql 43 (.slice none ([] : List In).length c) (.slice none 0 0)).run Try.prog q = .ok (.bool true) q := fun q => Lib.run_eql_slice_nil q _ _ none _ _ _ _ Try.underlying43
  simp only [List.length_nil] at HEQ
  clear h0 hn hcell h1 h
  go_enter Try.func61, Try.ntmps61
  go_wp2
  go_ret
  exact ⟨_, rfl, World.ownsRow_nil _ _ _ _, Below.refl _ _⟩
 | some p =>
  obtain ⟨b, o, f⟩ := p
  have HSQ := Lib.hid (SeqS.later h ((Below.refl w.heap.size w).alloc (Nat.le_refl _) (.cells #[] 42)))
  have HE := Lib.hid (owned_empty (w := w) (B := w.heap.size) 42 6 (Nat.le_refl _))
  have HBA := Lib.hid ((Below.refl w.heap.size w).alloc (Nat.le_refl _) (.cells #[] 42))
  have HEQ : ∀ q : World, (binOp .eql 43 (.slice (some ⟨b, o, f⟩) l.length c) (.slice none 0 0)).run Try.prog q = .ok (.bool false) q := fun q => Lib.run_eql_slice_nil q _ _ (some ⟨b, o, f⟩) _ _ _ _ Try.underlying43
  clear h0 hcell h1 h hl
  go_enter Try.func61, Try.ntmps61
  go_wp2_with (at_builtin; refine append_argS (w.alloc (.cells #[] 42)) 6 rfl (.tmp 5) (.tmp 6) 43 rfl w.heap.size 42 _ 48 Try.underlying43 infoIn17 rfl (by decide) _ 0 [] rfl HE.out (some ⟨b, o, f⟩) l.length c rfl (rowsOf inF l) HSQ.out (inF_one17 _) (by have := HLEN.out; unfold maxLen; omega) (by have := HLEN.out; omega) (by simp) ?_)
  intro v' w3 ho3 hb3 hg3
  have HO := Lib.hid ho3
  have HB := Lib.hid (HBA.out.trans hb3)
  clear ho3 hb3 hg3 HSQ HE HBA
  go_wp2
  go_ret
  exact ⟨v', rfl, HO.out, HB.out⟩
def rdMany : Nat → ByteArray → Nat → List Nat × Nat × Nat
 | 0, _, p => ([], 0, p)
 | c + 1, s, p =>
  if (rd (restOf s p)).2.1 = 0 then
   ((rd (restOf s p)).1 :: (rdMany c s (p + (rd (restOf s p)).2.2)).1, (rdMany c s (p + (rd (restOf s p)).2.2)).2.1, (rdMany c s (p + (rd (restOf s p)).2.2)).2.2)
  else ([], (rd (restOf s p)).2.1, p + (rd (restOf s p)).2.2)
def rdListErr (s : ByteArray) (p : Nat) (most : Int) : Nat :=
 if most < 0 then 1 else if (rd (restOf s p)).2.1 ≠ 0 then (rd (restOf s p)).2.1 else if most < (rd (restOf s p)).1 then 4 else (rdMany (rd (restOf s p)).1 s (p + (rd (restOf s p)).2.2)).2.1
def rdListAt (s : ByteArray) (p : Nat) (most : Int) : Nat :=
 if most < 0 then p else if (rd (restOf s p)).2.1 ≠ 0 then p + (rd (restOf s p)).2.2 else if most < (rd (restOf s p)).1 then p + (rd (restOf s p)).2.2 else (rdMany (rd (restOf s p)).1 s (p + (rd (restOf s p)).2.2)).2.2
def rdListOf (s : ByteArray) (p : Nat) (most : Int) : List Nat := if rdListErr s p most = 0 then (rdMany (rd (restOf s p)).1 s (p + (rd (restOf s p)).2.2)).1 else []
theorem many_more {n p0 p : Nat} {s : ByteArray} {d : List Nat} (hd : d.length < n)
  (h : rdMany n s p0 = (d ++ (rdMany (n - d.length) s p).1, (rdMany (n - d.length) s p).2.1, (rdMany (n - d.length) s p).2.2)) (he : (rd (restOf s p)).2.1 = 0) :
  rdMany n s p0 = (d ++ [(rd (restOf s p)).1] ++ (rdMany (n - (d.length + 1)) s (p + (rd (restOf s p)).2.2)).1, (rdMany (n - (d.length + 1)) s (p + (rd (restOf s p)).2.2)).2.1, (rdMany (n - (d.length + 1)) s (p + (rd (restOf s p)).2.2)).2.2) := by
 have e : n - d.length = n - (d.length + 1) + 1 := by omega
 rw [h, e, rdMany, if_pos he]
 simp
theorem many_stop {n p0 p : Nat} {s : ByteArray} {d : List Nat} (hd : d.length < n)
  (h : rdMany n s p0 = (d ++ (rdMany (n - d.length) s p).1, (rdMany (n - d.length) s p).2.1, (rdMany (n - d.length) s p).2.2)) (he : (rd (restOf s p)).2.1 ≠ 0) :
  (rdMany n s p0).2.1 = (rd (restOf s p)).2.1 ∧ (rdMany n s p0).2.2 = p + (rd (restOf s p)).2.2 := by
 have e : n - d.length = n - (d.length + 1) + 1 := by omega
 rw [h, e, rdMany, if_neg he]
 exact ⟨rfl, rfl⟩
theorem many_done {n p0 p : Nat} {s : ByteArray} {d : List Nat} (hd : d.length = n)
  (h : rdMany n s p0 = (d ++ (rdMany (n - d.length) s p).1, (rdMany (n - d.length) s p).2.1, (rdMany (n - d.length) s p).2.2)) : rdMany n s p0 = (d, 0, p) := by
 rw [h, hd, Nat.sub_self]; simp [rdMany]
set_option maxHeartbeats 1000000 in
theorem varintReadList (g : Nat) (s : ByteArray) (i : Nat) (most : Int) (w : World) (h : RdAt w g s i) (hs : s.size ≤ 1099511627776) (hm : most ≤ 9223372036854775807) :
  Calls Try.prog 71 #[.pointer (some ⟨g, 0, none⟩), .int .i64 most] w fun e w' => ∃ v,
  e = .returned (.tuple #[v, .int .i64 (rdListErr s i most)]) ∧ w'.ownsRow w.heap.size 24 1 v (rdListOf s i most).length (cells64 (rdListOf s i most)) ∧ RdAt w' g s (rdListAt s i most) ∧ Kept (oneRow g) w w' := by
 by_cases hneg : most < 0
 ·have hE : rdListErr s i most = 1 := by unfold rdListErr; rw [if_pos hneg]
  have hA : rdListAt s i most = i := by unfold rdListAt; rw [if_pos hneg]
  have hO : rdListOf s i most = [] := by unfold rdListOf; rw [hE]; rfl
  rw [hE, hA, hO]
  go_enter Try.func71, Try.ntmps71
  go_wp2
  go_ret2
  exact ⟨_, rfl, World.ownsRow_nil _ _ _ _, h, Kept.refl _ _⟩
 ·have e0 : decide (most < 0) = false := by simpa using hneg
  obtain ⟨M, rfl⟩ := Int.eq_ofNat_of_zero_le (by omega : 0 ≤ most)
  have hgs := h.1.lt
  have hE : rdListErr s i M = if (rd (restOf s i)).2.1 ≠ 0 then (rd (restOf s i)).2.1 else if M < (rd (restOf s i)).1 then 4 else (rdMany (rd (restOf s i)).1 s (i + (rd (restOf s i)).2.2)).2.1 := by
   unfold rdListErr; rw [if_neg hneg]; simp only [Int.ofNat_lt]
  have hA : rdListAt s i M = if (rd (restOf s i)).2.1 ≠ 0 then i + (rd (restOf s i)).2.2 else if M < (rd (restOf s i)).1 then i + (rd (restOf s i)).2.2 else (rdMany (rd (restOf s i)).1 s (i + (rd (restOf s i)).2.2)).2.2 := by
   unfold rdListAt; rw [if_neg hneg]; simp only [Int.ofNat_lt]
  have hO : rdListOf s i M = if rdListErr s i M = 0 then (rdMany (rd (restOf s i)).1 s (i + (rd (restOf s i)).2.2)).1 else [] := rfl
  have hb := rd_bound (restOf s i)
  have hused := rd_ok (restOf s i)
  go_enter Try.func71, Try.ntmps71
  have HE := Lib.hid hE
  have HA := Lib.hid hA
  have HO := Lib.hid hO
  have HU := Lib.hid hused
  clear hE hA hO hused
  go_wp2_with fail
  refine (varintRead g s i w h).mono ?_
  rintro e w1 ⟨rfl, h1, k1⟩
  generalize hr : rd (restOf s i) = r at *
  clear hr
  obtain ⟨n, er, c⟩ := r
  simp only at hb h1
  by_cases her : er = 0
  ·subst her
   have hc1 : 1 ≤ c := HU.out rfl
   by_cases hbig : M < n
   ·have e1 : decide (M < n) = true := by simpa using hbig
    have qE : rdListErr s i M = 4 := by rw [HE.out]; simp [hbig]
    have qA : rdListAt s i M = i + c := by rw [HA.out]; simp [hbig]
    have qO : rdListOf s i M = [] := by rw [HO.out, qE]; rfl
    have QE := Lib.hid qE
    have QA := Lib.hid qA
    have QO := Lib.hid qO
    clear qE qA qO
    go_wp2
    go_ret2
    exact ⟨_, ret_two rfl (v_int (by rw [QE.out]; rfl)), by rw [QO.out]; exact World.ownsRow_nil _ _ _ _, by rw [QA.out]; exact h1, k1⟩
   ·have e1 : decide (M < n) = false := by simpa using hbig
    have qE : rdListErr s i M = (rdMany n s (i + c)).2.1 := by rw [HE.out]; simp [hbig]
    have qA : rdListAt s i M = (rdMany n s (i + c)).2.2 := by rw [HA.out]; simp [hbig]
    have qO : rdListOf s i M = if (rdMany n s (i + c)).2.1 = 0 then (rdMany n s (i + c)).1 else [] := by rw [HO.out, qE]
    have QE := Lib.hid qE
    have QA := Lib.hid qA
    have QO := Lib.hid qO
    clear qE qA qO HE HA HO HU
    go_wp2_with fail
    have hs1 := k1.size
    go_loopw [8] (fun t wr => ∃ (d : List Nat) (p : Nat), d.length ≤ n ∧ d.length ≤ p ∧ RdAt wr g s p ∧ wr.ownsRow w.heap.size 24 1 t d.length (cells64 d) ∧ Kept (oneRow g) w wr ∧
      Hid (rdMany n s (i + c) = (d ++ (rdMany (n - d.length) s p).1, (rdMany (n - d.length) s p).2.1, (rdMany (n - d.length) s p).2.2)))
     (fun t _ => n - (match t with | .slice _ l _ => l | _ => 0))
    case atStart => exact ⟨[], i + c, by simp, by simp, h1, World.ownsRow_nil _ _ _ _, k1, rfl⟩
    case round =>
     clear h1 k1
     obtain ⟨d, p, hd1, hd2, hr, ho, hk, hm⟩ := hrel
     have hp := hr.2.1
     have hwr : w.heap.size ≤ wr.heap.size := hk.size
     obtain ⟨A, cap, rfl⟩ : ∃ A cap, u8 = .slice A d.length cap := by
      rcases owns_row ho with ⟨e1, e2, _⟩ | ⟨r, cap, cur, e1, _⟩
      ·exact ⟨none, 0, by rw [e1, e2]⟩
      ·exact ⟨_, cap, e1⟩
     by_cases hlt : d.length < n
     ·have e2 : decide (d.length < n) = true := by simpa using hlt
      have hb2 := rd_bound (restOf s p)
      have hu2 := rd_ok (restOf s p)
      have hmore := Lib.hid (many_more hlt hm.out)
      have hstop := Lib.hid (many_stop hlt hm.out)
      have HU2 := Lib.hid hu2
      clear hm hu2
      go_wp2_with fail
      refine (varintRead g s p wr hr).mono ?_
      rintro e w2 ⟨rfl, h2, k2⟩
      have ho2 := owns_kept ho k2 (fun r cur _ hl (e : r = g) => by subst e; exact absurd (hl.same hr.1).1 (by decide))
      have k2 := hk.trans k2 (fun _ _ h => h)
      have hw2 : w.heap.size ≤ w2.heap.size := k2.size
      clear hr hk ho
      generalize rd (restOf s p) = r2 at *
      obtain ⟨n2, er2, c2⟩ := r2
      simp only at hb2 h2
      by_cases her2 : er2 = 0
      ·subst her2
       have hc2 : 1 ≤ c2 := HU2.out rfl
       have HM := Lib.hid (hmore.out rfl)
       clear hmore hstop HU2
       have hp2 := h2.2.1
       go_wp2_with (at_builtin; refine append_one w2 (.int .u64 n2) rfl (.tmp 38) (.tmp 40) 38 rfl w.heap.size 24 _ _ Try.underlying38 Try.infoU64 rfl rfl _ _ _ rfl ho2 rfl (by unfold maxLen; omega) (by omega) hw2 ?_; intro v' w3 hown3 hb3 hgr3)
       rw [cells64_push] at hown3
       have k3 := kept_append k2 ho2 (Nat.le_refl _) hgr3
       have h3 := h2.kept (kept_grown hgr3) (own_ne ho2 h2.1 (by decide))
       clear h2 ho2 k2 hgr3 hb3
       go_roundw
       case rel => exact ⟨d ++ [n2], p + c2, by rw [List.length_append]; simp; omega, by rw [List.length_append]; simp; omega, h3, by rw [List.length_append]; exact hown3, k3, by rw [List.length_append]; exact HM⟩
       case measure =>
        rcases owns_row hown3 with ⟨_, e5, _⟩ | ⟨r, cap, cur, e5, _⟩
        ·omega
        ·rw [e5]; simp; omega
      ·have e3 : ((er2 : Int) != 0) = true := by simp; omega
       obtain ⟨q1, q2⟩ := hstop.out her2
       have qO : rdListOf s i M = [] := by rw [QO.out, q1]; simp [her2]
       have qE : rdListErr s i M = er2 := by rw [QE.out, q1]
       have qA : rdListAt s i M = p + c2 := by rw [QA.out, q2]
       have QO := Lib.hid qO
       have QE := Lib.hid qE
       have QA := Lib.hid qA
       clear q1 q2 qO qE qA hmore hstop HU2
       go_wp2
       go_ret2
       exact ⟨_, ret_two rfl (v_int (by rw [QE.out])), by rw [QO.out]; exact World.ownsRow_nil _ _ _ _, by rw [QA.out]; exact h2, k2⟩
     ·have e2 : decide (d.length < n) = false := by simpa using hlt
      have hres := many_done (by omega) hm.out
      rw [hres] at QE QA QO
      clear hm hres
      go_wp2
      go_ret2
      exact ⟨_, ret_two rfl (v_int (by rw [QE.out]; rfl)), by rw [QO.out]; exact ho, by rw [QA.out]; exact hr, hk⟩
  ·have e1 : ((er : Int) == 0) = false := by simp; omega
   have e2 : ((er : Int) != 0) = true := by simp; omega
   have qE : rdListErr s i M = er := by rw [HE.out]; simp [her]
   have qA : rdListAt s i M = i + c := by rw [HA.out]; simp [her]
   have qO : rdListOf s i M = [] := by rw [HO.out, qE]; simp [her]
   have QE := Lib.hid qE
   have QA := Lib.hid qA
   have QO := Lib.hid qO
   clear qE qA qO HE HA HO HU
   go_wp2
   go_ret2
   exact ⟨_, ret_two rfl (v_int (by rw [QE.out])), by rw [QO.out]; exact World.ownsRow_nil _ _ _ _, by rw [QA.out]; exact h1, k1⟩
theorem rdV_take : ∀ (f k v : Nat) (l : List UInt8), (rdV (f + 1) k v l).2.1 = 0 → ∃ n, (rdV (f + 1) k v l).1 = v + n * 128 ^ k ∧ (0 < k → 0 < n) ∧ l.take (rdV (f + 1) k v l).2.2 = leb f n
 | f, k, v, [], h => by simp [rdV] at h
 | f, k, v, b :: l, h => by
  cases hw : wrongB k b
  ·by_cases hb : b.toNat < 128
   ·rw [rdV_last _ _ _ _ _ hw hb]
    refine ⟨b.toNat, rfl, fun hk => ?_, ?_⟩
    ·unfold wrongB at hw
     have h2 := of_decide_eq_false hw
     have : b ≠ 0 := fun e => h2 (.inl ⟨hk, e⟩)
     rcases Nat.eq_zero_or_pos b.toNat with h0 | h0
     ·exact absurd (UInt8.toNat_inj.1 (by rw [h0]; rfl)) this
     ·exact h0
    ·rw [leb_small f _ hb, UInt8.ofNat_toNat]; rfl
   ·rw [rdV_more _ _ _ _ _ hw hb] at h ⊢
    cases f with
    | zero => simp [rdV] at h
    | succ f =>
     obtain ⟨n, h1, h2, h3⟩ := rdV_take f (k + 1) _ l h
     have hn := h2 (by omega)
     have hb2 := b.toNat_lt
     refine ⟨(b.toNat - 128) + n * 128, ?_, fun _ => by omega, ?_⟩
     ·simp only
      rw [h1, Nat.pow_succ, Nat.add_mul]
      rw [show n * 128 * 128 ^ k = n * (128 ^ k * 128) by ac_rfl]
      omega
     ·simp only [List.take_succ_cons]
      rw [h3, leb_big f _ (by omega), show ((b.toNat - 128) + n * 128) % 128 + 128 = b.toNat by omega, show ((b.toNat - 128) + n * 128) / 128 = n by omega, UInt8.ofNat_toNat]
  ·rw [rdV_wrong _ _ _ _ _ hw] at h; simp at h
theorem rd_take (l : List UInt8) (h : (rd l).2.1 = 0) : l.take (rd l).2.2 = enc (rd l).1 := by
 obtain ⟨n, h1, _, h3⟩ := rdV_take 9 0 0 l h
 unfold rd
 rw [h3, h1]
 simp [enc]
abbrev Rdr (α : Type) := ByteArray → Nat → Bool → α × Nat × Bool
def rdN : Rdr Nat := fun s i f => (if f || decide ((rd (restOf s i)).2.1 ≠ 0) then 0 else (rd (restOf s i)).1, i + (rd (restOf s i)).2.2, f || decide ((rd (restOf s i)).2.1 ≠ 0))
def rdS (m : Nat) : Rdr Nat := fun s i f => if m < (rdN s i f).1 then (0, (rdN s i f).2.1, true) else rdN s i f
def rdB : Rdr Bool := fun s i f => ((rdS 1 s i f).1 == 1, (rdS 1 s i f).2)
def rdL (m : Nat) : Rdr (List Nat) := fun s i f => (rdListOf s i m, rdListAt s i m, f || decide (rdListErr s i m ≠ 0))
def andR {α β : Type} (R : Rdr α) (Q : Rdr β) : Rdr (α × β) := fun s i f => (((R s i f).1, (Q s (R s i f).2.1 (R s i f).2.2).1), (Q s (R s i f).2.1 (R s i f).2.2).2)
def mapR {α β : Type} (R : Rdr α) (g : α → β) : Rdr β := fun s i f => (g (R s i f).1, (R s i f).2)
def repR {α : Type} (R : Rdr α) : Nat → Rdr (List α)
 | 0 => fun s i f => ([], i, f)
 | n + 1 => fun s i f => ((repR R n s i f).1 ++ [(R s (repR R n s i f).2.1 (repR R n s i f).2.2).1], (R s (repR R n s i f).2.1 (repR R n s i f).2.2).2)
def rowR {α : Type} (m : Nat) (R : Rdr α) : Rdr (List α) := fun s i f => repR R (rdS m s i f).1 s (rdS m s i f).2.1 (rdS m s i f).2.2
def tru (b : Bool) : Nat := if b then 1 else 0
structure Good {α : Type} (R : Rdr α) (L : α → List Nat) (ok : α → Prop) : Prop where
 bnd : ∀ s i f, i ≤ s.size → (R s i f).2.1 ≤ s.size
 fail : ∀ s i, (R s i true).2.2 = true
 snd : ∀ s i, i ≤ s.size → (R s i false).2.2 = false → restOf s i = encs (L (R s i false).1) ++ restOf s (R s i false).2.1 ∧ ok (R s i false).1
 cmp : ∀ s i x r, i ≤ s.size → restOf s i = encs (L x) ++ r → ok x → (R s i false).1 = x ∧ (R s i false).2.2 = false ∧ restOf s (R s i false).2.1 = r
theorem restOf_add (s : ByteArray) (i k : Nat) : restOf s (i + k) = (restOf s i).drop k := by unfold restOf; rw [List.drop_drop]
theorem restOf_length (s : ByteArray) (i : Nat) : (restOf s i).length = s.size - i := by unfold restOf; rw [List.length_drop]; rfl
theorem rd_at (s : ByteArray) (i : Nat) (h : (rd (restOf s i)).2.1 = 0) : restOf s i = enc (rd (restOf s i)).1 ++ restOf s (i + (rd (restOf s i)).2.2) := by
 rw [restOf_add, ← rd_take _ h, List.take_append_drop]
theorem rd_le (s : ByteArray) (i : Nat) (h : i ≤ s.size) : i + (rd (restOf s i)).2.2 ≤ s.size := by
 have := rdV_used 10 0 0 (restOf s i)
 rw [restOf_length] at this
 show i + (rdV 10 0 0 (restOf s i)).2.2 ≤ _
 omega
theorem rd_lt (l : List UInt8) : (rd l).1 < M64 := by have := rd_bound l; unfold M64; omega
theorem encs_app (a b : List Nat) : encs (a ++ b) = encs a ++ encs b := by unfold encs; rw [List.flatMap_append]
theorem encs_one (n : Nat) : encs [n] = enc n := by unfold encs; simp
theorem good_N : Good rdN (fun n => [n]) (fun n => n < M64) := by
 refine ⟨fun s i f h => rd_le s i h, fun s i => by simp [rdN], fun s i hi h => ?_, fun s i x r hi h hx => ?_⟩
 ·have e : (rd (restOf s i)).2.1 = 0 := by
   simp only [rdN, Bool.false_or, decide_eq_false_iff_not] at h
   exact Classical.not_not.1 h
  have e1 : rdN s i false = ((rd (restOf s i)).1, i + (rd (restOf s i)).2.2, false) := by unfold rdN; rw [e]; rfl
  rw [e1, encs_one]
  exact ⟨rd_at s i e, rd_lt _⟩
 ·rw [encs_one] at h
  have e := rd_enc x r hx
  rw [← h] at e
  have e1 : rdN s i false = (x, i + (enc x).length, false) := by unfold rdN; rw [e]; rfl
  rw [e1]
  refine ⟨rfl, rfl, ?_⟩
  rw [restOf_add, h, List.drop_left]
theorem rdS_le (m : Nat) (s : ByteArray) (i : Nat) (f : Bool) : (rdS m s i f).1 ≤ m := by
 unfold rdS
 split <;> simp_all
theorem good_S (m : Nat) (hm : m < M64) : Good (rdS m) (fun n => [n]) (fun n => n ≤ m) := by
 refine ⟨fun s i f h => ?_, fun s i => ?_, fun s i hi h => ?_, fun s i x r hi h hx => ?_⟩
 ·unfold rdS; split
  ·exact good_N.bnd s i f h
  ·exact good_N.bnd s i f h
 ·unfold rdS; split
  ·rfl
  ·exact good_N.fail s i
 ·unfold rdS at h ⊢
  split at h
  ·cases h
  ·rename_i hn
   rw [if_neg hn]
   exact ⟨(good_N.snd s i hi h).1, by omega⟩
 ·obtain ⟨h1, h2⟩ := good_N.cmp s i x r hi h (by omega)
  have : ¬ m < (rdN s i false).1 := by rw [h1]; omega
  unfold rdS
  rw [if_neg this]
  exact ⟨h1, h2⟩
theorem Good.map {α β : Type} {R : Rdr α} {L : α → List Nat} {ok : α → Prop} (G : Good R L ok) (g : α → β) (h : β → α) {L' : β → List Nat} {ok' : β → Prop} (h1 : ∀ x, ok x → ok' (g x) ∧ L' (g x) = L x) (h2 : ∀ y, ok' y → ok (h y) ∧ L (h y) = L' y ∧ g (h y) = y) : Good (mapR R g) L' ok' := by
 refine ⟨fun s i f hi => G.bnd s i f hi, fun s i => G.fail s i, fun s i hi e => ?_, fun s i y r hi e hy => ?_⟩
 ·obtain ⟨a, b⟩ := G.snd s i hi e
  obtain ⟨c, d⟩ := h1 _ b
  refine ⟨?_, c⟩
  show _ = encs (L' (g _)) ++ _
  rw [d]; exact a
 ·obtain ⟨a, b, c⟩ := h2 y hy
  obtain ⟨p, q⟩ := G.cmp s i (h y) r hi (by rw [b]; exact e) a
  refine ⟨?_, q⟩
  show g _ = y
  rw [p, c]
theorem good_B : Good rdB (fun b => [tru b]) (fun _ => True) := by
 have := (good_S 1 (by decide)).map (fun n => n == 1) tru (L' := fun b => [tru b]) (ok' := fun _ => True) (fun x hx => ⟨trivial, by
  have : x = 0 ∨ x = 1 := by omega
  rcases this with rfl | rfl <;> rfl⟩) (fun y _ => by cases y <;> exact ⟨by decide, rfl, rfl⟩)
 exact this
theorem Good.and {α β : Type} {R : Rdr α} {Q : Rdr β} {L : α → List Nat} {K : β → List Nat} {ok : α → Prop} {ko : β → Prop} (G : Good R L ok) (H : Good Q K ko) : Good (andR R Q) (fun p => L p.1 ++ K p.2) (fun p => ok p.1 ∧ ko p.2) := by
 refine ⟨fun s i f hi => H.bnd s _ _ (G.bnd s i f hi), fun s i => ?_, fun s i hi e => ?_, fun s i y r hi e hy => ?_⟩
 ·show (Q s (R s i true).2.1 (R s i true).2.2).2.2 = true
  rw [G.fail]; exact H.fail _ _
 ·have e : (Q s (R s i false).2.1 (R s i false).2.2).2.2 = false := e
  have ef : (R s i false).2.2 = false := by
   cases h : (R s i false).2.2 with
   | false => rfl
   | true => rw [h, H.fail] at e; cases e
  rw [ef] at e
  obtain ⟨a, b⟩ := G.snd s i hi ef
  obtain ⟨c, d⟩ := H.snd s _ (G.bnd s i false hi) e
  unfold andR
  rw [ef]
  refine ⟨?_, b, d⟩
  rw [encs_app, List.append_assoc, ← c]; exact a
 ·rw [encs_app, List.append_assoc] at e
  obtain ⟨a, b, c⟩ := G.cmp s i y.1 _ hi e hy.1
  obtain ⟨a2, b2, c2⟩ := H.cmp s _ y.2 r (G.bnd s i false hi) c hy.2
  unfold andR
  rw [b]
  refine ⟨?_, b2, c2⟩
  rw [a, a2]
theorem Good.rep {α : Type} {R : Rdr α} {L : α → List Nat} {ok : α → Prop} (G : Good R L ok) : ∀ n, Good (repR R n) (fun l => l.flatMap L) (fun l => l.length = n ∧ ∀ x ∈ l, ok x)
 | 0 => by
  refine ⟨fun s i f hi => hi, fun s i => rfl, fun s i hi e => ⟨rfl, rfl, fun x hx => by cases hx⟩, fun s i y r hi e hy => ?_⟩
  obtain rfl := List.eq_nil_of_length_eq_zero hy.1
  exact ⟨rfl, rfl, e⟩
 | n + 1 => by
  have := ((G.rep n).and G).map (fun p => p.1 ++ [p.2]) (fun l => (l.take n, l.getLast?.getD (R ByteArray.empty 0 false).1)) (L' := fun l => l.flatMap L) (ok' := fun l => l.length = n + 1 ∧ ∀ x ∈ l, ok x) (fun p hp => by
   refine ⟨⟨by rw [List.length_append, hp.1.1]; rfl, fun x hx => ?_⟩, by simp⟩
   rcases List.mem_append.1 hx with h | h
   ·exact hp.1.2 x h
   ·rw [List.mem_singleton.1 h]; exact hp.2) (fun l hl => by
   obtain ⟨a, b, rfl⟩ : ∃ a b, l = a ++ [b] := by
    have hne : l ≠ [] := by rintro rfl; simp at hl
    exact ⟨l.dropLast, l.getLast hne, (List.dropLast_concat_getLast hne).symm⟩
   have ha : a.length = n := by have := hl.1; simp at this; exact this
   simp only [List.getLast?_append, List.getLast?_singleton, Option.some_or, Option.getD_some, List.take_left' ha]
   exact ⟨⟨⟨ha, fun x hx => hl.2 x (List.mem_append_left _ hx)⟩, hl.2 b (by simp)⟩, by simp⟩)
  exact this
theorem Good.row {α : Type} {R : Rdr α} {L : α → List Nat} {ok : α → Prop} (G : Good R L ok) (m : Nat) (hm : m < M64) : Good (rowR m R) (fun l => l.length :: l.flatMap L) (fun l => l.length ≤ m ∧ ∀ x ∈ l, ok x) := by
 refine ⟨fun s i f hi => (G.rep _).bnd s _ _ ((good_S m hm).bnd s i f hi), fun s i => ?_, fun s i hi e => ?_, fun s i y r hi e hy => ?_⟩
 ·show (repR R _ s _ (rdS m s i true).2.2).2.2 = true
  rw [(good_S m hm).fail]; exact (G.rep _).fail _ _
 ·have e : (repR R (rdS m s i false).1 s (rdS m s i false).2.1 (rdS m s i false).2.2).2.2 = false := e
  have ef : (rdS m s i false).2.2 = false := by
   cases h : (rdS m s i false).2.2 with
   | false => rfl
   | true => rw [h, (G.rep _).fail] at e; cases e
  rw [ef] at e
  obtain ⟨a, b⟩ := (good_S m hm).snd s i hi ef
  obtain ⟨c, d1, d2⟩ := (G.rep _).snd s _ ((good_S m hm).bnd s i false hi) e
  unfold rowR
  rw [ef]
  refine ⟨?_, by rw [d1]; exact b, d2⟩
  rw [d1, encs_cons, List.append_assoc, ← c]
  rw [encs_one] at a
  exact a
 ·rw [encs_cons, List.append_assoc, ← encs_one] at e
  obtain ⟨a, b, c⟩ := (good_S m hm).cmp s i y.length _ hi e hy.1
  obtain ⟨a2, b2, c2⟩ := (G.rep y.length).cmp s _ y r ((good_S m hm).bnd s i false hi) c ⟨rfl, hy.2⟩
  unfold rowR
  rw [b, a]
  exact ⟨a2, b2, c2⟩
theorem many_snd : ∀ (n : Nat) (s : ByteArray) (p : Nat), p ≤ s.size → (rdMany n s p).2.2 ≤ s.size ∧ ((rdMany n s p).2.1 = 0 → restOf s p = encs (rdMany n s p).1 ++ restOf s (rdMany n s p).2.2 ∧ (rdMany n s p).1.length = n ∧ ∀ x ∈ (rdMany n s p).1, x < M64)
 | 0, s, p, hp => ⟨hp, fun _ => ⟨rfl, rfl, fun x hx => by cases hx⟩⟩
 | n + 1, s, p, hp => by
  have hl := rd_le s p hp
  obtain ⟨h1, h2⟩ := many_snd n s _ hl
  rw [rdMany]
  split
  ·rename_i h0
   refine ⟨h1, fun h => ?_⟩
   obtain ⟨a, b, c⟩ := h2 h
   refine ⟨?_, by simp only [List.length_cons, b], fun x hx => ?_⟩
   ·rw [encs_cons, List.append_assoc, ← a]; exact rd_at s p h0
   ·rcases List.mem_cons.1 hx with rfl | hx
    ·exact rd_lt _
    ·exact c x hx
  ·rename_i h0
   exact ⟨hl, fun h => absurd h h0⟩
theorem many_cmp : ∀ (l : List Nat) (s : ByteArray) (p : Nat) (r : List UInt8), (∀ x ∈ l, x < M64) → restOf s p = encs l ++ r → (rdMany l.length s p).1 = l ∧ (rdMany l.length s p).2.1 = 0 ∧ restOf s (rdMany l.length s p).2.2 = r
 | [], s, p, r, _, h => ⟨rfl, rfl, h⟩
 | n :: l, s, p, r, hx, h => by
  rw [encs_cons, List.append_assoc] at h
  have e := rd_enc n (encs l ++ r) (hx n (by simp))
  rw [← h] at e
  obtain ⟨a, b, c⟩ := many_cmp l s (p + (rd (restOf s p)).2.2) r (fun x h => hx x (by simp [h])) (by rw [e, restOf_add, h, List.drop_left])
  rw [List.length_cons, rdMany, if_pos (by rw [e])]
  refine ⟨?_, b, c⟩
  rw [a, e]
theorem good_L (m : Nat) (hm : m < M64) : Good (rdL m) (fun l => l.length :: l) (fun l => l.length ≤ m ∧ ∀ x ∈ l, x < M64) := by
 have n0 : ¬ ((m : Int) < 0) := by omega
 refine ⟨fun s i f hi => ?_, fun s i => by simp [rdL], fun s i hi h => ?_, fun s i x r hi h hx => ?_⟩
 ·have h1 := rd_le s i hi
  have h2 := (many_snd (rd (restOf s i)).1 s _ h1).1
  show rdListAt s i m ≤ _
  unfold rdListAt
  rw [if_neg n0]
  split
  ·exact h1
  ·split
   ·exact h1
   ·exact h2
 ·have e : rdListErr s i m = 0 := by
   simp only [rdL, Bool.false_or, decide_eq_false_iff_not] at h
   exact Classical.not_not.1 h
  have hl := rd_le s i hi
  have e0 : ¬ (rd (restOf s i)).2.1 ≠ 0 := by
   intro hc; unfold rdListErr at e; rw [if_neg n0, if_pos hc] at e; exact hc e
  have e1 : ¬ (m : Int) < ((rd (restOf s i)).1 : Int) := by
   intro hc; unfold rdListErr at e; rw [if_neg n0, if_neg e0, if_pos hc] at e; cases e
  have e2 : (rdMany (rd (restOf s i)).1 s (i + (rd (restOf s i)).2.2)).2.1 = 0 := by
   unfold rdListErr at e; rw [if_neg n0, if_neg e0, if_neg e1] at e; exact e
  have eo : rdListOf s i m = (rdMany (rd (restOf s i)).1 s (i + (rd (restOf s i)).2.2)).1 := by unfold rdListOf; rw [if_pos e]
  have ea : rdListAt s i m = (rdMany (rd (restOf s i)).1 s (i + (rd (restOf s i)).2.2)).2.2 := by unfold rdListAt; rw [if_neg n0, if_neg e0, if_neg e1]
  obtain ⟨a, b, c⟩ := (many_snd _ s _ hl).2 e2
  have e0 := Classical.not_not.1 e0
  show restOf s i = encs ((rdListOf s i m).length :: rdListOf s i m) ++ restOf s (rdListAt s i m) ∧ (rdListOf s i m).length ≤ m ∧ ∀ x ∈ rdListOf s i m, x < M64
  rw [eo, ea, b]
  refine ⟨?_, by omega, c⟩
  rw [encs_cons, List.append_assoc, ← a]
  exact rd_at s i e0
 ·have h : restOf s i = encs (x.length :: x) ++ r := h
  rw [encs_cons, List.append_assoc] at h
  have hlen := hx.1
  have e := rd_enc x.length (encs x ++ r) (by omega)
  rw [← h] at e
  have hd : restOf s (i + (enc x.length).length) = encs x ++ r := by rw [restOf_add, h, List.drop_left]
  obtain ⟨a, b, c⟩ := many_cmp x s _ r hx.2 hd
  have q1 : ¬ ((m : Int) < (x.length : Int)) := by omega
  have q0 : rdListErr s i m = 0 := by unfold rdListErr; rw [if_neg n0, e, if_neg (by simp), if_neg q1]; exact b
  have qo : rdListOf s i m = x := by unfold rdListOf; rw [if_pos q0, e]; exact a
  have qa : rdListAt s i m = (rdMany x.length s (i + (enc x.length).length)).2.2 := by unfold rdListAt; rw [if_neg n0, e, if_neg (by simp), if_neg q1]
  refine ⟨qo, ?_, ?_⟩
  ·show (false || decide (rdListErr s i m ≠ 0)) = false
   rw [q0]; rfl
  ·show restOf s (rdListAt s i m) = r
   rw [qa]; exact c
def SrcAt (w : World) (g R : Nat) (s : ByteArray) (i : Nat) (f : Bool) : Prop := Lies w g 78 #[.pointer (some ⟨R, 0, none⟩), .bool f] ∧ RdAt w R s i
def srcR (g R : Nat) : Nat → Prop := fun k => k = g ∨ k = R
theorem SrcAt.ne {w : World} {g R i : Nat} {s : ByteArray} {f : Bool} (h : SrcAt w g R s i f) : g ≠ R := by
 rintro rfl
 exact absurd (h.1.same h.2.1).1 (by decide)
theorem SrcAt.kept {w w' : World} {g R i : Nat} {s : ByteArray} {f : Bool} {S : Nat → Prop} (h : SrcAt w g R s i f) (k : Kept S w w') (h1 : ¬ S g) (h2 : ¬ S R) : SrcAt w' g R s i f := ⟨h.1.kept k h1, h.2.kept k h2⟩
theorem SrcAt.read {w w' : World} {g R i j : Nat} {s : ByteArray} {f : Bool} (h : SrcAt w g R s i f) (k : Kept (oneRow R) w w') (hr : RdAt w' R s j) : SrcAt w' g R s j f := ⟨h.1.kept k h.ne, hr⟩
theorem SrcAt.flag {w : World} {g R i : Nat} {s : ByteArray} {f : Bool} (h : SrcAt w g R s i f) (b : Bool) : SrcAt (w.setCell ⟨g, 1, none⟩ (.bool b)) g R s i b ∧ Kept (srcR g R) w (w.setCell ⟨g, 1, none⟩ (.bool b)) := by
 have k := Kept.put w g 1 (.bool b)
 refine ⟨⟨?_, h.2.kept k (fun (e : R = g) => h.ne e.symm)⟩, k.mono (fun i _ (e : i = g) => .inl e)⟩
 have := h.1.put 1 (.bool b)
 simpa using this
theorem src_trans {a b c : World} {g R : Nat} (h : Kept (srcR g R) a b) (k : Kept (srcR g R) b c) : Kept (srcR g R) a c := h.trans k (fun _ _ h => h)
set_option maxHeartbeats 2000000 in
theorem srcNumber (g R : Nat) (s : ByteArray) (i : Nat) (f : Bool) (w : World) (h : SrcAt w g R s i f) : Calls Try.prog 45 #[.pointer (some ⟨g, 0, none⟩)] w fun e w' =>
  e = .returned (.int .u64 ((rdN s i f).1 : Int)) ∧ SrcAt w' g R s (rdN s i f).2.1 (rdN s i f).2.2 ∧ Kept (srcR g R) w w' := by
 have c0 : w.cell? ⟨g, 0, none⟩ = some (.pointer (some ⟨R, 0, none⟩)) := h.1.cell 0
 have H := Lib.hid h
 have HR := Lib.hid (varintRead R s i w h.2)
 have HN : Hid (rdN s i f = (if f || decide ((rd (restOf s i)).2.1 ≠ 0) then 0 else (rd (restOf s i)).1, i + (rd (restOf s i)).2.2, f || decide ((rd (restOf s i)).2.1 ≠ 0))) := rfl
 obtain ⟨V, hV⟩ : ∃ v, (rd (restOf s i)).1 = v := ⟨_, rfl⟩
 obtain ⟨E, hE⟩ : ∃ v, (rd (restOf s i)).2.1 = v := ⟨_, rfl⟩
 obtain ⟨K, hK⟩ : ∃ v, (rd (restOf s i)).2.2 = v := ⟨_, rfl⟩
 rw [hV, hE, hK] at HN HR
 clear hV hE hK
 have hlt := h.1.lt
 clear h
 go_enter Try.func45, Try.ntmps45
 go_wp2_with fail
 refine HR.out.mono ?_
 rintro e w1 ⟨rfl, hr1, hk1⟩
 have H1 := Lib.hid (H.out.read hk1 hr1)
 have HK1 := Lib.hid (hk1.mono (T := srcR g R) (fun i _ (e : i = R) => .inr e))
 clear HR c0 hlt H hr1 hk1
 have c1 : w1.cell? ⟨g, 1, none⟩ = some (.bool f) := H1.out.1.cell 1
 have z1 : w1.frozen? ⟨g, 1, none⟩ = false := H1.out.1.free 1
 have hlt := H1.out.1.lt
 cases f
 ·by_cases hz : E = 0
  ·subst hz
   go_wp2
   have H2 := H1.out.flag false
   generalize w1.setCell ⟨g, 1, none⟩ (.bool false) = w2 at *
   clear c1 z1 hlt
   have c1 : w2.cell? ⟨g, 1, none⟩ = some (.bool false) := H2.1.1.cell 1
   have hlt := H2.1.1.lt
   have HH := Lib.hid H2
   clear H2
   go_wp2
   go_ret
   have e := HN.out
   simp only [ne_eq, not_true_eq_false, decide_false, Bool.or_false, Bool.false_eq_true, if_false] at e
   rw [e]
   exact ⟨rfl, HH.out.1, src_trans HK1.out HH.out.2⟩
  ·have hz2 : ((E : Int) != 0) = true := by simp; omega
   go_wp2
   have H2 := H1.out.flag true
   generalize w1.setCell ⟨g, 1, none⟩ (.bool true) = w2 at *
   clear c1 z1 hlt
   have c1 : w2.cell? ⟨g, 1, none⟩ = some (.bool true) := H2.1.1.cell 1
   have hlt := H2.1.1.lt
   have HH := Lib.hid H2
   clear H2
   go_wp2
   go_ret
   have e := HN.out
   simp only [ne_eq, hz, not_false_eq_true, decide_true, Bool.or_true, if_true] at e
   rw [e]
   exact ⟨rfl, HH.out.1, src_trans HK1.out HH.out.2⟩
 ·go_wp2
  have H2 := H1.out.flag true
  generalize w1.setCell ⟨g, 1, none⟩ (.bool true) = w2 at *
  clear c1 z1 hlt
  have c1 : w2.cell? ⟨g, 1, none⟩ = some (.bool true) := H2.1.1.cell 1
  have hlt := H2.1.1.lt
  have HH := Lib.hid H2
  clear H2
  go_wp2
  go_ret
  have e := HN.out
  simp only [Bool.true_or, if_true] at e
  rw [e]
  exact ⟨rfl, HH.out.1, src_trans HK1.out HH.out.2⟩
theorem rdN_lt (s : ByteArray) (i : Nat) (f : Bool) : (rdN s i f).1 < M64 := by
 unfold rdN
 dsimp only
 split
 ·decide
 ·exact rd_lt _
set_option maxHeartbeats 2000000 in
theorem srcSmall (m g R : Nat) (s : ByteArray) (i : Nat) (f : Bool) (w : World) (h : SrcAt w g R s i f) (hm : m ≤ 1000000) : Calls Try.prog 42 #[.pointer (some ⟨g, 0, none⟩), .int .i64 (m : Int)] w fun e w' =>
  e = .returned (.int .i64 ((rdS m s i f).1 : Int)) ∧ SrcAt w' g R s (rdS m s i f).2.1 (rdS m s i f).2.2 ∧ Kept (srcR g R) w w' := by
 have H := Lib.hid h
 have HC := Lib.hid (srcNumber g R s i f w h)
 have HN : Hid (rdS m s i f = if m < (rdN s i f).1 then (0, (rdN s i f).2.1, true) else rdN s i f) := rfl
 have hlt := h.1.lt
 have hb := rdN_lt s i f
 generalize rdN s i f = z at *
 obtain ⟨V, p, b⟩ := z
 dsimp only at *
 unfold M64 at hb
 clear h
 by_cases hv : m < V
 ·have q1 : decide ((V : Int) > (m : Int)) = true := decide_eq_true (by omega)
  have q2 : decide ((m : Int) < (V : Int)) = true := decide_eq_true (by omega)
  have e := HN.out
  rw [if_pos hv] at e
  rw [e]
  go_enter Try.func42, Try.ntmps42
  go_wp2_with fail
  refine HC.out.mono ?_
  rintro e w1 ⟨rfl, h1, hk1⟩
  have z1 : w1.frozen? ⟨g, 1, none⟩ = false := h1.1.free 1
  have c1 : w1.cell? ⟨g, 1, none⟩ = some (.bool b) := h1.1.cell 1
  have hlt := h1.1.lt
  have H1 := Lib.hid h1
  have HK := Lib.hid hk1
  clear h1 hk1 HC H e
  go_wp2
  go_ret
  have H2 := H1.out.flag true
  exact ⟨rfl, H2.1, src_trans HK.out H2.2⟩
 ·have q1 : decide ((V : Int) > (m : Int)) = false := decide_eq_false (by omega)
  have q2 : decide ((m : Int) < (V : Int)) = false := decide_eq_false (by omega)
  have q3 : IntKind.i64.wrap (V : Int) = (V : Int) := IntWalk.i64_in _ (by omega)
  have e := HN.out
  rw [if_neg hv] at e
  rw [e]
  clear e HN
  go_enter Try.func42, Try.ntmps42
  go_wp2_with fail
  refine HC.out.mono ?_
  rintro e w1 ⟨rfl, h1, hk1⟩
  have H1 := Lib.hid h1
  have HK := Lib.hid hk1
  clear h1 hk1 HC H
  go_wp2
  go_ret
  exact ⟨rfl, H1.out, HK.out⟩
set_option maxHeartbeats 2000000 in
theorem srcTruth (g R : Nat) (s : ByteArray) (i : Nat) (f : Bool) (w : World) (h : SrcAt w g R s i f) : Calls Try.prog 46 #[.pointer (some ⟨g, 0, none⟩)] w fun e w' =>
  e = .returned (.bool (rdB s i f).1) ∧ SrcAt w' g R s (rdB s i f).2.1 (rdB s i f).2.2 ∧ Kept (srcR g R) w w' := by
 have HC := Lib.hid (srcSmall 1 g R s i f w h (by decide))
 have HN : Hid (rdB s i f = ((rdS 1 s i f).1 == 1, (rdS 1 s i f).2)) := rfl
 generalize rdS 1 s i f = z at *
 obtain ⟨V, p, b⟩ := z
 dsimp only at *
 clear h
 have q1 : ((V : Int) == 1) = (V == 1) := by rw [Bool.eq_iff_iff, beq_iff_eq, beq_iff_eq]; omega
 rw [HN.out]
 dsimp only
 go_enter Try.func46, Try.ntmps46
 go_wp2_with fail
 refine HC.out.mono ?_
 rintro e w1 ⟨rfl, h1, hk1⟩
 have H1 := Lib.hid h1
 have HK := Lib.hid hk1
 clear h1 hk1 HC HN
 go_wp2
 go_ret
 exact ⟨rfl, H1.out, HK.out⟩
set_option maxHeartbeats 2000000 in
theorem srcList (m g R : Nat) (s : ByteArray) (i : Nat) (f : Bool) (w : World) (h : SrcAt w g R s i f) (hm : m ≤ 1000000) (hs : s.size ≤ 1099511627776) : Calls Try.prog 57 #[.pointer (some ⟨g, 0, none⟩), .int .i64 (m : Int)] w fun e w' =>
  ∃ v, e = .returned v ∧ w'.ownsRow w.heap.size 24 1 v (rdL m s i f).1.length (cells64 (rdL m s i f).1) ∧ SrcAt w' g R s (rdL m s i f).2.1 (rdL m s i f).2.2 ∧ Kept (srcR g R) w w' := by
 have c0 : w.cell? ⟨g, 0, none⟩ = some (.pointer (some ⟨R, 0, none⟩)) := h.1.cell 0
 have H := Lib.hid h
 have HR := Lib.hid (varintReadList R s i (m : Int) w h.2 hs (by omega))
 have HN : Hid (rdL m s i f = (rdListOf s i m, rdListAt s i m, f || decide (rdListErr s i m ≠ 0))) := rfl
 obtain ⟨V, hV⟩ : ∃ v, rdListOf s i m = v := ⟨_, rfl⟩
 obtain ⟨E, hE⟩ : ∃ v, rdListErr s i m = v := ⟨_, rfl⟩
 obtain ⟨K, hK⟩ : ∃ v, rdListAt s i m = v := ⟨_, rfl⟩
 rw [hV, hE, hK] at HN HR
 clear hV hE hK
 rw [HN.out]
 dsimp only
 have hlt := h.1.lt
 clear h HN
 go_enter Try.func57, Try.ntmps57
 go_wp2_with fail
 refine HR.out.mono ?_
 rintro e w1 ⟨v, rfl, ho, hr1, hk1⟩
 have H1 := Lib.hid (H.out.read hk1 hr1)
 have HK1 := Lib.hid (hk1.mono (T := srcR g R) (fun i _ (e : i = R) => .inr e))
 obtain ⟨A, c, rfl, _⟩ := (SeqS.of_owns ho).form
 have HO := Lib.hid ho
 clear HR c0 hlt H hr1 hk1 ho
 have c1 : w1.cell? ⟨g, 1, none⟩ = some (.bool f) := H1.out.1.cell 1
 have z1 : w1.frozen? ⟨g, 1, none⟩ = false := H1.out.1.free 1
 have hlt := H1.out.1.lt
 have fin : ∀ b : Bool, (w1.setCell ⟨g, 1, none⟩ (.bool b)).ownsRow w.heap.size 24 1 (.slice A V.length c) V.length (cells64 V) := fun b => owns_put HO.out H1.out.1 (by decide) 1 (.bool b)
 have HF := Lib.hid fin
 clear fin
 cases f
 ·by_cases hz : E = 0
  ·subst hz
   go_wp2
   go_ret
   have H2 := H1.out.flag false
   exact ⟨_, rfl, HF.out false, by simpa using H2.1, src_trans HK1.out H2.2⟩
  ·have hz2 : ((E : Int) != 0) = true := by simp; omega
   go_wp2
   go_ret
   have H2 := H1.out.flag true
   exact ⟨_, rfl, HF.out true, by simpa [hz] using H2.1, src_trans HK1.out H2.2⟩
 ·go_wp2
  go_ret
  have H2 := H1.out.flag true
  exact ⟨_, rfl, HF.out true, by simpa using H2.1, src_trans HK1.out H2.2⟩
structure Sl where
 s : Nat
 v : Nat
 l : Int
instance : Inhabited Sl := ⟨⟨0, 0, 0⟩⟩
def slF (x : Sl) : List Value := [.int .u64 (x.s : Int), .int .u64 (x.v : Int), .int .i64 x.l]
theorem slF_length (x : Sl) : (slF x).length = 3 := rfl
theorem slF_one : ∀ (l : List Sl), ∀ u ∈ rowsOf slF l, u.oneCell' = true := fun l u hu => by
 obtain ⟨x, _, hx⟩ := rowsOf_mem hu
 simp [slF] at hx
 rcases hx with rfl | rfl | rfl <;> rfl
end Go.Proofs.Ytakggmfpgopcgaa
