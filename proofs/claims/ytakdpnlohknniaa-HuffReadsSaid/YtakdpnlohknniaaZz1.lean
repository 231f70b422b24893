import Derived.WalkKit
import Derived.ProofKit
import Derived.Lib.Hide
import Derived.Lib.AppendStr
import Derived.Lib.SlBytesRow
import Derived.Laws.AppendOwnNone
import Derived.Deep.AppendLies
import Derived.Deep.Draws
import Derived.BigQuiet
import Derived.Deep.QuietTactic
import Derived.Deep.RegionWith
import Derived.OpenShut
import Derived.Outline
import Derived.Deep.Slices
import Derived.ChangeSame
import Derived.Laws.IdiomStrings
import Derived.SliceStrings
import Derived.Laws.DeepStrings4
import Derived.SizedLaws
import Derived.Laws.OwnMore
import Derived.Test.YtakdpnlohknniaaRows
import Derived.Deep.OwnRows
import Derived.Deep.MidRow
import Derived.IntWalk
import Derived.Lib.BufferRead
import Derived.Laws.BitsAllLaws
import Derived.Laws.Bits64
import Derived.Laws.Bits64b
import Derived.Deep.RegionHeld3
import Derived.RegionTactic
import Derived.StillTailTactics
import Derived.Deep.RegionLaw
import Derived.Laws.CopyOwn
import Derived.Deep.DeepFit
import Derived.Deep.DeepCutAuto
import Derived.Laws.StructEq
import Derived.ChangeKeysEq
import Derived.ShutString
import Derived.ChangeOld
import Derived.Below
namespace Go.Proofs.Ytakdpnlohknniaa
open Go.RowKit
set_option linter.unusedVariables false
set_option linter.unusedSimpArgs false
theorem below_of_grown {w w' : World} {base : Nat} {e : TypeId} {size : Nat} {v : Value} {n : Nat} {xs : List Value} {o : Obj}
  (hown : w.ownsRow base e size v n xs) (hb : base ≤ w.heap.size) (hg : (w.alloc o).grownBy w' v.ownBlock) : Below base w w' :=
 ((Below.refl _ _).alloc hb o).grown hg (by simp; omega) (fun k hk => by have := hown.lt k hk; omega)
theorem append_one {P : Program} {ops : Array Oper} {rest : List Oper} {o : Oper} {a : Act} {Q : Exit → Act → World → Prop} (w : World) (x : Value)
  (hg : o.guard = none) (s y : Operand) (t : TypeId) (hop : o.op = Op.call { callee := Callee.builtin Builtin.append, args := #[s, y], argTypes := #[t, t] })
  (base : Nat) (e : TypeId) (z : Value) (bytes : Nat) (ht : P.underlying t = some (.slice e)) (hi : (P.info? e).map (fun i => (i.zero, i.size, i.bytes)) = some (some z, 1, bytes))
  (hzs : z.cells.size = 1) (hx1 : x.oneCell' = true)
  (v : Value) (n : Nat) (xs : List Value) (hs : a.eval s = v) (hown : w.ownsRow base e 1 v n xs) (hy : a.eval y = .slice (some ⟨w.heap.size, 0, none⟩) 1 1)
  (b1 : n + 1 ≤ maxLen) (b2 : (n + 1) * bytes ≤ 140737488355328) (b3 : base ≤ w.heap.size)
  (hK : ∀ v' w', w'.ownsRow base e 1 v' (n + 1) (xs ++ [x]) → Below base w w' → (w.alloc (.cells #[x] e)).grownBy w' v.ownBlock → wpList P ops Q rest (a.put o.dst v') w') :
  wpList P ops Q (o :: rest) a (w.alloc (.cells #[x] e)) := by
 obtain ⟨i0, hi, hz0, hz1, hz2⟩ := info_parts hi
 refine wpList_append_own _ hg s y t hop base e i0 z 1 bytes ht hi hz0 hz1 hz2 hzs (by decide) v n xs hs (hown.alloc _) ⟨w.heap.size, 0, none⟩ 1 1 [x] hy rfl ?_ ?_ b1 b2 (by simp; omega) ?_
 ·intro j u hj
  match j, hj with
  | 0, hj => simp at hj; subst hj; simp [Addr.add, World.cell?_alloc_at]
 ·intro u hu; simp at hu; subst hu; exact hx1
 ·intro v' w' ho hgr _
  exact hK v' w' ho (below_of_grown hown b3 hgr) hgr
theorem addr_add (g j : Nat) : (⟨g, 0, none⟩ : Addr).add j = ⟨g, j, none⟩ := by unfold Addr.add; split <;> simp_all
theorem ret_int {k : IntKind} {a b : Int} (h : a = b) : Ending.returned (.int k a) = .returned (.int k b) := by rw [h]
theorem ret_bool {a b : Bool} (h : a = b) : Ending.returned (.bool a) = .returned (.bool b) := by rw [h]
def Lies (w : World) (g : Nat) (t : TypeId) (cs : Array Value) : Prop := w.heap[g]? = some (.cells cs t (0, 0))
theorem Lies.lt {w : World} {g : Nat} {t : TypeId} {cs : Array Value} (h : Lies w g t cs) : g < w.heap.size := by
 unfold Lies at h
 exact (Array.getElem?_eq_some_iff.1 h).1
theorem Lies.cell {w : World} {g : Nat} {t : TypeId} {cs : Array Value} (h : Lies w g t cs) (i : Nat) : w.cell? ⟨g, i, none⟩ = cs[i]? := by
 unfold Lies at h
 simp [World.cell?, h]
theorem Lies.free {w : World} {g : Nat} {t : TypeId} {cs : Array Value} (h : Lies w g t cs) (i : Nat) : w.frozen? ⟨g, i, none⟩ = false := by
 unfold Lies at h
 simp [World.frozen?, h]
theorem Lies.made (w : World) (t : TypeId) (cs : Array Value) : Lies (w.alloc (.cells cs t)) w.heap.size t cs := heap_alloc_new w _
theorem Lies.put {w : World} {g : Nat} {t : TypeId} {cs : Array Value} (h : Lies w g t cs) (i : Nat) (u : Value) : Lies (w.setCell ⟨g, i, none⟩ u) g t (cs.setIfInBounds i u) := by
 unfold Lies at h ⊢
 simp [World.setCell, Array.getElem?_modify, h]
theorem Lies.same {w : World} {g : Nat} {t t' : TypeId} {cs cs' : Array Value} (h : Lies w g t cs) (h' : Lies w g t' cs') : t = t' ∧ cs = cs' := by
 unfold Lies at h h'
 rw [h] at h'
 injection h' with h'
 injection h' with h1 h2 _
 exact ⟨h2, h1⟩
structure Kept (S : Nat → Prop) (w1 w2 : World) : Prop where
 os : w2.os = w1.os
 tape : w2.tape = w1.tape
 output : w2.output = w1.output
 size : w1.heap.size ≤ w2.heap.size
 at_ : ∀ k, k < w1.heap.size → ¬ S k → w2.heap[k]? = w1.heap[k]?
def noRow : Nat → Prop := fun _ => False
def oneRow (g : Nat) : Nat → Prop := fun k => k = g
theorem Kept.refl (S : Nat → Prop) (w : World) : Kept S w w := ⟨rfl, rfl, rfl, Nat.le_refl _, fun _ _ _ => rfl⟩
theorem Kept.trans {S T : Nat → Prop} {a b c : World} (h : Kept S a b) (k : Kept T b c) (hs : ∀ i, i < a.heap.size → T i → S i) : Kept S a c :=
 ⟨k.os.trans h.os, k.tape.trans h.tape, k.output.trans h.output, Nat.le_trans h.size k.size, fun i hi hn =>
  (k.at_ i (Nat.lt_of_lt_of_le hi h.size) (fun ht => hn (hs i hi ht))).trans (h.at_ i hi hn)⟩
theorem Kept.mono {S T : Nat → Prop} {a b : World} (h : Kept S a b) (hs : ∀ i, i < a.heap.size → S i → T i) : Kept T a b :=
 ⟨h.os, h.tape, h.output, h.size, fun i hi hn => h.at_ i hi (fun ht => hn (hs i hi ht))⟩
theorem Kept.drewN (S : Nat → Prop) (w : World) (n : Nat) : Kept S w (w.drewN n) := ⟨rfl, rfl, rfl, Nat.le_refl _, fun _ _ _ => rfl⟩
theorem Kept.alloc (S : Nat → Prop) (w : World) (o : Obj) : Kept S w (w.alloc o) := ⟨rfl, rfl, rfl, by simp, fun _ hk _ => heap_alloc_old w o hk⟩
theorem Kept.put (w : World) (g i : Nat) (u : Value) : Kept (oneRow g) w (w.setCell ⟨g, i, none⟩ u) :=
 ⟨rfl, rfl, rfl, by simp, fun k _ hn => Below.heap_setCell _ _ _ _ (fun e => hn e)⟩
theorem Kept.of_grown {w w' : World} {row : Option Nat} (h : w.grownBy w' row) : Kept (fun k => row = some k) w w' :=
 ⟨h.os, h.tape, h.output, h.size, fun k hk hn => h.block k hk (fun e => hn e.symm)⟩
theorem Kept.of_below {w w' : World} (h : Below w.heap.size w w') : Kept noRow w w' := ⟨h.os, h.tape, h.output, h.size, fun k hk _ => h.block k hk⟩
theorem Kept.below {S : Nat → Prop} {B : Nat} {w w' : World} (h : Kept S w w') (hB : B ≤ w.heap.size) (hs : ∀ k, k < B → ¬ S k) : Below B w w' :=
 ⟨h.os, h.tape, h.output, h.size, fun k hk => h.at_ k (by omega) (hs k hk)⟩
theorem Kept.all {w w' : World} (h : Kept noRow w w') : Below w.heap.size w w' := h.below (Nat.le_refl _) (fun _ _ hf => hf)
section
variable {S : Nat → Prop} {w w' : World} {g : Nat} {t : TypeId} {cs : Array Value} {B : Nat} {e : TypeId} {size : Nat} {v : Value} {n : Nat} {xs : List Value}
theorem Lies.kept (h : Lies w g t cs) (k : Kept S w w') (hn : ¬ S g) : Lies w' g t cs := (k.at_ g h.lt hn).trans h
theorem Lies.below (h : Lies w g t cs) (k : Below B w w') (hg : g < B) : Lies w' g t cs := (k.block g hg).trans h
theorem Lies.drewN (h : Lies w g t cs) (m : Nat) : Lies (w.drewN m) g t cs := h
theorem Lies.alloc (h : Lies w g t cs) (o : Obj) : Lies (w.alloc o) g t cs := (heap_alloc_old w o h.lt).trans h
theorem Lies.far (h : Lies w g t cs) {p : Addr} (hp : g ≠ p.block) (u : Value) : Lies (w.setCell p u) g t cs := (Below.heap_setCell w p u g hp).trans h
theorem owns_row (h : w.ownsRow B e size v n xs) : (v = .slice none 0 0 ∧ n = 0 ∧ xs = []) ∨ ∃ r cap cur, v = .slice (some ⟨r, 0, none⟩) n cap ∧ B ≤ r ∧ Lies w r e cur ∧ n ≤ cap ∧ cap ≤ maxLen := by
 rcases h.2 with ⟨rfl, rfl⟩ | ⟨r, cap, cur, rfl, hb, hh, h1, h2, _⟩
 ·exact .inl ⟨rfl, rfl, by have := h.1; simpa using this⟩
 ·exact .inr ⟨r, cap, cur, rfl, hb, hh, h1, h2⟩
theorem owns_kept (h : w.ownsRow B e size v n xs) (k : Kept S w w') (hn : ∀ r cur, v.ownBlock = some r → Lies w r e cur → ¬ S r) : w'.ownsRow B e size v n xs := by
 refine ⟨h.1, ?_⟩
 rcases h.2 with h2 | ⟨r, cap, cur, rfl, hb, hh, rest⟩
 ·exact .inl h2
 ·exact .inr ⟨r, cap, cur, rfl, hb, (k.at_ r (Array.getElem?_eq_some_iff.1 hh).1 (hn r cur rfl hh)).trans hh, rest⟩
theorem owns_put (h : w.ownsRow B e size v n xs) (hg : Lies w g t cs) (hne : e ≠ t) (i : Nat) (u : Value) : (w.setCell ⟨g, i, none⟩ u).ownsRow B e size v n xs :=
 owns_kept h (Kept.put w g i u) (fun r cur _ hl hr => by
  have : r = g := hr
  subst this
  exact hne (hl.same hg).1)
theorem own_ne (h : w.ownsRow B e size v n xs) (hl : Lies w g t cs) (hne : e ≠ t) : ¬ v.ownBlock = some g := by
 intro hv
 rcases owns_row h with ⟨rfl, _⟩ | ⟨r, cap, cur, rfl, hr, hl2, _⟩
 ·cases hv
 ·obtain rfl : r = g := by simpa [Value.ownBlock] using hv
  exact hne (hl2.same hl).1
theorem kept_grown {o : Obj} {row : Option Nat} (h : (w.alloc o).grownBy w' row) : Kept (fun k => row = some k) w w' :=
 (Kept.alloc _ w o).trans (Kept.of_grown h) (fun _ _ h => h)
theorem kept_append {a : World} {o : Obj} (k : Kept S a w) (ho : w.ownsRow B e size v n xs) (hB : a.heap.size ≤ B) (h : (w.alloc o).grownBy w' v.ownBlock) : Kept S a w' :=
 k.trans (kept_grown h) (fun i hi hv => by have := (ho.lt i hv).1; omega)
theorem owns_set {r cap k : Nat} {u : Value} (h : w.ownsRow B e 1 (.slice (some ⟨r, 0, none⟩) n cap) n xs) (hk : k < n) :
  (w.setCell ⟨r, k, none⟩ u).ownsRow B e 1 (.slice (some ⟨r, 0, none⟩) n cap) n (xs.set k u) := by
 obtain ⟨h1, h2⟩ := h
 refine ⟨by rw [List.length_set]; exact h1, ?_⟩
 rcases h2 with ⟨h2, _⟩ | ⟨r', cap', cur, hv, hb, hh, hc, hm, hs, ht⟩
 ·cases h2
 ·simp only [Value.slice.injEq, Option.some.injEq, Addr.mk.injEq] at hv
  obtain ⟨⟨rfl, _, _⟩, _, rfl⟩ := hv
  refine .inr ⟨r, cap, cur.setIfInBounds k u, rfl, hb, ?_, hc, hm, by rw [Array.size_setIfInBounds]; exact hs, ?_⟩
  ·simp [World.setCell, Array.getElem?_modify, hh]
  ·rw [← ht, Array.toList_setIfInBounds]
   exact List.take_set
theorem owns_free {r cap k : Nat} (h : w.ownsRow B e 1 (.slice (some ⟨r, 0, none⟩) n cap) n xs) (hk : k < n) : w.frozen? ⟨r, k, none⟩ = false := by
 rcases h.2 with ⟨h2, _⟩ | ⟨r', cap', cur, hv, hb, hh, _⟩
 ·cases h2
 ·simp only [Value.slice.injEq, Option.some.injEq, Addr.mk.injEq] at hv
  obtain ⟨⟨rfl, _, _⟩, _, _⟩ := hv
  simp [World.frozen?, hh]
theorem owns_cell {r cap k : Nat} {u : Value} (h : w.ownsRow B e 1 (.slice (some ⟨r, 0, none⟩) n cap) n xs) (hk : xs[k]? = some u) : w.cell? ⟨r, k, none⟩ = some u := by
 have := h.cells (g := r) rfl k u hk
 rwa [addr_add] at this
theorem zeros_made (z : Value) (hz : z.cells = #[z]) (n : Nat) : (madeCells z.cells (n * 1)).toList = List.replicate n z := by
 rw [Nat.mul_one, hz]
 apply List.ext_getElem
 ·simp [size_madeCells]
 ·intro i h1 h2
  simp [madeCells, Nat.mod_one]
theorem owns_mono (h : w.ownsRow B e size v n xs) {B' : Nat} (hB : B' ≤ B) : w.ownsRow B' e size v n xs := by
 refine ⟨h.1, ?_⟩
 rcases h.2 with h2 | ⟨r, cap, cur, rfl, hb, rest⟩
 ·exact .inl h2
 ·exact .inr ⟨r, cap, cur, rfl, by omega, rest⟩
end
theorem slice_text {P : Program} (T : TypeId) (hT : P.underlying T = some .string) (s : ByteArray) (i j : Nat) (a b : Int) (ha : a = i) (hb : b = j) (hij : i ≤ j) (hj : j ≤ s.size) (W : World) :
  (Instr.slice T (.string s) (some (.int .i64 a)) (some (.int .i64 b)) none).run P W = .ok (.string (s.extract i j)) W := by
 subst ha hb
 rw [run_slice_string_if W T s _ _ _ _ hT, if_pos ⟨by omega, by omega⟩, if_pos ⟨by omega, by omega⟩]
 rfl
def ArgRow (w : World) (a : Option Addr) (xs : List Value) : Prop := ∀ k v, xs[k]? = some v → ∃ b off, a = some ⟨b, off, none⟩ ∧ b < w.heap.size ∧ w.cell? ⟨b, off + k, none⟩ = some v
theorem ArgRow.get {w w' : World} {a : Option Addr} {xs : List Value} (h : ArgRow w a xs) (hb : Below w.heap.size w w') {k : Nat} {v : Value} (hk : xs[k]? = some v) :
  ∃ b off, a = some ⟨b, off, none⟩ ∧ w'.cell? ⟨b, off + k, none⟩ = some v := by
 obtain ⟨b, off, e, hl, hc⟩ := h k v hk
 exact ⟨b, off, e, (hb.cell (p := ⟨b, off + k, none⟩) hl).trans hc⟩
def ArgInts (k : IntKind) (w : World) (a : Option Addr) (len cap : Nat) (zs : List Int) : Prop := (a = none → len = 0 ∧ cap = 0) ∧ len ≤ cap ∧ cap ≤ maxLen ∧ zs.length = len ∧ ArgRow w a (zs.map (Value.int k)) ∧ ∀ n ∈ zs, (Lit.int k n).wf = true
theorem addr_plus (b off k : Nat) : (⟨b, off, none⟩ : Addr).add k = ⟨b, off + k, none⟩ := by unfold Addr.add; split <;> simp_all
theorem add_cell {x : Addr} {w : World} {k : Nat} {v v0 : Value} (h0 : w.cell? (x.add 0) = some v0) (h : w.cell? (x.add k) = some v) : ∃ b off, x = ⟨b, off, none⟩ ∧ b < w.heap.size ∧ w.cell? ⟨b, off + k, none⟩ = some v := by
 obtain ⟨b, off, spot⟩ := x
 have hl := World.block_lt_of_cell? w _ h0
 have hs := World.cell?_spot h0
 simp [Addr.add] at hl hs
 subst hs
 rw [addr_plus] at h
 exact ⟨b, off, rfl, hl, h⟩
section
variable {P : Program} {W : World} {H : Type} {enc : TypeId × Value → H}
theorem argInts_of {k : IntKind} {t e : TypeId} {a : Option Addr} {len cap : Nat} {d : DataW H} {p : List MemPlace} (ht : P.underlying t = some (.slice e)) (he : P.underlying e = some (.int k)) (hc : P.cellsOf e = 1)
  (h : DataW.Trod enc P W 0 (fun _ => true) true t (.slice a len cap) d p) : ∃ zs, ArgInts k W a len cap zs := by
 obtain ⟨fuel, hf⟩ := h
 rcases ChangeShapes.open_ints ht he hc hf with ⟨hcs, _⟩ | ⟨x, l, c, zs, hcs, _, hl, hm, hz, _, hcell, hwz⟩
 ·simp [Value.cells] at hcs
  obtain ⟨rfl, rfl, rfl⟩ := hcs
  exact ⟨[], fun _ => ⟨rfl, rfl⟩, by omega, by unfold maxLen; omega, rfl, fun k v hv => by simp at hv, fun n hn => by simp at hn⟩
 ·simp [Value.cells] at hcs
  obtain ⟨rfl, rfl, rfl⟩ := hcs
  simp at hz
  refine ⟨zs.take len, (fun h => by cases h), hl, hm, (by simp; omega), fun k v hv => ?_, fun n hn => hwz n (List.mem_of_mem_take hn)⟩
  rw [List.getElem?_map, List.getElem?_take] at hv
  split at hv
  ·obtain ⟨n, hn, rfl⟩ := Option.map_eq_some_iff.1 hv
   have := hcell k (by omega)
   rw [List.getD_eq_getElem?_getD, hn] at this
   obtain ⟨b, off, rfl, h1, h2⟩ := add_cell (hcell 0 (by omega)) this
   exact ⟨b, off, rfl, h1, h2⟩
  ·simp at hv
end
def SeqAt (w : World) (v : Value) (xs : List Value) : Prop := ∃ A c, v = .slice A xs.length c ∧ xs.length ≤ c ∧ c ≤ maxLen ∧ ∀ k u, xs[k]? = some u → ∃ b off, A = some ⟨b, off, none⟩ ∧ w.cell? ⟨b, off + k, none⟩ = some u
theorem SeqAt.of_owns {w : World} {B : Nat} {e : TypeId} {v : Value} {n : Nat} {xs : List Value} (h : w.ownsRow B e 1 v n xs) : SeqAt w v xs := by
 have hn : xs.length = n := by have := h.1; omega
 rcases owns_row h with ⟨rfl, h0, rfl⟩ | ⟨r, cap, cur, rfl, _, _, h1, h2⟩
 ·exact ⟨none, 0, rfl, by simp, by unfold maxLen; simp, fun k u hu => by simp at hu⟩
 ·subst hn
  exact ⟨_, cap, rfl, h1, h2, fun k u hu => ⟨r, 0, rfl, by
   have := h.cells (g := r) rfl k u hu
   rw [addr_add] at this
   rw [Nat.zero_add]; exact this⟩⟩
theorem SeqAt.of_arg {w w' : World} {a : Option Addr} {len cap : Nat} {xs : List Value} (h : ArgRow w a xs) (hb : Below w.heap.size w w') (hn : xs.length = len) (hc : len ≤ cap) (hm : cap ≤ maxLen) : SeqAt w' (.slice a len cap) xs := by
 subst hn
 exact ⟨a, cap, rfl, hc, hm, fun k u hu => h.get hb hu⟩
theorem eq_of_data {a b : ByteArray} (h : a.data.toList = b.data.toList) : a = b := ByteArray.ext (Array.toList_inj.1 h)
theorem text_ne {a b : ByteArray} (h : a ≠ b) : (a.toList == b.toList) = false := by
 rw [beq_eq_false_iff_ne, ByteArray.toList_eq, ByteArray.toList_eq]
 exact fun h2 => h (eq_of_data h2)
theorem strCells_append (a b : ByteArray) : Lib.strCells (a ++ b) = Lib.strCells a ++ Lib.strCells b := by
 simp [Lib.strCells]
theorem or_add {a b k : Nat} (ha : a < 2 ^ k) : a ||| b * 2 ^ k = a + b * 2 ^ k := by
 have := Nat.shiftLeft_add_eq_or_of_lt ha b
 rw [Nat.shiftLeft_eq] at this
 rw [Nat.or_comm, ← this, Nat.add_comm]
theorem SeqAt.get {w w' : World} {A : Option Addr} {c n : Nat} {xs : List Value} (h : SeqAt w (.slice A n c) xs) (hb : Below w.heap.size w w') {k : Nat} {u : Value} (hk : xs[k]? = some u) :
  ∃ b off, A = some ⟨b, off, none⟩ ∧ b < w.heap.size ∧ w'.cell? ⟨b, off + k, none⟩ = some u := by
 obtain ⟨A', c', e, _, _, h3⟩ := h
 injection e with e1 e2 e3
 subst e1
 obtain ⟨b, off, e, hc⟩ := h3 k u hk
 have hl := World.block_lt_of_cell? w _ hc
 exact ⟨b, off, e, hl, (hb.cell (p := ⟨b, off + k, none⟩) hl).trans hc⟩
theorem below_drewN {B : Nat} {a w : World} (h : Below B a w) (n : Nat) : Below B a (w.drewN n) := ⟨h.os, h.tape, h.output, h.size, h.block⟩
theorem keep_callS {P : Program} {n : Nat} {args : Array Value} {w w0 : World} {B : Nat} {F : World → Prop} {v : Value} (hF : ∀ a b, Below a.heap.size a b → F a → F b)
  (hc : Calls P n args w fun e w' => e = .returned v ∧ Below w.heap.size w w') (h : F w ∧ Below B w0 w ∧ B ≤ w.heap.size) :
  Calls P n args w fun e w' => e = .returned v ∧ (F w' ∧ Below B w0 w' ∧ B ≤ w'.heap.size) :=
 hc.mono fun e w' q => ⟨q.1, hF _ _ q.2 h.1, h.2.1.trans (q.2.mono h.2.2), Nat.le_trans h.2.2 q.2.size⟩
theorem cell_later {w w' : World} {p : Addr} {v : Value} (h : w.cell? p = some v) (hb : Below w.heap.size w w') : w'.cell? p = some v := (hb.cell (World.block_lt_of_cell? w _ h)).trans h
theorem SeqAt.later_ {w w' : World} {v : Value} {xs : List Value} (h : SeqAt w v xs) (hb : Below w.heap.size w w') : SeqAt w' v xs := by
 obtain ⟨A, c, e, h1, h2, h3⟩ := h
 refine ⟨A, c, e, h1, h2, fun k u hu => ?_⟩
 obtain ⟨b, off, e2, hc⟩ := h3 k u hu
 exact ⟨b, off, e2, cell_later hc hb⟩
theorem Lies.drew {w : World} {g : Nat} {t : TypeId} {cs : Array Value} (h : Lies w g t cs) : Lies w.drew g t cs := h
theorem owns_drew {w : World} {B : Nat} {e : TypeId} {size n : Nat} {v : Value} {xs : List Value} (h : w.ownsRow B e size v n xs) : w.drew.ownsRow B e size v n xs := h
theorem Kept.drew (S : Nat → Prop) (w : World) : Kept S w w.drew := Kept.drewN S w 1
def SeqS (w : World) (sz : Nat) (v : Value) (n : Nat) (xs : List Value) : Prop :=
 xs.length = n * sz ∧ ∃ A c, v = .slice A n c ∧ n ≤ c ∧ c ≤ maxLen ∧ (A = none → c = 0) ∧ ∀ k u, xs[k]? = some u → ∃ b off, A = some ⟨b, off, none⟩ ∧ w.cell? ⟨b, off + k, none⟩ = some u
section
variable {w w' : World} {B : Nat} {e : TypeId} {sz n : Nat} {v : Value} {xs : List Value}
theorem SeqS.of_owns (h : w.ownsRow B e sz v n xs) : SeqS w sz v n xs := by
 refine ⟨h.1, ?_⟩
 rcases owns_row h with ⟨rfl, h0, rfl⟩ | ⟨r, cap, cur, rfl, _, _, h1, h2⟩
 ·subst h0
  exact ⟨none, 0, rfl, Nat.le_refl _, by unfold maxLen; omega, fun _ => rfl, fun k u hu => by simp at hu⟩
 ·exact ⟨_, cap, rfl, h1, h2, (fun h => by cases h), fun k u hu => ⟨r, 0, rfl, by
   have := h.cells (g := r) rfl k u hu
   rw [addr_add] at this
   rw [Nat.zero_add]; exact this⟩⟩
theorem SeqS.later (h : SeqS w sz v n xs) (hb : Below w.heap.size w w') : SeqS w' sz v n xs := by
 obtain ⟨h1, A, c, rfl, h2, h3, h0, h4⟩ := h
 refine ⟨h1, A, c, rfl, h2, h3, h0, fun k u hu => ?_⟩
 obtain ⟨b, off, rfl, hc⟩ := h4 k u hu
 exact ⟨b, off, rfl, (hb.cell (p := ⟨b, off + k, none⟩) (World.block_lt_of_cell? w _ hc)).trans hc⟩
theorem SeqS.elem (h : SeqS w sz v n xs) {i : Nat} (hi : i < n) (hz : 0 < sz) : ∃ b off c, v = .slice (some ⟨b, off, none⟩) n c ∧ n ≤ c ∧ c ≤ maxLen ∧ ∀ j u, j < sz → xs[i * sz + j]? = some u → w.cell? ⟨b, off + i * sz + j, none⟩ = some u := by
 obtain ⟨h1, A, c, rfl, h2, h3, _, h4⟩ := h
 have hl : i * sz < xs.length := by rw [h1]; exact Nat.mul_lt_mul_of_pos_right hi hz
 obtain ⟨b, off, rfl, _⟩ := h4 (i * sz) _ (List.getElem?_eq_getElem hl)
 refine ⟨b, off, c, rfl, h2, h3, fun j u hj hu => ?_⟩
 obtain ⟨b', off', e, hc⟩ := h4 _ u hu
 cases e
 rw [Nat.add_assoc]; exact hc
theorem SeqS.form (h : SeqS w sz v n xs) : ∃ A c, v = .slice A n c ∧ n ≤ c ∧ c ≤ maxLen ∧ (A = none → c = 0) := by
 obtain ⟨h1, A, c, rfl, h2, h3, h0, _⟩ := h
 exact ⟨A, c, rfl, h2, h3, h0⟩
theorem owns_openS (h : w.ownsRow B e sz v n xs) (hn : 0 < n) : ∃ g cap, v = .slice (some ⟨g, 0, none⟩) n cap ∧ B ≤ g ∧ g < w.heap.size ∧ n ≤ cap ∧ cap ≤ maxLen := by
 rcases owns_row h with ⟨_, h0, _⟩ | ⟨r, cap, cur, rfl, hb, hl, h1, h2⟩
 ·omega
 ·exact ⟨r, cap, rfl, hb, hl.lt, h1, h2⟩
end
theorem append_oneS {P : Program} {ops : Array Oper} {rest : List Oper} {o : Oper} {a : Act} {Q : Exit → Act → World → Prop} (w : World) (x : Array Value) (sz : Nat)
  (hg : o.guard = none) (s y : Operand) (t : TypeId) (hop : o.op = Op.call { callee := Callee.builtin Builtin.append, args := #[s, y], argTypes := #[t, t] })
  (base : Nat) (e : TypeId) (z : Value) (bytes : Nat) (ht : P.underlying t = some (.slice e)) (hi : (P.info? e).map (fun i => (i.zero, i.size, i.bytes)) = some (some z, sz, bytes))
  (hzs : z.cells.size = sz) (hsz : 0 < sz) (hxs : x.size = sz) (hx1 : ∀ u ∈ x.toList, u.oneCell' = true)
  (v : Value) (n : Nat) (xs : List Value) (hs : a.eval s = v) (hown : w.ownsRow base e sz v n xs) (hy : a.eval y = .slice (some ⟨w.heap.size, 0, none⟩) 1 1)
  (b1 : n + 1 ≤ maxLen) (b2 : (n + 1) * bytes ≤ 140737488355328) (b3 : base ≤ w.heap.size)
  (hK : ∀ v' w', w'.ownsRow base e sz v' (n + 1) (xs ++ x.toList) → Below base w w' → (w.alloc (.cells x e)).grownBy w' v.ownBlock → wpList P ops Q rest (a.put o.dst v') w') :
  wpList P ops Q (o :: rest) a (w.alloc (.cells x e)) := by
 obtain ⟨i0, hi, hz0, hz1, hz2⟩ := info_parts hi
 refine wpList_append_own _ hg s y t hop base e i0 z sz bytes ht hi hz0 hz1 hz2 hzs hsz v n xs hs (hown.alloc _) ⟨w.heap.size, 0, none⟩ 1 1 x.toList hy (by simp [hxs]) ?_ hx1 b1 b2 (by simp; omega) ?_
 ·intro j u hj
  rw [addr_add, (Lies.made w e x).cell j]
  simpa using hj
 ·intro v' w' ho hgr _
  exact hK v' w' ho (below_of_grown hown b3 hgr) hgr
def cells2 (l : List (Nat × Nat)) : List Value := l.flatMap fun p => [Value.int .u64 (p.1 : Int), Value.int .u64 (p.2 : Int)]
theorem cells2_length (l : List (Nat × Nat)) : (cells2 l).length = l.length * 2 := by
 induction l with
 | nil => rfl
 | cons p l ih => simp only [cells2, List.flatMap_cons, List.length_append, List.length_cons, List.length_nil] at *; omega
theorem cells2_append (l m : List (Nat × Nat)) : cells2 (l ++ m) = cells2 l ++ cells2 m := by simp [cells2]
theorem cells2_get : ∀ {l : List (Nat × Nat)} {i : Nat} {p : Nat × Nat}, l[i]? = some p → (cells2 l)[i * 2 + 0]? = some (Value.int .u64 (p.1 : Int)) ∧ (cells2 l)[i * 2 + 1]? = some (Value.int .u64 (p.2 : Int))
 | q :: l, 0, p, h => by simp at h; subst h; exact ⟨rfl, rfl⟩
 | q :: l, i + 1, p, h => by
  have := cells2_get (l := l) (i := i) (p := p) (by simpa using h)
  rw [show (i + 1) * 2 + 0 = (i * 2 + 0) + 1 + 1 by omega, show (i + 1) * 2 + 1 = (i * 2 + 1) + 1 + 1 by omega]
  exact this
theorem cells2_set (l : List (Nat × Nat)) (a b c : Nat) : (cells2 (l ++ [(a, b)])).set (l.length * 2 + 1) (Value.int .u64 (c : Int)) = cells2 (l ++ [(a, c)]) := by
 rw [cells2_append, List.set_append_right _ _ (by rw [cells2_length]; omega), cells2_length, show l.length * 2 + 1 - l.length * 2 = 1 by omega, cells2_append]
 rfl
theorem own_last {w : World} {B : Nat} {e : TypeId} {g n cap x y : Nat} {d : List (Nat × Nat)} (h : w.ownsRow B e 2 (.slice (some ⟨g, 0, none⟩) n cap) n (cells2 (d ++ [(x, y)]))) (hn : n = d.length + 1) :
  w.cell? ⟨g, d.length * 2, none⟩ = some (.int .u64 (x : Int)) ∧ w.cell? ⟨g, d.length * 2 + 1, none⟩ = some (.int .u64 (y : Int)) ∧ w.frozen? ⟨g, d.length * 2 + 1, none⟩ = false ∧
   ∀ z : Nat, (w.setCell ⟨g, d.length * 2 + 1, none⟩ (.int .u64 (z : Int))).ownsRow B e 2 (.slice (some ⟨g, 0, none⟩) n cap) n (cells2 (d ++ [(x, z)])) := by
 obtain ⟨h1, h2⟩ := cells2_get (l := d ++ [(x, y)]) (i := d.length) (p := (x, y)) (by simp)
 refine ⟨?_, ?_, h.frozenAt _, fun z => ?_⟩
 ·rw [h.cellAt _ (by omega), ← h1, Nat.add_zero]
 ·rw [h.cellAt _ (by omega), h2]
 ·have := (h.stored (d.length * 2 + 1) (.int .u64 (z : Int))).1
  rwa [cells2_set] at this
section
variable {α : Type} {f : α → List Value} {sz : Nat}
def rowsOf (f : α → List Value) (l : List α) : List Value := l.flatMap f
theorem rowsOf_length (hf : ∀ x, (f x).length = sz) (l : List α) : (rowsOf f l).length = l.length * sz := by
 induction l with
 | nil => simp [rowsOf]
 | cons a l ih => simp only [rowsOf, List.flatMap_cons, List.length_append, List.length_cons, Nat.add_mul, hf] at *; omega
theorem rowsOf_append (l m : List α) : rowsOf f (l ++ m) = rowsOf f l ++ rowsOf f m := by simp [rowsOf]
theorem rowsOf_cons (a : α) (l : List α) : rowsOf f (a :: l) = f a ++ rowsOf f l := by simp [rowsOf]
theorem rowsOf_get (hf : ∀ x, (f x).length = sz) : ∀ {l : List α} {i : Nat} {x : α} (_ : l[i]? = some x) {j : Nat} (_ : j < sz), (rowsOf f l)[i * sz + j]? = (f x)[j]?
 | a :: l, 0, x, h, j, hj => by
  simp at h; subst h
  rw [rowsOf_cons, Nat.zero_mul, Nat.zero_add, List.getElem?_append_left (by rw [hf]; exact hj)]
 | a :: l, i + 1, x, h, j, hj => by
  rw [rowsOf_cons, List.getElem?_append_right (by rw [hf, Nat.add_mul]; omega), hf, show (i + 1) * sz + j - sz = i * sz + j by rw [Nat.add_mul]; omega]
  exact rowsOf_get hf (by simpa using h) hj
theorem rowsOf_take (hf : ∀ x, (f x).length = sz) (l : List α) (k : Nat) : rowsOf f (l.take k) = (rowsOf f l).take (k * sz) := by
 induction k generalizing l with
 | zero => simp [rowsOf]
 | succ k ih =>
  cases l with
  | nil => simp [rowsOf]
  | cons a l => rw [List.take_succ_cons, rowsOf_cons, rowsOf_cons, ih, Nat.add_mul, Nat.one_mul, Nat.add_comm, List.take_append, hf, List.take_of_length_le (l := f a) (by rw [hf]; omega), Nat.add_sub_cancel_left]
theorem rowsOf_set1 (hf : ∀ x, (f x).length = sz) : ∀ {l : List α} {i : Nat} {x y : α} {j : Nat} {u : Value} (_ : l[i]? = some x) (_ : j < sz) (_ : f y = (f x).set j u), (rowsOf f l).set (i * sz + j) u = rowsOf f (l.set i y)
 | a :: l, 0, x, y, j, u, h, hj, hy => by
  simp at h; subst h
  rw [rowsOf_cons, Nat.zero_mul, Nat.zero_add, List.set_append_left _ _ (by rw [hf]; exact hj), ← hy, List.set_cons_zero, rowsOf_cons]
 | a :: l, i + 1, x, y, j, u, h, hj, hy => by
  rw [rowsOf_cons, List.set_append_right _ _ (by rw [hf, Nat.add_mul]; omega), hf, show (i + 1) * sz + j - sz = i * sz + j by rw [Nat.add_mul]; omega, rowsOf_set1 hf (by simpa using h) hj hy, List.set_cons_succ, rowsOf_cons]
theorem rowsOf_mem {l : List α} {u : Value} (h : u ∈ rowsOf f l) : ∃ x ∈ l, u ∈ f x := List.mem_flatMap.1 h
theorem SeqS.len_ {w : World} {v : Value} {n : Nat} {l : List α} (hf : ∀ x, (f x).length = sz) (hs : 0 < sz) (h : SeqS w sz v n (rowsOf f l)) : l.length = n := by
 have h1 := h.1
 rw [rowsOf_length hf] at h1
 exact Nat.eq_of_mul_eq_mul_right hs h1
end
theorem owned_made (w : World) (e : TypeId) (z : Value) (hz : z.cells = #[z]) (n : Nat) (hn : n ≤ maxLen) :
  (w.alloc (.cells (madeCells #[z] n) e)).ownsRow w.heap.size e 1 (.slice (some ⟨w.heap.size, 0, none⟩) n n) n (List.replicate n z) := by
 have := World.ownsRow_lit (base := w.heap.size) (e := e) (size := 1) w (madeCells #[z] n) n (Nat.le_refl _) hn (by simp [size_madeCells])
 have e2 := zeros_made z hz n
 rw [hz, Nat.mul_one] at e2
 rwa [e2] at this
theorem owned_set {w : World} {B : Nat} {e : TypeId} {sz n cap r k : Nat} {xs : List Value} {u : Value} (h : w.ownsRow B e sz (.slice (some ⟨r, 0, none⟩) n cap) n xs) (hk : k < xs.length) :
  (w.setCell ⟨r, k, none⟩ u).ownsRow B e sz (.slice (some ⟨r, 0, none⟩) n cap) n (xs.set k u) := (h.stored k u).1
theorem made_rows {α : Type} {f : α → List Value} {sz : Nat} (hf : ∀ x, (f x).length = sz) (hs : 0 < sz) (x : α) (zc : Array Value) (hz : zc.toList = f x) (n : Nat) : (madeCells zc (n * sz)).toList = rowsOf f (List.replicate n x) := by
 have hzn : zc.size = sz := by rw [← Array.length_toList, hz, hf]
 apply List.ext_getElem?
 intro k
 by_cases hk : k < n * sz
 ·have hi : k / sz < n := (Nat.div_lt_iff_lt_mul hs).2 hk
  have hj : k % sz < sz := Nat.mod_lt _ hs
  have hkk : k / sz * sz + k % sz = k := by rw [Nat.mul_comm]; exact Nat.div_add_mod k sz
  have hg := rowsOf_get hf (l := List.replicate n x) (i := k / sz) (x := x) (by rw [List.getElem?_replicate, if_pos hi]) hj
  rw [hkk] at hg
  rw [hg, ← hz]
  unfold madeCells
  simp only [Array.toList_map, List.getElem?_map, Array.toList_range, List.getElem?_range hk, Option.map_some, hzn]
  rw [Array.getElem?_toList, Array.getElem?_eq_getElem (by omega), getElem!_pos zc _ (by omega)]
 ·rw [List.getElem?_eq_none (by rw [Array.length_toList, size_madeCells]; omega), List.getElem?_eq_none (by rw [rowsOf_length hf, List.length_replicate]; omega)]
theorem run_make_rowS {P : Program} (t e : TypeId) (z : Value) (size bytes : Nat) (ht : P.underlying t = some (.slice e)) (hinfo : (P.info? e).map (fun i => (i.zero, i.size, i.bytes)) = some (some z, size, bytes))
  (kl kc : IntKind) (n : Nat) (hbytes : bytes * n ≤ 281474976710656) (hn : n ≤ 1099511627776) (w : World) :
  (Instr.makeSlice t (.int kl (n : Int)) (.int kc (n : Int))).run P w = .ok (.slice (some ⟨w.heap.size, 0, none⟩) n n) (w.alloc (.cells (madeCells z.cells (n * size)) e)) := by
 obtain ⟨i, hi, hz0, hz1, hz2⟩ := info_parts hinfo
 have hb' : (i.bytes : Int) * (n : Int) ≤ 281474976710656 := by
  have h : ((i.bytes * n : Nat) : Int) ≤ 281474976710656 := by rw [hz2]; omega
  rwa [Int.natCast_mul] at h
 have hr := run_make (P := P) w t e i z ht hi hz0 kl kc n n (by omega) (Int.le_refl _) hb' (by omega)
 simp only [Int.toNat_natCast, hz1] at hr
 exact hr
theorem owned_rows {α : Type} {f : α → List Value} {sz : Nat} (hf : ∀ x, (f x).length = sz) (hs : 0 < sz) (w : World) (e : TypeId) (x : α) (zc : Array Value) (hz : zc.toList = f x) (n : Nat) (hn : n ≤ maxLen) :
  (w.alloc (.cells (madeCells zc (n * sz)) e)).ownsRow w.heap.size e sz (.slice (some ⟨w.heap.size, 0, none⟩) n n) n (rowsOf f (List.replicate n x)) := by
 have := World.ownsRow_lit (base := w.heap.size) (e := e) (size := sz) w (madeCells zc (n * sz)) n (Nat.le_refl _) hn (size_madeCells _ _)
 rwa [made_rows hf hs x zc hz n] at this
theorem Lies.putL' {w : World} {g : Nat} {t : TypeId} {cs : List Value} (h : Lies w g t cs.toArray) (i : Nat) (u : Value) : Lies (w.setCell ⟨g, i, none⟩ u) g t (cs.set i u).toArray := by
 have := h.put i u
 rwa [List.setIfInBounds_toArray] at this
theorem lies_cells {g : Nat} {T : TypeId} : ∀ (vs : List Value) (pre ob post : List Value) (w : World), vs.length = ob.length → Lies w g T (pre ++ (ob ++ post)).toArray → Lies (w.setCells g pre.length vs) g T (pre ++ (vs ++ post)).toArray
 | [], pre, ob, post, w, hl, h => by
  obtain rfl : ob = [] := List.length_eq_zero_iff.1 hl.symm
  exact h
 | v :: vs, pre, [], post, w, hl, h => by simp at hl
 | v :: vs, pre, x :: ob, post, w, hl, h => by
  have h1 := Lies.putL' h pre.length v
  rw [List.set_append_right _ _ (Nat.le_refl _), Nat.sub_self] at h1
  simp only [List.cons_append, List.set_cons_zero] at h1
  rw [show pre ++ v :: (ob ++ post) = (pre ++ [v]) ++ (ob ++ post) by simp] at h1
  have h2 := lies_cells vs (pre ++ [v]) ob post _ (by simpa using hl) h1
  rw [List.length_append] at h2
  simp only [List.append_assoc, List.cons_append, List.nil_append] at h2
  exact h2
theorem lies_there {w : World} {g : Nat} {T : TypeId} {cs : Array Value} (h : Lies w g T cs) {o n : Nat} (hn : o + n ≤ cs.size) : w.there g o n := fun j hj => ⟨by rw [h.cell, Array.getElem?_eq_getElem (by omega)]; rfl, h.free _⟩
theorem owns_cut {α : Type} {f : α → List Value} {sz B : Nat} {e : TypeId} {w : World} {r n cap : Nat} {l : List α} (hf : ∀ x, (f x).length = sz) (h : w.ownsRow B e sz (.slice (some ⟨r, 0, none⟩) n cap) n (rowsOf f l)) {m : Nat} (hm : m ≤ n) :
  w.ownsRow B e sz (.slice (some ⟨r, 0, none⟩) m cap) m (rowsOf f (l.take m)) := by
 obtain ⟨h1, h2⟩ := h
 rcases h2 with ⟨h0, _⟩ | ⟨r', cap', cur, h0, hB, hh, hc1, hc2, hc3, hc4⟩
 ·cases h0
 simp only [Value.slice.injEq, Option.some.injEq, Addr.mk.injEq, and_true, true_and] at h0
 obtain ⟨rfl, rfl⟩ := h0
 have hmn : m * sz ≤ n * sz := Nat.mul_le_mul_right _ hm
 refine ⟨by rw [rowsOf_take hf, List.length_take, h1]; omega, .inr ⟨r, cap, cur, rfl, hB, hh, by omega, hc2, hc3, ?_⟩⟩
 rw [rowsOf_take hf, ← hc4, List.take_take, Nat.min_eq_left hmn]
def RdAt (w : World) (g : Nat) (s : ByteArray) (i : Nat) : Prop := Lies w g 106 #[.string s, .int .i64 i] ∧ i ≤ s.size ∧ s.size ≤ maxLen
theorem octetNew (s : ByteArray) (w : World) (hs : s.size ≤ maxLen) : Calls Try.prog 39 #[.string s] w fun e w' =>
  e = .returned (.pointer (some ⟨w.heap.size, 0, none⟩)) ∧ RdAt w' w.heap.size s 0 ∧ Kept noRow w w' := by
 go_enter Try.func39, Try.ntmps39
 go_wp2
 go_ret
 exact ⟨rfl, ⟨Lies.made _ _ _, Nat.zero_le _, hs⟩, Kept.alloc _ _ _⟩
theorem octetLeft (g : Nat) (s : ByteArray) (i : Nat) (w : World) (h : RdAt w g s i) : Calls Try.prog 43 #[.pointer (some ⟨g, 0, none⟩)] w fun e w' =>
  e = .returned (.int .i64 ((s.size : Int) - i)) ∧ ∃ n, w' = w.drewN n := by
 obtain ⟨h1, h2, h3⟩ := h
 have c0 : w.cell? ⟨g, 0, none⟩ = some (.string s) := h1.cell 0
 have c1 : w.cell? ⟨g, 1, none⟩ = some (.int .i64 i) := h1.cell 1
 unfold maxLen at h3
 clear h1
 go_enter Try.func43, Try.ntmps43
 go_wp2_with fail
 go_quiet (fail)
 go_wp2
 go_ret
 exact ⟨rfl, _, rfl⟩
theorem ret_two {a b c d : Value} (h : a = b) (k : c = d) : Ending.returned (.tuple #[a, c]) = .returned (.tuple #[b, d]) := by rw [h, k]
theorem v_int {k : IntKind} {a b : Int} (h : a = b) : Value.int k a = .int k b := by rw [h]
theorem octetTakeEnd (g : Nat) (s : ByteArray) (i : Nat) (n : Int) (w : World) (h : RdAt w g s i) (hn : (s.size : Int) - i < n) : Calls Try.prog 42 #[.pointer (some ⟨g, 0, none⟩), .int .i64 n] w fun e w' =>
  e = .returned (.tuple #[.string ByteArray.empty, .int .i64 2]) ∧ ∃ m, w' = w.drewN m := by
 have h2 := h.2.1
 go_enter Try.func42, Try.ntmps42
 go_wp2_with fail
 refine (octetLeft g s i w h).mono ?_
 rintro e w' ⟨rfl, m, rfl⟩
 go_wp2
 go_ret2
 exact ⟨rfl, _, rfl⟩
theorem octetTakeOk (g : Nat) (s : ByteArray) (i : Nat) (n : Int) (w : World) (h : RdAt w g s i) (h0 : 0 ≤ n) (hn : n ≤ (s.size : Int) - i) : Calls Try.prog 42 #[.pointer (some ⟨g, 0, none⟩), .int .i64 n] w fun e w' =>
  e = .returned (.tuple #[.string (s.extract i (i + n.toNat)), .int .i64 0]) ∧ RdAt w' g s (i + n.toNat) ∧ Kept (oneRow g) w w' := by
 have hr := h
 obtain ⟨h1, h2, h3⟩ := h
 obtain ⟨k, rfl⟩ := Int.eq_ofNat_of_zero_le h0
 have c0 : w.cell? ⟨g, 0, none⟩ = some (.string s) := h1.cell 0
 have c1 : w.cell? ⟨g, 1, none⟩ = some (.int .i64 i) := h1.cell 1
 have f1 : w.frozen? ⟨g, 1, none⟩ = false := h1.free 1
 have h4 := h3
 unfold maxLen at h4
 have hk : i + k ≤ s.size := by omega
 have hki : (i : Int) + k ≤ s.size := by omega
 have H1 := Lib.hid h1
 have H3 := Lib.hid h3
 clear h1 h3
 go_enter Try.func42, Try.ntmps42
 go_wp2_with fail
 refine (octetLeft g s i w hr).mono ?_
 rintro e w' ⟨rfl, m, rfl⟩
 go_wp2_with fail
 have q1 : IntKind.i64.wrap ((i : Int) + k) = i + k := IntWalk.i64_in _ (by omega)
 have hsl := slice_text (P := Try.prog) 9 Try.underlying9 s i (i + k) i ((i : Int) + k) rfl (by omega) (by omega) hk
 go_quiet (fail)
 go_wp2
 go_ret2
 refine ⟨rfl, ⟨?_, hk, H3.out⟩, (Kept.drewN _ _ _).trans (Kept.put _ g 1 _) (fun _ _ h => h)⟩
 exact (H1.out.drewN _).put 1 _
theorem RdAt.kept {w w' : World} {g : Nat} {s : ByteArray} {i : Nat} {S : Nat → Prop} (h : RdAt w g s i) (k : Kept S w w') (hn : ¬ S g) : RdAt w' g s i := ⟨h.1.kept k hn, h.2⟩
theorem octetByteEnd (g : Nat) (s : ByteArray) (w : World) (h : RdAt w g s s.size) : Calls Try.prog 54 #[.pointer (some ⟨g, 0, none⟩)] w fun e w' =>
  e = .returned (.tuple #[.int .u8 0, .int .i64 2]) ∧ ∃ n, w' = w.drewN n := by
 go_enter Try.func54, Try.ntmps54
 go_wp2_with fail
 refine (octetTakeEnd g s s.size 1 w h (by omega)).mono ?_
 rintro e w' ⟨rfl, m, rfl⟩
 go_wp2
 go_ret2
 exact ⟨rfl, _, rfl⟩
theorem octetByteOk (g : Nat) (s : ByteArray) (i : Nat) (w : World) (h : RdAt w g s i) (hi : i < s.size) : Calls Try.prog 54 #[.pointer (some ⟨g, 0, none⟩)] w fun e w' =>
  e = .returned (.tuple #[.int .u8 (s[i]'hi).toNat, .int .i64 0]) ∧ RdAt w' g s (i + 1) ∧ Kept (oneRow g) w w' := by
 obtain ⟨t, ht⟩ : ∃ t, t = s.extract i (i + 1) := ⟨_, rfl⟩
 have hts : 0 < t.size := by rw [ht, ByteArray.size_extract]; omega
 have hb : t[0]'hts = s[i]'hi := by
  subst ht; simp [ByteArray.getElem_extract]
 have HB := Lib.hid hb
 clear hb
 go_enter Try.func54, Try.ntmps54
 go_wp2_with fail
 refine (octetTakeOk g s i 1 w h (by omega) (by omega)).mono ?_
 rintro e w' ⟨rfl, hr, hk⟩
 rw [show (1 : Int).toNat = 1 from rfl] at *
 rw [← ht]
 clear ht
 go_wp2
 go_ret2
 exact ⟨ret_two (v_int (by rw [HB.out])) rfl, hr, hk⟩
def leb : Nat → Nat → List UInt8
 | 0, n => [UInt8.ofNat n]
 | f + 1, n => if n < 128 then [UInt8.ofNat n] else UInt8.ofNat (n % 128 + 128) :: leb f (n / 128)
def enc (n : Nat) : List UInt8 := leb 9 n
def M64 : Nat := 18446744073709551616
theorem leb_small (f n : Nat) (h : n < 128) : leb f n = [UInt8.ofNat n] := by cases f <;> simp [leb, h]
theorem leb_big (f n : Nat) (h : ¬ n < 128) : leb (f + 1) n = UInt8.ofNat (n % 128 + 128) :: leb f (n / 128) := by simp [leb, h]
theorem leb_length (f n : Nat) : 1 ≤ (leb f n).length ∧ (leb f n).length ≤ f + 1 := by
 induction f generalizing n with
 | zero => simp [leb]
 | succ f ih =>
  by_cases h : n < 128
  ·rw [leb_small _ _ h]; simp
  ·rw [leb_big _ _ h, List.length_cons]; have := ih (n / 128); omega
theorem enc_length (n : Nat) : 1 ≤ (enc n).length ∧ (enc n).length ≤ 10 := leb_length 9 n
theorem pow128_succ (f : Nat) : (128 : Nat) ^ (f + 1) = 128 ^ f * 128 := Nat.pow_succ 128 f
theorem lt_div (f n : Nat) (h : n < 128 ^ (f + 2)) : n / 128 < 128 ^ (f + 1) := by
 rw [Nat.pow_succ] at h
 rw [Nat.div_lt_iff_lt_mul (by decide)]
 exact h
theorem m64_lt : M64 ≤ 128 ^ 10 := by unfold M64; rw [show (128 : Nat) ^ 10 = 1180591620717411303424 by decide +kernel]; omega
def rdV : Nat → Nat → Nat → List UInt8 → Nat × Nat × Nat
 | 0, _, _, _ => (0, 3, 0)
 | _ + 1, _, _, [] => (0, 2, 0)
 | f + 1, k, v, b :: l =>
  if (0 < k ∧ b = 0) ∨ (k = 9 ∧ 1 < b.toNat) then (0, 3, 1)
  else if b.toNat < 128 then (v + b.toNat * 128 ^ k, 0, 1)
  else ((rdV f (k + 1) (v + (b.toNat - 128) * 128 ^ k) l).1, (rdV f (k + 1) (v + (b.toNat - 128) * 128 ^ k) l).2.1, (rdV f (k + 1) (v + (b.toNat - 128) * 128 ^ k) l).2.2 + 1)
def rd (l : List UInt8) : Nat × Nat × Nat := rdV 10 0 0 l
theorem Try.infoU8 : (Try.prog.info? 5).map (fun i => (i.zero, i.size, i.bytes)) = some (some (.int .u8 0), 1, 1) := by kernel_rfl
def cellsB (l : List UInt8) : List Value := l.map fun b => Value.int .u8 b.toNat
def textB (l : List UInt8) : ByteArray := ⟨l.toArray⟩
theorem cellsB_text (l : List UInt8) : Lib.strCells (textB l) = cellsB l := by simp [Lib.strCells, textB, cellsB]
theorem textB_size (l : List UInt8) : (textB l).size = l.length := by simp [textB, ByteArray.size]
theorem cellsB_append (l m : List UInt8) : cellsB (l ++ m) = cellsB l ++ cellsB m := by simp [cellsB]
theorem cellsB_push (d : List UInt8) (b : UInt8) : cellsB d ++ [.int .u8 (b.toNat : Int)] = cellsB (d ++ [b]) := by simp [cellsB]
theorem byte_of (s : ByteArray) (i : Nat) (hi : i < s.size) : s.data.toList[i]? = some s[i] := by
 rw [Array.getElem?_toList]; exact Array.getElem?_eq_getElem hi
theorem convert_owned (w : World) (B : Nat) (v : Value) (l : List UInt8) (n : Nat) (hn : n = l.length) (ho : w.ownsRow B 5 1 v n (cellsB l)) :
  (convert 30 9 v).run Try.prog w = .ok (.string (textB l)) w := by
 subst hn
 rcases owns_row ho with ⟨rfl, h0, _⟩ | ⟨r, cap, cur, rfl, _⟩
 ·have hl : l = [] := List.length_eq_zero_iff.1 h0
  subst hl
  exact Lib.run_convert_nil_bytes (P := Try.prog) w 30 9 5 0 Try.underlying30 Try.underlying5 Try.underlying9
 ·have := Lib.run_convert_whole (P := Try.prog) w 30 5 9 Try.underlying30 Try.underlying5 Try.underlying9 r 0 (textB l) (fun i hi => by
   rw [Nat.zero_add, ← addr_add]
   refine ho.cells (g := r) rfl i _ ?_
   rw [← cellsB_text]
   simp only [Lib.strCells, List.getElem?_map, byte_of (textB l) i hi]; rfl) cap
  rw [textB_size] at this
  exact this
theorem owns_below {w w' : World} {B : Nat} {e : TypeId} {size n : Nat} {v : Value} {xs : List Value} (h : w.ownsRow B e size v n xs) (k : Below w.heap.size w w') : w'.ownsRow B e size v n xs :=
 owns_kept h (Kept.of_below k) (fun _ _ _ _ hf => hf)
theorem text_append (a b : List UInt8) : textB a ++ textB b = textB (a ++ b) := by apply eq_of_data; simp [textB]
theorem cellsB_set (l : List UInt8) (i : Nat) (n : Nat) (h : n < 256) : (cellsB l).set i (.int .u8 (n : Int)) = cellsB (l.set i (UInt8.ofNat n)) := by
 unfold cellsB
 rw [List.map_set, UInt8.toNat_ofNat', Nat.mod_eq_of_lt h]
theorem or128 : ∀ a : Nat, a < 256 → a ||| 128 = a % 128 + 128 := by decide +kernel
theorem bits_or128 (n : Nat) : bits .or .u8 ((n : Int) % 256) 128 = ((n % 128 + 128 : Nat) : Int) := by
 have h : ((n : Int) % 256) = ((n % 256 : Nat) : Int) := by omega
 have := u8_or_nat (n % 256) 128 (Nat.mod_lt _ (by decide)) (by decide)
 rw [h]
 refine Eq.trans this ?_
 rw [or128 _ (Nat.mod_lt _ (by decide)), show n % 256 % 128 = n % 128 by omega]
theorem more_byte (m : Nat) : bits .or .u8 ((m : Int) % 256) 128 = ((UInt8.ofNat (m % 128 + 128)).toNat : Int) := by
 rw [bits_or128, UInt8.toNat_ofNat']
 omega
theorem last_byte (m : Nat) (h : m < 128) : (m : Int) = ((UInt8.ofNat m).toNat : Int) := by
 rw [UInt8.toNat_ofNat']
 omega
theorem grow_step {f m : Nat} {d l : List UInt8} {n : Nat} (hd : d ++ leb f m = l ++ enc n) (hp : m < 128 ^ (f + 1)) (h : ¬ m < 128) :
  ∃ f', f = f' + 1 ∧ d ++ [UInt8.ofNat (m % 128 + 128)] ++ leb f' (m / 128) = l ++ enc n ∧ m / 128 < 128 ^ (f' + 1) := by
 cases f with
 | zero => simp at hp; omega
 | succ f =>
  refine ⟨f, rfl, ?_, lt_div _ _ hp⟩
  rw [leb_big _ _ h] at hd
  rw [← hd]; simp
theorem grow_done {f m : Nat} {d l : List UInt8} {n : Nat} (hd : d ++ leb f m = l ++ enc n) (h : m < 128) : d ++ [UInt8.ofNat m] = l ++ enc n := by
 rw [leb_small _ _ h] at hd; exact hd
set_option maxHeartbeats 1000000 in
theorem varintGrow (v : Value) (l : List UInt8) (n : Nat) (w : World) (B : Nat) (hB : B ≤ w.heap.size) (ho : w.ownsRow B 5 1 v l.length (cellsB l)) (hl : l.length ≤ 140737488355000) (hn : n < M64) :
  Calls Try.prog 51 #[v, .int .u64 n] w fun e w' => ∃ v', e = .returned v' ∧ w'.ownsRow B 5 1 v' (l ++ enc n).length (cellsB (l ++ enc n)) ∧ Below B w w' := by
 have hn2 : n ≤ 18446744073709551615 := by unfold M64 at hn; omega
 go_enter Try.func51, Try.ntmps51
 go_wp2
 go_loopw [0, 1] (fun t i wr => ∃ (f m : Nat) (d : List UInt8), i = .int .u64 m ∧ m ≤ 18446744073709551615 ∧ f ≤ 9 ∧ Hid (m < 128 ^ (f + 1)) ∧ Hid (d ++ leb f m = l ++ enc n) ∧ d.length + (f + 1) ≤ l.length + 10 ∧ wr.ownsRow B 5 1 t d.length (cellsB d) ∧ Below B w wr)
  (fun _ i _ => (intOf i).toNat)
 case atStart => exact ⟨9, n, l, rfl, hn2, by omega, Nat.lt_of_lt_of_le hn m64_lt, rfl, by omega, ho, Below.refl _ _⟩
 case round =>
  clear ho
  obtain ⟨f, m, d, rfl, hm, hf, hp, hd, hdl, ho, hb⟩ := hrel
  have hBr : B ≤ wr.heap.size := Nat.le_trans hB hb.size
  by_cases h : m < 128
  ·have e0 : decide ((128 : Int) ≤ (m : Int)) = false := by simp; omega
   have hx := last_byte m h
   have hg := Lib.hid (grow_done hd.out h)
   generalize UInt8.ofNat m = b at *
   have HX := Lib.hid hx
   clear hx
   go_wp2_with (at_builtin; rw [HX.out]; refine append_one wr (.int .u8 b.toNat) rfl (.tmp 15) (.tmp 18) 30 rfl B 5 _ _ Try.underlying30 Try.infoU8 rfl rfl _ _ _ rfl ho rfl (by unfold maxLen; omega) (by omega) hBr ?_; intro v' w1 hown1 hb1 _)
   go_ret
   rw [cellsB_push, hg.out] at hown1
   exact ⟨_, rfl, by rw [← hg.out, List.length_append]; rw [hg.out]; exact hown1, hb.trans hb1⟩
  ·have e0 : decide ((128 : Int) ≤ (m : Int)) = true := by simp; omega
   have hx := more_byte m
   obtain ⟨f', rfl, hd', hp'⟩ := grow_step hd.out hp.out h
   have HD := Lib.hid hd'
   have HP := Lib.hid hp'
   clear hd hp hd' hp'
   generalize UInt8.ofNat (m % 128 + 128) = b at *
   go_wp2_with (at_builtin; refine append_one wr (.int .u8 b.toNat) rfl (.tmp 9) (.tmp 13) 30 rfl B 5 _ _ Try.underlying30 Try.infoU8 rfl rfl _ _ _ rfl ho rfl (by unfold maxLen; omega) (by omega) hBr ?_; intro v' w1 hown1 hb1 _)
   rw [cellsB_push] at hown1
   go_roundw
   case rel => exact ⟨f', m / 128, d ++ [b], by go_num, by omega, by omega, HP, HD, by rw [List.length_append]; simp; omega, by rw [List.length_append]; exact hown1, hb.trans hb1⟩
   case measure => simp [intOf]; omega
def wrongB (k : Nat) (b : UInt8) : Bool := decide ((0 < k ∧ b = 0) ∨ (k = 9 ∧ 1 < b.toNat))
theorem varintWrong (k : Nat) (b : UInt8) (w : World) (hk : k ≤ 9) : Calls Try.prog 55 #[.int .i64 k, .int .u8 b.toNat] w fun e w' => e = .returned (.bool (wrongB k b)) ∧ w = w' := by
 have hb := b.toNat_lt
 have hz : (b = 0) ↔ b.toNat = 0 := by
  constructor
  ·rintro rfl; rfl
  ·intro h; exact UInt8.toNat_inj.1 h
 have hw : wrongB k b = decide ((0 < k ∧ b.toNat = 0) ∨ (k = 9 ∧ 1 < b.toNat)) := by simp only [wrongB, hz]
 have HW := Lib.hid hw
 clear hw hz
 generalize b.toNat = B at *
 by_cases h1 : 0 < k
 ·have e1 : decide ((0 : Int) < (k : Int)) = true := by simp; omega
  by_cases h2 : B = 0
  ·have e2 : ((B : Int) == 0) = true := by simp; omega
   go_enter Try.func55, Try.ntmps55
   go_wp2
   go_ret
   exact ⟨ret_bool (by rw [HW.out]; simp; omega), rfl⟩
  ·have e2 : ((B : Int) == 0) = false := by simp; omega
   by_cases h3 : k = 9
   ·subst h3
    have hf : (decide ((1 : Int) < (B : Int))) = decide ((0 < 9 ∧ B = 0) ∨ ((9 : Nat) = 9 ∧ 1 < B)) := by simp [h2]; omega
    have HF := Lib.hid hf
    clear hf
    go_enter Try.func55, Try.ntmps55
    go_wp2
    go_ret
    exact ⟨ret_bool (by rw [HW.out]; exact HF.out), rfl⟩
   ·have e3 : ((k : Int) == 9) = false := by simp; omega
    go_enter Try.func55, Try.ntmps55
    go_wp2
    go_ret
    exact ⟨ret_bool (by rw [HW.out]; simp; omega), rfl⟩
 ·have e1 : decide ((0 : Int) < (k : Int)) = false := by simp; omega
  have e3 : ((k : Int) == 9) = false := by simp; omega
  go_enter Try.func55, Try.ntmps55
  go_wp2
  go_ret
  exact ⟨ret_bool (by rw [HW.out]; simp; omega), rfl⟩
def restOf (s : ByteArray) (i : Nat) : List UInt8 := s.data.toList.drop i
theorem rest_cons (s : ByteArray) (i : Nat) (h : i < s.size) : restOf s i = s[i]'h :: restOf s (i + 1) := by
 unfold restOf
 rw [List.drop_eq_getElem_cons (by simpa using h)]
 rfl
theorem rest_nil (s : ByteArray) : restOf s s.size = [] := by unfold restOf; exact List.drop_of_length_le (by simp)
theorem rdV_wrong (f k v : Nat) (b : UInt8) (l : List UInt8) (h : wrongB k b = true) : rdV (f + 1) k v (b :: l) = (0, 3, 1) := by
 unfold wrongB at h; rw [rdV, if_pos (of_decide_eq_true h)]
theorem rdV_last (f k v : Nat) (b : UInt8) (l : List UInt8) (h : wrongB k b = false) (hb : b.toNat < 128) : rdV (f + 1) k v (b :: l) = (v + b.toNat * 128 ^ k, 0, 1) := by
 unfold wrongB at h; rw [rdV, if_neg (of_decide_eq_false h), if_pos hb]
theorem rdV_more (f k v : Nat) (b : UInt8) (l : List UInt8) (h : wrongB k b = false) (hb : ¬ b.toNat < 128) : rdV (f + 1) k v (b :: l) =
  ((rdV f (k + 1) (v + (b.toNat - 128) * 128 ^ k) l).1, (rdV f (k + 1) (v + (b.toNat - 128) * 128 ^ k) l).2.1, (rdV f (k + 1) (v + (b.toNat - 128) * 128 ^ k) l).2.2 + 1) := by
 unfold wrongB at h; rw [rdV, if_neg (of_decide_eq_false h), if_neg hb]
theorem and127 : ∀ a : Nat, a < 256 → a &&& 127 = a % 128 := by decide +kernel
theorem bits_and127 (b : UInt8) : bits .and .u8 (b.toNat : Int) 127 = ((b.toNat % 128 : Nat) : Int) := by
 have := u8_and_nat b.toNat 127 b.toNat_lt (by decide)
 refine Eq.trans this ?_
 rw [and127 _ b.toNat_lt]
theorem pow7 (k : Nat) : (128 : Nat) ^ k = 2 ^ (7 * k) := by rw [Nat.pow_mul]
theorem group_fits (k x : Nat) (hk : k ≤ 9) (hx : x < 128) (h9 : k = 9 → x < 2) : x * 128 ^ k < 18446744073709551616 := by
 by_cases h : k = 9
 ·subst h; have := h9 rfl
  rw [show (128 : Nat) ^ 9 = 9223372036854775808 by decide +kernel]; omega
 ·have h8 : k ≤ 8 := by omega
  have hp : (128 : Nat) ^ k ≤ 128 ^ 8 := Nat.pow_le_pow_right (by decide) h8
  rw [show (128 : Nat) ^ 8 = 72057594037927936 by decide +kernel] at hp
  calc x * 128 ^ k ≤ 127 * 72057594037927936 := Nat.mul_le_mul (by omega) hp
   _ < 18446744073709551616 := by decide +kernel
theorem or_group (k v x : Nat) (hk : k ≤ 9) (hv : v < 128 ^ k) (hx : x < 128) (h9 : k = 9 → x < 2) :
  bits .or .u64 (v : Int) (IntKind.u64.wrap ((x : Int) * 2 ^ (7 * k))) = ((v + x * 128 ^ k : Nat) : Int) ∧ v + x * 128 ^ k < 128 ^ (k + 1) ∧ v + x * 128 ^ k ≤ 18446744073709551615 := by
 have hf := group_fits k x hk hx h9
 have hp : (128 : Nat) ^ k ≤ 128 ^ 9 := Nat.pow_le_pow_right (by decide) hk
 rw [show (128 : Nat) ^ 9 = 9223372036854775808 by decide +kernel] at hp
 have hw : IntKind.u64.wrap ((x : Int) * 2 ^ (7 * k)) = ((x * 128 ^ k : Nat) : Int) := by
  have e : (x : Int) * 2 ^ (7 * k) = ((x * 128 ^ k : Nat) : Int) := by rw [pow7, Int.natCast_mul, Int.natCast_pow]; rfl
  rw [e, IntKind.wrap_u64]
  omega
 refine ⟨?_, ?_, ?_⟩
 ·rw [hw, bits_or_u64_nat _ _ (by omega) hf]
  congr 1
  rw [pow7]
  exact or_add (by rw [← pow7]; exact hv)
 ·rw [pow128_succ]
  have : x * 128 ^ k ≤ 127 * 128 ^ k := Nat.mul_le_mul_right _ (by omega)
  omega
 ·by_cases h : k = 9
  ·subst h
   have := h9 rfl
   rw [show (128 : Nat) ^ 9 = 9223372036854775808 by decide +kernel] at *
   omega
  ·have h8 : k ≤ 8 := by omega
   have hp8 : (128 : Nat) ^ k ≤ 128 ^ 8 := Nat.pow_le_pow_right (by decide) h8
   rw [show (128 : Nat) ^ 8 = 72057594037927936 by decide +kernel] at hp8
   have : x * 128 ^ k ≤ 127 * 72057594037927936 := Nat.mul_le_mul (by omega) hp8
   omega
theorem or_group_byte (k v : Nat) (b : UInt8) (hk : k ≤ 9) (hv : v < 128 ^ k) (hw : wrongB k b = false) :
  bits .or .u64 (v : Int) (IntKind.u64.wrap ((b.toNat : Int) % 128 * 2 ^ (7 * k))) = ((v + b.toNat % 128 * 128 ^ k : Nat) : Int) ∧ v + b.toNat % 128 * 128 ^ k < 128 ^ (k + 1) ∧ v + b.toNat % 128 * 128 ^ k ≤ 18446744073709551615 := by
 have h9 : k = 9 → b.toNat < 2 := by
  intro h; unfold wrongB at hw; have := of_decide_eq_false hw; omega
 have := or_group k v (b.toNat % 128) hk hv (Nat.mod_lt _ (by decide)) (fun h => by have := h9 h; omega)
 rw [Int.natCast_emod] at this
 exact this
set_option maxHeartbeats 1000000 in
theorem varintRead (g : Nat) (s : ByteArray) (i : Nat) (w : World) (h : RdAt w g s i) : Calls Try.prog 40 #[.pointer (some ⟨g, 0, none⟩)] w fun e w' =>
  e = .returned (.tuple #[.int .u64 (rd (restOf s i)).1, .int .i64 (rd (restOf s i)).2.1]) ∧ RdAt w' g s (i + (rd (restOf s i)).2.2) ∧ Kept (oneRow g) w w' := by
 go_enter Try.func40, Try.ntmps40
 go_wp2
 go_loopw [4, 5] (fun t u wr => ∃ (k v : Nat), k ≤ 9 ∧ t = .int .u64 v ∧ u = .int .i64 k ∧ RdAt wr g s (i + k) ∧ Hid (v < 128 ^ k) ∧ v ≤ 18446744073709551615 ∧ Kept (oneRow g) w wr ∧
   Hid (rd (restOf s i) = ((rdV (9 - k + 1) k v (restOf s (i + k))).1, (rdV (9 - k + 1) k v (restOf s (i + k))).2.1, (rdV (9 - k + 1) k v (restOf s (i + k))).2.2 + k)))
  (fun _ u _ => 10 - (intOf u).toNat)
 case atStart => exact ⟨0, 0, by omega, rfl, rfl, h, by show 0 < 1; omega, by omega, Kept.refl _ _, rfl⟩
 case round =>
  clear h
  obtain ⟨k, v, hk, rfl, rfl, hr, hv, hv2, hkp, hrd⟩ := hrel
  by_cases hend : i + k < s.size
  ·have hb := rest_cons s (i + k) hend
   go_wp2_with fail
   refine (octetByteOk g s (i + k) wr hr hend).mono ?_
   rintro e w1 ⟨rfl, hr1, hk1⟩
   have hkp := hkp.trans hk1 (fun _ _ h => h)
   generalize s[i + k]'hend = b at *
   rw [hb] at hrd
   clear hb hr hk1
   have hbl := b.toNat_lt
   go_wp2_with fail
   refine (varintWrong k b w1 hk).mono ?_
   rintro e w' ⟨rfl, rfl⟩
   cases hwb : wrongB k b
   ·by_cases hlast : b.toNat < 128
    ·have e1 : decide ((b.toNat : Int) < 128) = true := by simp; omega
     have hx := bits_and127 b
     obtain ⟨og, _, _⟩ := or_group_byte k v b hk hv.out hwb
     have OG := Lib.hid og
     have hres := hrd.out
     rw [rdV_last _ _ _ _ _ hwb hlast, ← Nat.mod_eq_of_lt hlast] at hres
     have HRES := Lib.hid hres
     clear hrd hres og
     go_wp2
     go_ret2
     exact ⟨ret_two (v_int (by rw [HRES.out]; exact OG.out)) (v_int (by rw [HRES.out]; rfl)), by rw [HRES.out]; show RdAt w1 g s (i + (1 + k)); rw [Nat.add_comm 1 k, ← Nat.add_assoc]; exact hr1, hkp⟩
    ·have e1 : decide ((b.toNat : Int) < 128) = false := by simp; omega
     have hx := bits_and127 b
     obtain ⟨og, og2, og3⟩ := or_group_byte k v b hk hv.out hwb
     have OG := Lib.hid og
     have OG2 := Lib.hid og2
     have hk8 : k ≤ 8 := by
      unfold wrongB at hwb; have := of_decide_eq_false hwb; omega
     have hres := hrd.out
     rw [rdV_more _ _ _ _ _ hwb hlast, show b.toNat - 128 = b.toNat % 128 by omega] at hres
     have HRES := Lib.hid hres
     clear hrd hres og og2
     go_wp2
     go_roundw
     case rel =>
      refine ⟨k + 1, v + b.toNat % 128 * 128 ^ k, by omega, v_int OG.out, by go_num, hr1, OG2, og3, hkp, ?_⟩
      have he : 9 - k = 9 - (k + 1) + 1 := by omega
      show _ = _
      rw [HRES.out, he]
      simp only [Nat.add_assoc, Nat.add_comm 1 k]
     case measure => simp [intOf]; omega
   ·have hres := hrd.out
    rw [rdV_wrong _ _ _ _ _ hwb] at hres
    have HRES := Lib.hid hres
    clear hrd hres
    go_wp2
    go_ret2
    exact ⟨ret_two (v_int (by rw [HRES.out]; rfl)) (v_int (by rw [HRES.out]; rfl)), by rw [HRES.out]; show RdAt w1 g s (i + (1 + k)); rw [Nat.add_comm 1 k, ← Nat.add_assoc]; exact hr1, hkp⟩
  ·have hpos : i + k = s.size := by have := hr.2.1; omega
   have hres := hrd.out
   rw [hpos] at hr hres
   rw [rest_nil, rdV] at hres
   have HRES := Lib.hid hres
   have HPOS := Lib.hid hpos
   clear hrd hres hpos
   go_wp2_with fail
   refine (octetByteEnd g s wr hr).mono ?_
   rintro e w1 ⟨rfl, n1, rfl⟩
   go_wp2
   go_ret2
   exact ⟨ret_two (v_int (by rw [HRES.out]; rfl)) (v_int (by rw [HRES.out]; rfl)), by rw [HRES.out]; show RdAt _ g s (i + (0 + k)); rw [Nat.zero_add, HPOS.out]; exact hr, hkp.trans (Kept.drewN _ _ _) (fun _ _ h => h)⟩
theorem Try.infoU64 : (Try.prog.info? 24).map (fun i => (i.zero, i.size, i.bytes)) = some (some (.int .u64 0), 1, 8) := by kernel_rfl
theorem rdV_ok (f : Nat) : ∀ k v l, (rdV f k v l).2.1 = 0 → 1 ≤ (rdV f k v l).2.2 := by
 induction f with
 | zero => intro k v l h; simp [rdV] at h
 | succ f ih =>
  intro k v l
  cases l with
  | nil => simp [rdV]
  | cons b l =>
   rw [rdV]
   split
   ·simp
   ·split
    ·simp
    ·simp
theorem rd_ok (l : List UInt8) (h : (rd l).2.1 = 0) : 1 ≤ (rd l).2.2 := rdV_ok _ _ _ _ h
theorem rdV_bound (f : Nat) : ∀ k v l, v ≤ 18446744073709551615 → k + f = 10 → v < 128 ^ k → (rdV f k v l).1 ≤ 18446744073709551615 := by
 induction f with
 | zero => intro k v l _ _ _; simp [rdV]
 | succ f ih =>
  intro k v l hv hk hp
  cases l with
  | nil => simp [rdV]
  | cons b l =>
   cases hw : wrongB k b
   ·have hg := or_group_byte k v b (by omega) hp hw
    by_cases hb : b.toNat < 128
    ·rw [rdV_last _ _ _ _ _ hw hb]
     have := hg.2.2
     rw [Nat.mod_eq_of_lt hb] at this
     exact this
    ·rw [rdV_more _ _ _ _ _ hw hb, show b.toNat - 128 = b.toNat % 128 by have := b.toNat_lt; omega]
     exact ih _ _ _ hg.2.2 (by omega) hg.2.1
   ·rw [rdV_wrong _ _ _ _ _ hw]; simp
theorem rd_bound (l : List UInt8) : (rd l).1 ≤ 18446744073709551615 := rdV_bound 10 0 0 l (by omega) rfl (by omega)
def cells64 (l : List Nat) : List Value := l.map fun (n : Nat) => Value.int .u64 (n : Int)
theorem cells64_push (d : List Nat) (n : Nat) : cells64 d ++ [.int .u64 (n : Int)] = cells64 (d ++ [n]) := by simp [cells64]
theorem cells64_get {l : List Nat} {k n : Nat} (h : l[k]? = some n) : (cells64 l)[k]? = some (.int .u64 (n : Int)) := by simp [cells64, h]
def c8 (l : List Nat) : List Value := l.map fun (n : Nat) => Value.int .u8 (n : Int)
def cI (l : List Nat) : List Value := l.map fun (n : Nat) => Value.int .i64 (n : Int)
theorem c8_length (l : List Nat) : (c8 l).length = l.length := by simp [c8]
theorem cI_length (l : List Nat) : (cI l).length = l.length := by simp [cI]
theorem c64_length (l : List Nat) : (cells64 l).length = l.length := by simp [cells64]
theorem zero64 : ∀ w : World, (zeroValue 25).run Try.prog w = .ok (.agg (Array.replicate 256 (.int .u64 0))) w := fun w => by kernel_rfl
theorem info64 : (Try.prog.info? 25).map (·.size) = some 256 := by kernel_rfl
theorem under64 : Try.prog.underlying 25 = some (.array 256 24) := by kernel_rfl
theorem zero8 : ∀ w : World, (zeroValue 27).run Try.prog w = .ok (.agg (Array.replicate 256 (.int .u8 0))) w := fun w => by kernel_rfl
theorem info8 : (Try.prog.info? 27).map (·.size) = some 256 := by kernel_rfl
theorem under8 : Try.prog.underlying 27 = some (.array 256 5) := by kernel_rfl
theorem zeroI : ∀ w : World, (zeroValue 56).run Try.prog w = .ok (.agg (Array.replicate 57 (.int .i64 0))) w := fun w => by kernel_rfl
theorem infoI : (Try.prog.info? 56).map (·.size) = some 57 := by kernel_rfl
theorem underI : Try.prog.underlying 56 = some (.array 57 3) := by kernel_rfl
theorem sizeOf64 (w : World) : (sizeOf 24).run Try.prog w = .ok 1 w := by kernel_rfl
theorem isAgg8 (w : World) : (isAgg 5).run Try.prog w = .ok false w := by kernel_rfl
theorem isAgg64 (w : World) : (isAgg 24).run Try.prog w = .ok false w := by kernel_rfl
theorem isAggI (w : World) : (isAgg 3).run Try.prog w = .ok false w := by kernel_rfl
theorem sizeOf8 (w : World) : (sizeOf 5).run Try.prog w = .ok 1 w := by kernel_rfl
theorem sizeOfI (w : World) : (sizeOf 3).run Try.prog w = .ok 1 w := by kernel_rfl
theorem run_index_arr {P : Program} (t e : TypeId) (n : Nat) (cs : Array Value) (k : IntKind) (i : Nat) (v : Value) (h : P.underlying t = some (.array n e)) (hg : ∀ w, (isAgg e).run P w = .ok false w) (hs : ∀ w, (sizeOf e).run P w = .ok 1 w) (hi : i < n) (hv : cs[i]? = some v) (w : World) :
  (Instr.index t (.agg cs) (.int k (i : Int))).run P w = .ok v w := by
 have hs' := hs w
 have hg' := hg w
 have hi' : (i : Int) < (n : Int) := by omega
 simp [Instr.index, run_underlying h, asIntOf, hi', hs', part, hv, hg', go_sem]
 intro h; omega
theorem arr_range {w : World} {g : Nat} {t : TypeId} {L : List Value} (h : Lies w g t L.toArray) : w.rangeAt g 0 L := fun j v hv => by
 rw [Nat.zero_add, h.cell j]; simpa using hv
theorem arr_there {w : World} {g : Nat} {t : TypeId} {cs : Array Value} {n : Nat} (h : Lies w g t cs) (hn : cs.size = n) : w.there g 0 n := lies_there h (by omega)
theorem arr_store {w : World} {g : Nat} {t : TypeId} {cs : Array Value} {L : List Value} (h : Lies w g t cs) (hn : cs.size = L.length) : Lies (w.setCells g 0 L) g t L.toArray := by
 have h' : Lies w g t (([] : List Value) ++ (cs.toList ++ [])).toArray := by simpa using h
 have := lies_cells L [] cs.toList [] w (by simpa using hn.symm) h'
 simpa using this
def M64' : Nat := 18446744073709551616
def ct (ls : List Nat) (k b : Nat) : Nat := (ls.take b).count k
theorem ct_zero (ls : List Nat) (k : Nat) : ct ls k 0 = 0 := by simp [ct]
theorem ct_step {ls : List Nat} {b n : Nat} (k : Nat) (h : ls[b]? = some n) : ct ls k (b + 1) = ct ls k b + if n = k then 1 else 0 := by
 unfold ct
 rw [List.take_add_one, h, List.count_append]
 simp only [Option.toList_some, List.count_singleton]
 by_cases e : n = k <;> simp [e]
theorem ct_all (ls : List Nat) (k b : Nat) (h : ls.length ≤ b) : ct ls k b = ls.count k := by unfold ct; rw [List.take_of_length_le h]
theorem ct_mono (ls : List Nat) (k : Nat) : ∀ d b, ct ls k b ≤ ct ls k (b + d)
 | 0, b => Nat.le_refl _
 | d + 1, b => by
  refine Nat.le_trans (ct_mono ls k d b) ?_
  rcases h : ls[b + d]? with _ | n
  ·unfold ct; rw [show b + (d + 1) = b + d + 1 by omega, List.take_add_one, h]; simp
  ·rw [show b + (d + 1) = b + d + 1 by omega, ct_step k h]; omega
theorem ct_le (ls : List Nat) (k : Nat) {b c : Nat} (h : b ≤ c) : ct ls k b ≤ ct ls k c := by
 have := ct_mono ls k (c - b) b
 rwa [show b + (c - b) = c by omega] at this
theorem ct_lt {ls : List Nat} {k i c : Nat} (h : ls[i]? = some k) (hc : i < c) : ct ls k i < ct ls k c := by
 have h1 := ct_step k h
 rw [if_pos rfl] at h1
 have := ct_le ls k (show i + 1 ≤ c by omega)
 omega
theorem ct_lt_all {ls : List Nat} {k i : Nat} (h : ls[i]? = some k) : ct ls k i < ls.count k := by
 have hi := (List.getElem?_eq_some_iff.1 h).1
 have := ct_lt h hi
 rwa [ct_all ls k _ (Nat.le_refl _)] at this
theorem ct_inj {ls : List Nat} {k i j : Nat} (h : ls[i]? = some k) (h' : ls[j]? = some k) (he : ct ls k i = ct ls k j) : i = j := by
 rcases Nat.lt_trichotomy i j with hl | hl | hl
 ·have := ct_lt h hl; omega
 ·exact hl
 ·have := ct_lt h' hl; omega
theorem ct_nth (ls : List Nat) (k : Nat) : ∀ c r, r < ct ls k c → ∃ i, i < c ∧ ls[i]? = some k ∧ ct ls k i = r
 | 0, r, h => by rw [ct_zero] at h; omega
 | c + 1, r, h => by
  rcases hg : ls[c]? with _ | n
  ·have e : ct ls k (c + 1) = ct ls k c := by unfold ct; rw [List.take_add_one, hg]; simp
   obtain ⟨i, h1, h2⟩ := ct_nth ls k c r (by omega)
   exact ⟨i, by omega, h2⟩
  ·rw [ct_step k hg] at h
   by_cases hr : r < ct ls k c
   ·obtain ⟨i, h1, h2⟩ := ct_nth ls k c r hr
    exact ⟨i, by omega, h2⟩
   ·by_cases hn : n = k
    ·rw [if_pos hn] at h
     exact ⟨c, by omega, by rw [hg, hn], by omega⟩
    ·rw [if_neg hn] at h; omega
def cod (ls : List Nat) (b : Nat) : Nat := b - ct ls 0 b
theorem cod_step {ls : List Nat} {b n : Nat} (h : ls[b]? = some n) (hc : ct ls 0 b ≤ b) : (b + 1) - ct ls 0 (b + 1) = (b - ct ls 0 b) + if n = 0 then 0 else 1 := by
 rw [ct_step 0 h]
 split <;> omega
theorem ct_le_b (ls : List Nat) (k b : Nat) : ct ls k b ≤ b := by
 unfold ct
 refine Nat.le_trans List.count_le_length ?_
 rw [List.length_take]; omega
def pre (ls : List Nat) : Nat → Nat
 | 0 => 0
 | k + 1 => pre ls k + if k = 0 then 0 else ls.count k
theorem pre_mono (ls : List Nat) : ∀ d k, pre ls k ≤ pre ls (k + d)
 | 0, k => Nat.le_refl _
 | d + 1, k => Nat.le_trans (pre_mono ls d k) (by rw [← Nat.add_assoc, pre]; omega)
theorem pre_le (ls : List Nat) {k j : Nat} (h : k ≤ j) : pre ls k ≤ pre ls j := by
 have := pre_mono ls (j - k) k
 rwa [show k + (j - k) = j by omega] at this
theorem sum_counts : ∀ (ls : List Nat) (m : Nat), (∀ x ∈ ls, x < m) → pre ls m + ls.count 0 = ls.length
 | [], m, _ => by
  have : ∀ m, pre [] m = 0 := fun m => by induction m with
   | zero => rfl
   | succ m ih => rw [pre, ih]; simp
  rw [this]; rfl
 | x :: ls, m, h => by
  have ih := sum_counts ls m (fun y hy => h y (List.mem_cons_of_mem _ hy))
  have hx := h x (by simp)
  have hp : ∀ m, pre (x :: ls) m = pre ls m + if 0 < x ∧ x < m then 1 else 0 := fun m => by
   induction m with
   | zero => simp [pre]
   | succ m ih2 =>
    rw [pre, pre, ih2]
    by_cases hm : m = 0
    ·subst hm; rw [if_pos rfl, if_pos rfl, if_neg (by omega), if_neg (by omega)]
    ·rw [if_neg hm, if_neg hm, List.count_cons]
     have e3 : (if (x == m) = true then 1 else 0) = if x = m then 1 else 0 := by simp
     rw [e3]
     split <;> split <;> split <;> omega
  rw [hp, List.count_cons, List.length_cons]
  have e3 : (if (x == 0) = true then 1 else 0) = if x = 0 then 1 else 0 := by simp
  rw [e3]
  split <;> split <;> omega
theorem pre_room {ls : List Nat} (hl : ls.length = 256) (h : ∀ x ∈ ls, x ≤ 56) {k i : Nat} (hk : 0 < k) (hi : ls[i]? = some k) : pre ls k + ct ls k i < cod ls 256 := by
 have h1 := sum_counts ls 57 (fun x hx => by have := h x hx; omega)
 have h2 := ct_lt_all hi
 have h3 : pre ls (k + 1) = pre ls k + ls.count k := by rw [pre, if_neg (by omega)]
 have h4 := h k (List.mem_of_getElem? hi)
 have h5 := pre_le ls (show k + 1 ≤ 57 by omega)
 unfold cod
 rw [ct_all ls 0 256 (by omega)]
 omega
def cnA (ls : List Nat) (b : Nat) : List Nat := (List.range 57).map fun k => if k = 0 then 0 else ct ls k b
def nxA (ls : List Nat) (b : Nat) : List Nat := (List.range 57).map fun k => if k = 0 then 0 else pre ls k + ct ls k b
def nxB (ls : List Nat) (m : Nat) : List Nat := (List.range 57).map fun k => if k ≤ m then pre ls k else 0
theorem mapR_get {n i : Nat} (f : Nat → Nat) (h : i < n) : ((List.range n).map f)[i]? = some (f i) := by simp [h]
theorem mapR_ext {n : Nat} {f g : Nat → Nat} (h : ∀ i, i < n → f i = g i) : (List.range n).map f = (List.range n).map g :=
 List.map_congr_left fun i hi => h i (List.mem_range.1 hi)
theorem mapR_set {n j x : Nat} (f g : Nat → Nat) (hj : j < n) (h1 : g j = x) (h2 : ∀ i, i < n → i ≠ j → f i = g i) : ((List.range n).map f).set j x = (List.range n).map g := by
 apply List.ext_getElem?
 intro i
 rw [List.getElem?_set]
 by_cases hi : i < n
 ·by_cases e : j = i
  ·subst e; simp [hi, h1]
  ·rw [if_neg e, mapR_get _ hi, mapR_get _ hi, h2 i hi (fun h => e h.symm)]
 ·rw [if_neg (by omega), List.getElem?_eq_none (by simp; omega), List.getElem?_eq_none (by simp; omega)]
theorem cnA_step {ls : List Nat} {b n : Nat} (h : ls[b]? = some n) (hn : 0 < n) (hn2 : n ≤ 56) : (cnA ls b).set n (ct ls n b + 1) = cnA ls (b + 1) := by
 unfold cnA
 refine mapR_set _ _ (by omega) ?_ (fun i hi he => ?_)
 ·rw [if_neg (by omega), ct_step n h, if_pos rfl]
 ·by_cases h0 : i = 0
  ·rw [if_pos h0, if_pos h0]
  ·rw [if_neg h0, if_neg h0, ct_step i h, if_neg (fun e => he e.symm)]; rfl
theorem cnA_same {ls : List Nat} {b : Nat} (h : ls[b]? = some 0) : cnA ls (b + 1) = cnA ls b := by
 unfold cnA
 refine mapR_ext fun i hi => ?_
 by_cases h0 : i = 0
 ·rw [if_pos h0, if_pos h0]
 ·rw [if_neg h0, if_neg h0, ct_step i h, if_neg (fun e => h0 e.symm)]; rfl
theorem nxA_step {ls : List Nat} {b n : Nat} (h : ls[b]? = some n) (hn : 0 < n) (hn2 : n ≤ 56) : (nxA ls b).set n (pre ls n + ct ls n b + 1) = nxA ls (b + 1) := by
 unfold nxA
 refine mapR_set _ _ (by omega) ?_ (fun i hi he => ?_)
 ·rw [if_neg (by omega), ct_step n h, if_pos rfl]; omega
 ·by_cases h0 : i = 0
  ·rw [if_pos h0, if_pos h0]
  ·rw [if_neg h0, if_neg h0, ct_step i h, if_neg (fun e => he e.symm)]; rfl
theorem nxA_same {ls : List Nat} {b : Nat} (h : ls[b]? = some 0) : nxA ls (b + 1) = nxA ls b := by
 unfold nxA
 refine mapR_ext fun i hi => ?_
 by_cases h0 : i = 0
 ·rw [if_pos h0, if_pos h0]
 ·rw [if_neg h0, if_neg h0, ct_step i h, if_neg (fun e => h0 e.symm)]; rfl
theorem nxB_step (ls : List Nat) (m : Nat) (hm : m + 1 < 57) : (nxB ls m).set (m + 1) (pre ls (m + 1)) = nxB ls (m + 1) := by
 unfold nxB
 refine mapR_set _ _ hm ?_ (fun i hi he => ?_)
 ·rw [if_pos (Nat.le_refl _)]
 ·by_cases h0 : i ≤ m
  ·rw [if_pos h0, if_pos (by omega)]
  ·rw [if_neg h0, if_neg (by omega)]
theorem nxB_end (ls : List Nat) : nxB ls 56 = nxA ls 0 := by
 unfold nxB nxA
 refine mapR_ext fun i hi => ?_
 rw [if_pos (by omega), ct_zero]
 by_cases h0 : i = 0
 ·rw [if_pos h0, h0]; rfl
 ·rw [if_neg h0]; rfl
def BkOk (ls bs : List Nat) (b : Nat) : Prop := bs.length = cod ls 256 ∧ ∀ i k, i < b → ls[i]? = some k → 0 < k → bs[pre ls k + ct ls k i]? = some i
theorem pre_apart {ls : List Nat} {i j k m : Nat} (hi : ls[i]? = some k) (hj : ls[j]? = some m) (hk : 0 < k) (hm : 0 < m) (he : pre ls k + ct ls k i = pre ls m + ct ls m j) : i = j := by
 have h1 := ct_lt_all hi
 have h2 := ct_lt_all hj
 rcases Nat.lt_trichotomy k m with hl | hl | hl
 ·have := pre_le ls (show k + 1 ≤ m by omega)
  rw [pre, if_neg (by omega)] at this; omega
 ·subst hl
  exact ct_inj hi hj (by omega)
 ·have := pre_le ls (show m + 1 ≤ k by omega)
  rw [pre, if_neg (by omega)] at this; omega
theorem bkOk_step {ls bs : List Nat} {b n : Nat} (h : BkOk ls bs b) (hb : ls[b]? = some n) (hn : 0 < n) (hr : pre ls n + ct ls n b < cod ls 256) : BkOk ls (bs.set (pre ls n + ct ls n b) b) (b + 1) := by
 refine ⟨by rw [List.length_set]; exact h.1, fun i k hi hk h0 => ?_⟩
 rw [List.getElem?_set]
 by_cases hib : i = b
 ·subst hib
  rw [hb] at hk
  have := Option.some.inj hk
  subst this
  rw [if_pos rfl, if_pos (by rw [h.1]; exact hr)]
 ·rw [if_neg (fun e => hib (pre_apart hk hb h0 hn e.symm))]
  exact h.2 i k (by omega) hk h0
theorem bkOk_same {ls bs : List Nat} {b : Nat} (h : BkOk ls bs b) (hb : ls[b]? = some 0) : BkOk ls bs (b + 1) :=
 ⟨h.1, fun i k hi hk h0 => by
  by_cases hib : i = b
  ·subst hib; rw [hb] at hk; have := Option.some.inj hk; omega
  ·exact h.2 i k (by omega) hk h0⟩
def fcM (ls : List Nat) : Nat → Nat
 | 0 => 0
 | k + 1 => (2 * ((fcM ls k + if k = 0 then 0 else ls.count k) % M64')) % M64'
theorem fcM_lt (ls : List Nat) (k : Nat) : fcM ls k < M64' := by
 cases k with
 | zero => show 0 < M64'; decide
 | succ k => exact Nat.mod_lt _ (by decide)
def cdV (ls : List Nat) (i : Nat) : Nat := (fcM ls (ls.getD i 0) + ct ls (ls.getD i 0) i) % M64'
def codL (ls : List Nat) : List Nat := (List.range 256).map fun i => if 0 < ls.getD i 0 then cdV ls i else 0
def cdP (ls : List Nat) (k r : Nat) : List Nat := (List.range 256).map fun i => if 0 < ls.getD i 0 ∧ (ls.getD i 0 < k ∨ (ls.getD i 0 = k ∧ ct ls k i < r)) then cdV ls i else 0
theorem getD_of {ls : List Nat} {i k : Nat} (h : ls[i]? = some k) : ls.getD i 0 = k := by rw [List.getD_eq_getElem?_getD, h]; rfl
theorem get_of {ls : List Nat} {i : Nat} (h : i < ls.length) : ls[i]? = some (ls.getD i 0) := by rw [List.getD_eq_getElem?_getD, List.getElem?_eq_getElem h]; rfl
theorem cdP_step {ls : List Nat} {k r i : Nat} (hl : ls.length = 256) (hk : 0 < k) (hi : ls[i]? = some k) (hr : ct ls k i = r) : (cdP ls k r).set i ((fcM ls k + r) % M64') = cdP ls k (r + 1) := by
 have hi2 : i < 256 := by have := (List.getElem?_eq_some_iff.1 hi).1; omega
 have hg := getD_of hi
 unfold cdP
 refine mapR_set _ _ hi2 ?_ (fun j hj he => ?_)
 ·rw [if_pos ⟨by omega, .inr ⟨hg, by omega⟩⟩]; unfold cdV; rw [hg, hr]
 ·by_cases hc : 0 < ls.getD j 0 ∧ (ls.getD j 0 < k ∨ (ls.getD j 0 = k ∧ ct ls k j < r))
  ·rw [if_pos hc, if_pos ⟨hc.1, hc.2.imp id (fun h => ⟨h.1, by omega⟩)⟩]
  ·rw [if_neg hc, if_neg (fun h => hc ⟨h.1, h.2.imp id (fun h => ⟨h.1, by
    rcases Nat.lt_or_ge (ct ls k j) r with h3 | h3
    ·exact h3
    ·exfalso
     have hj2 := get_of (ls := ls) (i := j) (by omega)
     rw [h.1] at hj2
     exact he (ct_inj hj2 hi (by omega))⟩)⟩)]
theorem cdP_next (ls : List Nat) (k : Nat) (hl : ls.length = 256) : cdP ls k (if k = 0 then 0 else ls.count k) = cdP ls (k + 1) 0 := by
 unfold cdP
 refine mapR_ext fun i hi => ?_
 have hg := get_of (ls := ls) (i := i) (by omega)
 by_cases h0 : 0 < ls.getD i 0
 ·by_cases h1 : ls.getD i 0 < k
  ·rw [if_pos ⟨h0, .inl h1⟩, if_pos ⟨h0, .inl (by omega)⟩]
  ·by_cases h2 : ls.getD i 0 = k
   ·rw [h2] at hg
    have := ct_lt_all hg
    rw [if_pos ⟨h0, .inr ⟨h2, by rw [if_neg (by omega)]; exact this⟩⟩, if_pos ⟨h0, .inl (by omega)⟩]
   ·rw [if_neg (by omega), if_neg (by omega)]
 ·rw [if_neg (by omega), if_neg (by omega)]
theorem cdP_start (ls : List Nat) : cdP ls 0 0 = List.replicate 256 0 := by
 have : cdP ls 0 0 = (List.range 256).map fun _ => 0 := mapR_ext fun i _ => by rw [if_neg (by omega)]
 rw [this, List.map_const', List.length_range]
theorem cdP_end {ls : List Nat} (h : ∀ x ∈ ls, x ≤ 56) (hl : ls.length = 256) : cdP ls 57 0 = codL ls := by
 unfold cdP codL
 refine mapR_ext fun i hi => ?_
 have hg := get_of (ls := ls) (i := i) (by omega)
 have := h _ (List.mem_of_getElem? hg)
 by_cases h0 : 0 < ls.getD i 0
 ·rw [if_pos ⟨h0, .inl (by omega)⟩, if_pos h0]
 ·rw [if_neg (by omega), if_neg h0]
def shF (acc n : Nat) : Nat := if n = 0 then acc else acc + 2 ^ (56 - n)
def shr (ls : List Nat) (b : Nat) : Nat := (ls.take b).foldl shF 0
theorem shr_step {ls : List Nat} {b n : Nat} (h : ls[b]? = some n) : shr ls (b + 1) = shF (shr ls b) n := by
 unfold shr; rw [List.take_add_one, h, List.foldl_append]; rfl
theorem shr_le (ls : List Nat) : ∀ b, shr ls b ≤ b * 2 ^ 55
 | 0 => by simp [shr]
 | b + 1 => by
  have ih := shr_le ls b
  rcases h : ls[b]? with _ | n
  ·have : shr ls (b + 1) = shr ls b := by unfold shr; rw [List.take_add_one, h]; simp
   generalize 2 ^ 55 = C at *
   rw [Nat.add_mul, Nat.one_mul]; omega
  ·rw [shr_step h]
   unfold shF
   split
   ·generalize 2 ^ 55 = C at *
    rw [Nat.add_mul, Nat.one_mul]; omega
   ·have : 2 ^ (56 - n) ≤ 2 ^ 55 := Nat.pow_le_pow_right (by decide) (by omega)
    omega
def wholeB (ls : List Nat) : Bool := decide (cod ls 256 = 0 ∨ (cod ls 256 = 1 ∧ ct ls 1 256 = 1) ∨ shr ls 256 = 72057594037927936)
def LOk (ls : List Nat) : Prop := ls.length = 256 ∧ ∀ n ∈ ls, n ≤ 56
theorem c8_get' {l : List Nat} {i n : Nat} (h : l[i]? = some n) : (c8 l).toArray[i]? = some (.int .u8 (n : Int)) := by simp [c8, h]
theorem LOk.get {ls : List Nat} (h : LOk ls) {i : Nat} (hi : i < 256) : ∃ n, ls[i]? = some n ∧ n ≤ 56 :=
 ⟨ls[i]'(by rw [h.1]; exact hi), List.getElem?_eq_getElem _, h.2 _ (List.getElem_mem _)⟩
theorem ix8 (ls : List Nat) (k : IntKind) (i n : Nat) (hi : i < 256) (hn : ls[i]? = some n) (w : World) : (Instr.index 27 (.agg (c8 ls).toArray) (.int k (i : Int))).run Try.prog w = .ok (.int .u8 (n : Int)) w :=
 run_index_arr 27 5 256 (c8 ls).toArray k i _ under8 isAgg8 sizeOf8 hi (c8_get' hn) w
set_option maxHeartbeats 1000000 in
set_option maxRecDepth 100000 in
theorem huffComplete (ls : List Nat) (w : World) (h : LOk ls) :
  Calls Try.prog 26 #[.agg (c8 ls).toArray] w fun e w' => e = .returned (.bool (wholeB ls)) ∧ Below w.heap.size w w' := by
 have hg := ix8 ls .i64
 have hlen : (c8 ls).length = 256 := by rw [c8_length]; exact h.1
 obtain ⟨L, hL⟩ : ∃ L, L = c8 ls := ⟨_, rfl⟩
 rw [← hL] at hg hlen ⊢
 have hi1 : (Try.prog.info? 27).map (·.size) = some L.length := by rw [hlen]; exact info8
 have HG := Lib.hid hg
 have H := Lib.hid h
 have HI1 := Lib.hid hi1
 clear hg h hL hi1
 have hb := Lib.hid ((Below.refl w.heap.size w).alloc (Nat.le_refl _) (.cells L.toArray 27))
 have HR0 := Lib.hid (arr_range (Lies.made w 27 L.toArray))
 go_enter Try.func26, Try.ntmps26
 go_wp2_with (refine wpList_load_mid rfl 27 _ rfl w.heap.size 0 rfl L _ HR0.out under8 rfl HI1.out ?_)
 clear HR0
 generalize w.alloc (.cells L.toArray 27) = w1 at *
 go_loopw [3, 4, 5, 9] (fun co on sh c wr => ∃ i : Nat, i ≤ 256 ∧ c = .int .i64 i ∧ co = .int .i64 (cod ls i : Nat) ∧ on = .int .i64 (ct ls 1 i : Nat) ∧ sh = .int .u64 (shr ls i : Nat) ∧ wr = w1)
  (fun _ _ _ c _ => 256 - (intOf c).toNat)
 case atStart => exact ⟨0, by omega, rfl, rfl, rfl, rfl, rfl⟩
 case round =>
  obtain ⟨i, hi, rfl, rfl, rfl, rfl, rfl⟩ := hrel
  have hc0 := ct_le_b ls 0 i
  have hc1 := ct_le_b ls 1 i
  have hsl := shr_le ls i
  by_cases hlt : i < 256
  ·have hii : (i : Int) < 256 := by omega
   obtain ⟨n, hn, hn56⟩ := H.out.get hlt
   have hix := HG.out i n hlt hn
   have hcs := cod_step hn hc0
   have h1s := ct_step 1 hn
   have hss := shr_step hn
   have HC : Hid (cod ls (i + 1) = cod ls i + if n = 0 then 0 else 1) := hcs
   have H1 := Lib.hid h1s
   have HS := Lib.hid hss
   have hcl : cod ls i ≤ 256 := by unfold cod; omega
   have hshl : shr ls i < 9223372036854775808 := by
    refine Nat.lt_of_le_of_lt hsl ?_
    calc i * 2 ^ 55 < 256 * 2 ^ 55 := by exact Nat.mul_lt_mul_of_pos_right hlt (by decide)
     _ = 9223372036854775808 := by decide
   clear hcs h1s hss hn hsl hc0
   generalize cod ls i = co at *
   generalize ct ls 1 i = on at *
   generalize shr ls i = sh at *
   by_cases h0 : n = 0
   ·have e1 : ((n : Int) == 0) = true := by simp; omega
    have e2 : (n == 0) = true := by simpa using h0
    have HC2 : Hid (cod ls (i + 1) = co) := by show _ = _; rw [HC.out, if_pos h0]; rfl
    have H12 : Hid (ct ls 1 (i + 1) = on) := by show _ = _; rw [H1.out, if_neg (by omega)]; rfl
    have HS2 : Hid (shr ls (i + 1) = sh) := by show _ = _; rw [HS.out]; unfold shF; rw [if_pos h0]
    clear h0 HC H1 HS
    go_wp2_with fail
    go_roundw
    case rel => exact ⟨i + 1, by omega, by go_num, by rw [HC2.out], by rw [H12.out], by rw [HS2.out], trivial⟩
    case measure => simp [intOf]; omega
   ·have e1 : ((n : Int) == 0) = false := by simp; omega
    have e2 : (n == 0) = false := by simpa using h0
    have HC2 : Hid (cod ls (i + 1) = co + 1) := by show _ = _; rw [HC.out, if_neg h0]
    have hp55 : 2 ^ (56 - n) ≤ 36028797018963968 := by
     have : 2 ^ (56 - n) ≤ 2 ^ 55 := Nat.pow_le_pow_right (by decide) (by omega)
     exact this
    obtain ⟨pw, hpw⟩ : ∃ pw, pw = 2 ^ (56 - n) := ⟨_, rfl⟩
    have HS2 : Hid (shr ls (i + 1) = sh + pw) := by show _ = _; rw [HS.out]; unfold shF; rw [if_neg h0, hpw]
    have ew : IntKind.u8.wrap (56 - (n : Int)) = ((56 - n : Nat) : Int) := by rw [IntKind.wrap_u8]; omega
    have es : (2 : Int) ^ (56 - n) = (pw : Int) := by rw [hpw]; exact (Int.natCast_pow 2 _).symm
    rw [← hpw] at hp55
    have HPW := Lib.hid hpw
    clear hpw
    by_cases hn1 : n = 1
    ·have e3 : ((n : Int) == 1) = true := by simp; omega
     have e4 : (n == 1) = true := by simpa using hn1
     have H12 : Hid (ct ls 1 (i + 1) = on + 1) := by show _ = _; rw [H1.out, if_pos hn1]
     clear h0 HC H1 HS hn1
     go_wp2_with fail
     go_roundw
     case rel => exact ⟨i + 1, by omega, by go_num, by rw [HC2.out]; go_num, by rw [H12.out]; go_num, by rw [HS2.out]; go_num, trivial⟩
     case measure => simp [intOf]; omega
    ·have e3 : ((n : Int) == 1) = false := by simp; omega
     have e4 : (n == 1) = false := by simpa using hn1
     have H12 : Hid (ct ls 1 (i + 1) = on) := by show _ = _; rw [H1.out, if_neg hn1]; rfl
     clear h0 HC H1 HS hn1
     go_wp2_with fail
     go_roundw
     case rel => exact ⟨i + 1, by omega, by go_num, by rw [HC2.out]; go_num, by rw [H12.out], by rw [HS2.out]; go_num, trivial⟩
     case measure => simp [intOf]; omega
  ·obtain rfl : i = 256 := by omega
   have hcl : cod ls 256 ≤ 256 := by unfold cod; omega
   have HW : Hid (wholeB ls = decide (cod ls 256 = 0 ∨ (cod ls 256 = 1 ∧ ct ls 1 256 = 1) ∨ shr ls 256 = 72057594037927936)) := rfl
   generalize cod ls 256 = co at *
   generalize ct ls 1 256 = on at *
   generalize shr ls 256 = sh at *
   clear hsl hc0
   by_cases hc : co = 0
   ·have HX : Hid (wholeB ls = true) := by show _ = _; rw [HW.out, decide_eq_true (.inl hc)]
    have e1 : ((co : Int) == 0) = true := by simp; omega
    have e2 : (co == 0) = true := by simpa using hc
    clear hc HW
    go_wp2
    go_ret
    exact ⟨ret_bool HX.out.symm, hb.out⟩
   ·have e1 : ((co : Int) == 0) = false := by simp; omega
    have e2 : (co == 0) = false := by simpa using hc
    by_cases hs : sh = 72057594037927936
    ·have HX : Hid (wholeB ls = true) := by show _ = _; rw [HW.out, decide_eq_true (.inr (.inr hs))]
     have e5 : ((sh : Int) == 72057594037927936) = true := by simp; omega
     have e6 : (sh == 72057594037927936) = true := by simpa using hs
     clear hs HW
     by_cases hc1' : co = 1
     ·have e3 : ((co : Int) == 1) = true := by simp; omega
      have e4 : (co == 1) = true := by simpa using hc1'
      by_cases ho : on = 1
      ·have e7 : ((on : Int) == 1) = true := by simp; omega
       have e8 : (on == 1) = true := by simpa using ho
       clear hc hc1' ho
       go_wp2
       go_ret
       exact ⟨ret_bool HX.out.symm, hb.out⟩
      ·have e7 : ((on : Int) == 1) = false := by simp; omega
       have e8 : (on == 1) = false := by simpa using ho
       clear hc hc1' ho
       go_wp2
       go_ret
       exact ⟨ret_bool HX.out.symm, hb.out⟩
     ·have e3 : ((co : Int) == 1) = false := by simp; omega
      have e4 : (co == 1) = false := by simpa using hc1'
      clear hc hc1'
      go_wp2
      go_ret
      exact ⟨ret_bool HX.out.symm, hb.out⟩
    ·have e5 : ((sh : Int) == 72057594037927936) = false := by simp; omega
     have e6 : (sh == 72057594037927936) = false := by simpa using hs
     by_cases hc1' : co = 1
     ·have e3 : ((co : Int) == 1) = true := by simp; omega
      have e4 : (co == 1) = true := by simpa using hc1'
      by_cases ho : on = 1
      ·have HX : Hid (wholeB ls = true) := by show _ = _; rw [HW.out, decide_eq_true (.inr (.inl ⟨hc1', ho⟩))]
       have e7 : ((on : Int) == 1) = true := by simp; omega
       have e8 : (on == 1) = true := by simpa using ho
       clear hc hc1' ho HW hs
       go_wp2
       go_ret
       exact ⟨ret_bool HX.out.symm, hb.out⟩
      ·have HX : Hid (wholeB ls = false) := by show _ = _; rw [HW.out, decide_eq_false (fun h => by omega)]
       have e7 : ((on : Int) == 1) = false := by simp; omega
       have e8 : (on == 1) = false := by simpa using ho
       clear hc hc1' ho HW hs
       go_wp2
       go_ret
       exact ⟨ret_bool HX.out.symm, hb.out⟩
     ·have HX : Hid (wholeB ls = false) := by show _ = _; rw [HW.out, decide_eq_false (fun h => by omega)]
      have e3 : ((co : Int) == 1) = false := by simp; omega
      have e4 : (co == 1) = false := by simpa using hc1'
      clear hc hc1' HW hs
      go_wp2
      go_ret
      exact ⟨ret_bool HX.out.symm, hb.out⟩
abbrev N2 := Nat × Nat
def kf (p : N2) : Nat := p.1 * 1024 + p.2
def gd (l : List N2) (i : Nat) : N2 := l.getD i (0, 0)
def K2 (l : List N2) (i : Nat) : Nat := kf (gd l i)
def swp (l : List N2) (i j : Nat) : List N2 := (l.set i (gd l j)).set j (gd l i)
def sonL (l : List N2) (n i : Nat) : Nat := if 2 * i + 2 < n ∧ K2 l (2 * i + 2) < K2 l (2 * i + 1) then 2 * i + 2 else 2 * i + 1
theorem sonL_gt (l : List N2) (n i : Nat) : i < sonL l n i := by unfold sonL; split <;> omega
theorem sonL_lt {l : List N2} {n i : Nat} (h : 2 * i + 1 < n) : sonL l n i < n := by unfold sonL; split <;> omega
theorem sonL_up (l : List N2) (n i : Nat) : (sonL l n i - 1) / 2 = i := by unfold sonL; split <;> omega
theorem sonL_le {l : List N2} {n i k : Nat} (hk : k < n) (h1 : 1 ≤ k) (hp : (k - 1) / 2 = i) : K2 l (sonL l n i) ≤ K2 l k := by
 have : k = 2 * i + 1 ∨ k = 2 * i + 2 := by omega
 unfold sonL
 rcases this with rfl | rfl
 ·split <;> omega
 ·split <;> omega
def downL (n i : Nat) (l : List N2) : List N2 :=
 if h : 2 * i + 1 < n then
  if K2 l (sonL l n i) < K2 l i then downL n (sonL l n i) (swp l i (sonL l n i)) else l
 else l
termination_by n - i
decreasing_by have := sonL_gt l n i; have := sonL_lt (l := l) h; omega
def upL (j : Nat) (l : List N2) : List N2 :=
 if h : 0 < j then
  if K2 l j < K2 l ((j - 1) / 2) then upL ((j - 1) / 2) (swp l ((j - 1) / 2) j) else l
 else l
termination_by j
decreasing_by omega
theorem swp_length (l : List N2) (i j : Nat) : (swp l i j).length = l.length := by simp [swp]
theorem gd_set (l : List N2) (i k : Nat) (x : N2) (hi : i < l.length) : gd (l.set i x) k = if i = k then x else gd l k := by
 unfold gd
 rw [List.getD_eq_getElem?_getD, List.getD_eq_getElem?_getD, List.getElem?_set]
 by_cases h : i = k
 ·subst h; simp [hi]
 ·simp [h]
theorem gd_swp {l : List N2} {i j : Nat} (hi : i < l.length) (hj : j < l.length) (k : Nat) : gd (swp l i j) k = if k = j then gd l i else if k = i then gd l j else gd l k := by
 unfold swp
 rw [gd_set _ _ _ _ (by simpa using hj), gd_set _ _ _ _ hi]
 by_cases h : k = j
 ·rw [if_pos h.symm, if_pos h]
 ·rw [if_neg (fun e => h e.symm), if_neg h]
  by_cases h2 : k = i
  ·rw [if_pos h2.symm, if_pos h2]
  ·rw [if_neg (fun e => h2 e.symm), if_neg h2]
theorem K2_swp {l : List N2} {i j : Nat} (hi : i < l.length) (hj : j < l.length) (k : Nat) : K2 (swp l i j) k = if k = j then K2 l i else if k = i then K2 l j else K2 l k := by
 unfold K2; rw [gd_swp hi hj]; by_cases h : k = j
 ·rw [if_pos h, if_pos h]
 ·rw [if_neg h, if_neg h]; by_cases h2 : k = i
  ·rw [if_pos h2, if_pos h2]
  ·rw [if_neg h2, if_neg h2]
theorem gd_get {l : List N2} {i : Nat} (h : i < l.length) : l[i]? = some (gd l i) := by
 unfold gd; rw [List.getD_eq_getElem?_getD, List.getElem?_eq_getElem h]; rfl
theorem gd_mem {l : List N2} {i : Nat} (h : i < l.length) : gd l i ∈ l := List.mem_of_getElem? (gd_get h)
theorem list_gd_ext {l m : List N2} (hl : l.length = m.length) (h : ∀ k, k < l.length → gd l k = gd m k) : l = m := by
 apply List.ext_getElem?
 intro k
 by_cases hk : k < l.length
 ·rw [gd_get hk, gd_get (by omega), h k hk]
 ·rw [List.getElem?_eq_none (by omega), List.getElem?_eq_none (by omega)]
theorem swp_perm_cons (x : N2) : ∀ (l : List N2) (j : Nat), j < l.length → (gd l j :: l.set j x).Perm (x :: l)
 | a :: l, 0, _ => by simpa [gd] using List.Perm.swap x a l
 | a :: l, j + 1, h => by
  have := swp_perm_cons x l j (by simpa using h)
  have e : gd (a :: l) (j + 1) = gd l j := by simp [gd]
  rw [e, List.set_cons_succ]
  exact ((List.Perm.swap a (gd l j) _).trans (this.cons a)).trans (List.Perm.swap x a l)
theorem swp_perm {l : List N2} {i j : Nat} (hi : i < l.length) (hj : j < l.length) : (swp l i j).Perm l := by
 by_cases hij : i = j
 ·subst hij
  have : swp l i i = l := list_gd_ext (swp_length _ _ _) (fun k _ => by
   rw [gd_swp hi hi]
   by_cases h : k = i
   ·rw [if_pos h, h]
   ·rw [if_neg h, if_neg h])
  rw [this]
 ·-- set i (l j), then set j (l i)
  have h1 := swp_perm_cons (gd l j) l i hi
  have h2 := swp_perm_cons (gd l i) (l.set i (gd l j)) j (by simpa using hj)
  have e : gd (l.set i (gd l j)) j = gd l j := by rw [gd_set _ _ _ _ hi, if_neg hij]
  rw [e] at h2
  exact List.Perm.cons_inv (a := gd l j) (h2.trans h1)
theorem downL_length (n i : Nat) (l : List N2) : (downL n i l).length = l.length := by
 fun_induction downL n i l with
 | case1 i l h h1 ih => rw [ih, swp_length]
 | case2 => rfl
 | case3 => rfl
theorem downL_perm (n i : Nat) (l : List N2) (hn : n ≤ l.length) : (downL n i l).Perm l := by
 fun_induction downL n i l with
 | case1 i l h h1 ih =>
  have := sonL_lt (l := l) h
  exact (ih (by rw [swp_length]; exact hn)).trans (swp_perm (by omega) (by omega))
 | case2 => exact List.Perm.refl _
 | case3 => exact List.Perm.refl _
theorem downL_far (n i : Nat) (l : List N2) (hn : n ≤ l.length) (k : Nat) (hk : n ≤ k) : gd (downL n i l) k = gd l k := by
 fun_induction downL n i l with
 | case1 i l h h1 ih =>
  have := sonL_lt (l := l) h
  rw [ih (by rw [swp_length]; exact hn), gd_swp (by omega) (by omega), if_neg (by omega), if_neg (by omega)]
 | case2 => rfl
 | case3 => rfl
def HeapF (l : List N2) (n i0 : Nat) : Prop := ∀ k, 1 ≤ k → k < n → i0 ≤ (k - 1) / 2 → K2 l ((k - 1) / 2) ≤ K2 l k
def HeapX (l : List N2) (n i0 i : Nat) : Prop := (∀ k, 1 ≤ k → k < n → i0 ≤ (k - 1) / 2 → (k - 1) / 2 ≠ i → K2 l ((k - 1) / 2) ≤ K2 l k) ∧
 (∀ k, 1 ≤ k → k < n → (k - 1) / 2 = i → 1 ≤ i → i0 ≤ (i - 1) / 2 → K2 l ((i - 1) / 2) ≤ K2 l k)
theorem downL_heap (n i i0 : Nat) (l : List N2) (hn : n ≤ l.length) (hi : i0 ≤ i) (h : HeapX l n i0 i) : HeapF (downL n i l) n i0 := by
 fun_induction downL n i l with
 | case1 i l hc h1 ih =>
  have hs := sonL_lt (l := l) hc
  have hg := sonL_gt l n i
  have hu := sonL_up l n i
  have hle : ∀ k, k < n → 1 ≤ k → (k - 1) / 2 = i → K2 l (sonL l n i) ≤ K2 l k := fun k a b c => sonL_le a b c
  generalize sonL l n i = j at *
  obtain ⟨ha, hb⟩ := h
  refine ih (by rw [swp_length]; exact hn) (by omega) ⟨fun k h1k hkn hik hne => ?_, fun k h1k hkn hkj h1j hij => ?_⟩
  ·rw [K2_swp (by omega) (by omega), K2_swp (by omega) (by omega)]
   by_cases hpi : (k - 1) / 2 = i
   ·rw [hpi, if_neg (by omega), if_pos rfl]
    by_cases hkj : k = j
    ·rw [if_pos hkj]; omega
    ·rw [if_neg hkj, if_neg (by omega)]; exact hle k hkn h1k hpi
   ·rw [if_neg hne, if_neg hpi]
    by_cases hki : k = i
    ·have := hb j (by omega) hs hu (by omega) (by omega)
     rw [if_neg (by omega), if_pos hki, hki]; exact this
    ·rw [if_neg (by omega), if_neg hki]; exact ha k h1k hkn hik hpi
  ·rw [K2_swp (by omega) (by omega), K2_swp (by omega) (by omega), hu, if_neg (by omega), if_pos rfl, if_neg (by omega), if_neg (by omega)]
   have := ha k h1k hkn (by omega) (by omega)
   rwa [hkj] at this
 | case2 i l hc h1 =>
  intro k h1k hkn hik
  by_cases hpi : (k - 1) / 2 = i
  ·have := sonL_le (l := l) hkn h1k hpi; rw [hpi]; omega
  ·exact h.1 k h1k hkn hik hpi
 | case3 i l hc =>
  intro k h1k hkn hik
  exact h.1 k h1k hkn hik (by omega)
theorem heapF_one (l : List N2) (n i0 : Nat) (h : n ≤ 2 * i0 + 1) : HeapF l n i0 := fun k _ _ _ => by omega
theorem heapX_of {l : List N2} {n i : Nat} (h : HeapF l n (i + 1)) : HeapX l n i i :=
 ⟨fun k a b c d => h k a b (by omega), fun k a b c d e => by omega⟩
def HeapU (l : List N2) (n j : Nat) : Prop := (∀ k, 1 ≤ k → k < n → k ≠ j → K2 l ((k - 1) / 2) ≤ K2 l k) ∧
 (∀ k, 1 ≤ k → k < n → (k - 1) / 2 = j → 1 ≤ j → K2 l ((j - 1) / 2) ≤ K2 l k)
theorem upL_length (j : Nat) (l : List N2) : (upL j l).length = l.length := by
 fun_induction upL j l with
 | case1 j l h h1 ih => rw [ih, swp_length]
 | case2 => rfl
 | case3 => rfl
theorem upL_perm (j : Nat) (l : List N2) (hn : j < l.length) : (upL j l).Perm l := by
 fun_induction upL j l with
 | case1 j l h h1 ih => exact (ih (by rw [swp_length]; omega)).trans (swp_perm (by omega) (by omega))
 | case2 => exact List.Perm.refl _
 | case3 => exact List.Perm.refl _
theorem upL_heap (j : Nat) (l : List N2) (hn : j < l.length) (h : HeapU l l.length j) : HeapF (upL j l) l.length 0 := by
 fun_induction upL j l with
 | case1 j l hc h1 ih =>
  obtain ⟨ha, hb⟩ := h
  have hl := swp_length l ((j - 1) / 2) j
  rw [hl] at ih
  refine ih (by omega) ⟨fun k h1k hkn hne => ?_, fun k h1k hkn hkj h1j => ?_⟩
  ·rw [K2_swp (by omega) (by omega), K2_swp (by omega) (by omega)]
   by_cases hpj : (k - 1) / 2 = j
   ·have := hb k h1k hkn hpj (by omega)
    rw [if_pos hpj, if_neg (by omega), if_neg hne]; exact this
   ·rw [if_neg hpj]
    by_cases hkj : k = j
    ·rw [if_pos hkj, hkj, if_pos rfl]; omega
    ·rw [if_neg hkj, if_neg hne]
     by_cases hpp : (k - 1) / 2 = (j - 1) / 2
     ·have := ha k h1k hkn hkj
      rw [if_pos hpp]; rw [hpp] at this; omega
     ·rw [if_neg hpp]; exact ha k h1k hkn hkj
  ·rw [K2_swp (by omega) (by omega), K2_swp (by omega) (by omega)]
   have hp := ha ((j - 1) / 2) h1j (by omega) (by omega)
   rw [if_neg (by omega), if_neg (by omega)]
   by_cases hkj' : k = j
   ·rw [if_pos hkj']; exact hp
   ·have := ha k h1k hkn hkj'
    rw [if_neg hkj', if_neg (by omega)]
    rw [hkj] at this; omega
 | case2 j l hc h1 =>
  intro k h1k hkn _
  by_cases hk : k = j
  ·rw [hk]; omega
  ·exact h.1 k h1k hkn hk
 | case3 j l hc =>
  intro k h1k hkn _
  exact h.1 k h1k hkn (by omega)
theorem heap_min {l : List N2} {n : Nat} (h : HeapF l n 0) : ∀ k, k < n → K2 l 0 ≤ K2 l k := by
 intro k
 induction k using Nat.strongRecOn with
 | _ k ih =>
  intro hk
  rcases Nat.eq_zero_or_pos k with rfl | h0
  ·exact Nat.le_refl _
  ·exact Nat.le_trans (ih ((k - 1) / 2) (by omega) (by omega)) (h k (by omega) hk (Nat.zero_le _))
theorem gd_append_left {l m : List N2} {k : Nat} (h : k < l.length) : gd (l ++ m) k = gd l k := by
 unfold gd; rw [List.getD_eq_getElem?_getD, List.getD_eq_getElem?_getD, List.getElem?_append_left h]
theorem push_heapU {l : List N2} (x : N2) (h : HeapF l l.length 0) : HeapU (l ++ [x]) (l ++ [x]).length l.length := by
 rw [List.length_append, List.length_singleton]
 refine ⟨fun k a b c => ?_, fun k a b c d => by omega⟩
 have := h k a (by omega) (Nat.zero_le _)
 unfold K2 at *
 rw [gd_append_left (by omega), gd_append_left (by omega)]
 exact this
def pushL (l : List N2) (x : N2) : List N2 := upL l.length (l ++ [x])
theorem pushL_heap {l : List N2} (x : N2) (h : HeapF l l.length 0) : HeapF (pushL l x) (pushL l x).length 0 := by
 unfold pushL
 rw [upL_length]
 exact upL_heap _ _ (by simp) (push_heapU x h)
theorem pushL_perm (l : List N2) (x : N2) : (pushL l x).Perm (x :: l) :=
 (upL_perm _ _ (by simp)).trans (List.perm_append_comm.trans (List.Perm.refl _))
def popL (l : List N2) : List N2 := downL (l.length - 1) 0 (swp l 0 (l.length - 1))
theorem popL_length (l : List N2) : (popL l).length = l.length := by unfold popL; rw [downL_length, swp_length]
theorem popL_last {l : List N2} (h : 0 < l.length) : gd (popL l) (l.length - 1) = gd l 0 := by
 unfold popL
 rw [downL_far _ _ _ (by rw [swp_length]; omega) _ (Nat.le_refl _), gd_swp h (by omega), if_pos rfl]
theorem heapF_take {l : List N2} {n : Nat} (hn : n ≤ l.length) (h : HeapF l n 0) : HeapF (l.take n) n 0 := by
 intro k a b c
 have hk : ∀ i, i < n → K2 (l.take n) i = K2 l i := fun i hi => by
  unfold K2 gd
  rw [List.getD_eq_getElem?_getD, List.getD_eq_getElem?_getD, List.getElem?_take_of_lt hi]
 rw [hk _ (by omega), hk _ b]
 exact h k a b c
theorem popL_heap {l : List N2} (h : HeapF l l.length 0) : HeapF ((popL l).take (l.length - 1)) (l.length - 1) 0 := by
 refine heapF_take (by rw [popL_length]; omega) ?_
 unfold popL
 rcases Nat.eq_zero_or_pos l.length with h0 | h0
 ·intro k a b; omega
 refine downL_heap _ _ _ _ (by rw [swp_length]; omega) (Nat.le_refl _) ⟨fun k a b c d => ?_, fun k a b c d => by omega⟩
 rw [K2_swp (by omega) (by omega), K2_swp (by omega) (by omega), if_neg (by omega), if_neg (by omega), if_neg (by omega), if_neg (by omega)]
 exact h k a (by omega) c
theorem popL_perm {l : List N2} (h : 0 < l.length) : (gd l 0 :: (popL l).take (l.length - 1)).Perm l := by
 have hp : (popL l).Perm l := by
  unfold popL
  exact (downL_perm _ _ _ (by rw [swp_length]; omega)).trans (swp_perm (by omega) (by omega))
 have hs : popL l = (popL l).take (l.length - 1) ++ [gd l 0] := by
  have hd := List.take_append_drop (l.length - 1) (popL l)
  have hlen : (popL l).length = l.length := popL_length l
  have hdr : (popL l).drop (l.length - 1) = [gd l 0] := by
   rw [← popL_last h, List.drop_eq_getElem_cons (by omega), List.drop_of_length_le (by omega)]
   have := gd_get (l := popL l) (i := l.length - 1) (by omega)
   rw [List.getElem?_eq_getElem (by omega)] at this
   injection this with this
   rw [this]
  rw [hdr] at hd
  exact hd.symm
 rw [hs] at hp
 exact (List.perm_append_comm (l₁ := (popL l).take (l.length - 1)) (l₂ := [gd l 0])).symm.trans hp
def initL : Nat → List N2 → List N2
 | 0, l => l
 | m + 1, l => initL m (downL l.length m l)
theorem initL_length : ∀ m l, (initL m l).length = l.length
 | 0, _ => rfl
 | m + 1, l => by rw [initL, initL_length, downL_length]
theorem initL_perm : ∀ m l, (initL m l).Perm l
 | 0, _ => List.Perm.refl _
 | m + 1, l => (initL_perm m _).trans (downL_perm _ _ _ (Nat.le_refl _))
theorem initL_heap : ∀ m l, HeapF l l.length m → HeapF (initL m l) l.length 0
 | 0, _, h => h
 | m + 1, l, h => by
  rw [initL]
  have := initL_heap m (downL l.length m l) (by rw [downL_length]; exact downL_heap _ _ _ _ (Nat.le_refl _) (Nat.le_refl _) (heapX_of h))
  rwa [downL_length] at this
theorem init_heap (l : List N2) : HeapF (initL (l.length / 2) l) l.length 0 := initL_heap _ _ (heapF_one _ _ _ (by omega))
def nodeC (p : N2) : List Value := [.int .u64 (p.1 : Int), .int .i64 (p.2 : Int)]
theorem nodeC_len (p : N2) : (nodeC p).length = 2 := rfl
def cellsN (l : List N2) : List Value := rowsOf nodeC l
def NdOk (l : List N2) : Prop := ∀ p ∈ l, p.1 < 18446744073709551616 ∧ p.2 < 1024
theorem ndOk_gd {l : List N2} (h : NdOk l) {i : Nat} (hi : i < l.length) : (gd l i).1 < 18446744073709551616 ∧ (gd l i).2 < 1024 := h _ (gd_mem hi)
theorem node_at {w : World} {B g n cap : Nat} {l : List N2} (h : w.ownsRow B 85 2 (.slice (some ⟨g, 0, none⟩) n cap) n (cellsN l)) {i : Nat} (hi : i < l.length) :
  w.cell? ⟨g, i * 2, none⟩ = some (.int .u64 ((gd l i).1 : Int)) ∧ w.cell? ⟨g, i * 2 + 1, none⟩ = some (.int .i64 ((gd l i).2 : Int)) := by
 have hg := gd_get hi
 have h0 := rowsOf_get nodeC_len hg (j := 0) (by decide)
 have h1 := rowsOf_get nodeC_len hg (j := 1) (by decide)
 have hn : l.length = n := (SeqS.of_owns h).len_ nodeC_len (by decide)
 exact ⟨by have := h.cellAt (i * 2) (by omega); rw [this]; exact h0, by have := h.cellAt (i * 2 + 1) (by omega); rw [this]; exact h1⟩
set_option maxHeartbeats 1000000 in
theorem huffLess (B g n cap : Nat) (l : List N2) (i j : Nat) (w : World) (h : w.ownsRow B 85 2 (.slice (some ⟨g, 0, none⟩) n cap) n (cellsN l)) (hok : NdOk l) (hi : i < n) (hj : j < n) (hb : n ≤ 1024) :
  Calls Try.prog 86 #[.slice (some ⟨g, 0, none⟩) n cap, .int .i64 i, .int .i64 j] w fun e w' => e = .returned (.bool (decide (K2 l i < K2 l j))) ∧ ∃ m, w' = w.drewN m := by
 have hn : l.length = n := (SeqS.of_owns h).len_ nodeC_len (by decide)
 obtain ⟨c0, c1⟩ := node_at h (i := i) (by omega)
 obtain ⟨d0, d1⟩ := node_at h (i := j) (by omega)
 have b1 := ndOk_gd hok (i := i) (by omega)
 have b2 := ndOk_gd hok (i := j) (by omega)
 obtain ⟨X, hX⟩ : ∃ X, X = decide (K2 l i < K2 l j) := ⟨_, rfl⟩
 rw [← hX]
 have hX2 : X = decide (kf (gd l i) < kf (gd l j)) := hX
 clear hX h hok hn
 have hi2 : (i : Int) < (n : Int) := by omega
 have hj2 : (j : Int) < (n : Int) := by omega
 generalize gd l i = p at *
 generalize gd l j = q at *
 obtain ⟨a, b⟩ := p
 obtain ⟨c, d⟩ := q
 simp only [kf] at c0 c1 d0 d1 b1 b2 hX2
 by_cases hac : a = c
 ·subst hac
  have e1 : ((a : Int) != (a : Int)) = false := by simp
  have HX : Hid (X = decide (b < d)) := by show X = _; rw [hX2]; congr 1; exact propext (by omega)
  clear hX2
  go_enter Try.func86, Try.ntmps86
  go_wp2
  go_quiet (fail)
  go_wp2
  go_quiet (fail)
  go_wp2
  go_ret
  exact ⟨ret_bool (by rw [HX.out]), _, by first | rfl | exact World.drewN_drewN _ _ _⟩
 ·have e1 : ((a : Int) != (c : Int)) = true := by simp; omega
  have HX : Hid (X = decide (a < c)) := by show X = _; rw [hX2]; congr 1; exact propext (by omega)
  clear hX2 hac
  go_enter Try.func86, Try.ntmps86
  go_wp2
  go_quiet (fail)
  go_wp2
  go_quiet (fail)
  go_wp2
  go_ret
  exact ⟨ret_bool (by rw [HX.out]), _, by first | rfl | exact World.drewN_drewN _ _ _⟩
theorem node_set {l : List N2} {i : Nat} (hi : i < l.length) (a b : Nat) : ((cellsN l).set (i * 2) (.int .u64 (a : Int))).set (i * 2 + 1) (.int .i64 (b : Int)) = cellsN (l.set i (a, b)) := by
 unfold cellsN
 rw [show i * 2 = i * 2 + 0 from rfl, rowsOf_set1 nodeC_len (gd_get hi) (by decide) (y := (a, (gd l i).2)) rfl, show i * 2 + 0 + 1 = i * 2 + 1 from rfl,
  rowsOf_set1 nodeC_len (l := l.set i (a, (gd l i).2)) (i := i) (x := (a, (gd l i).2)) (by simp [hi]) (by decide) (y := (a, b)) rfl, List.set_set]
theorem node_set' {w : World} {B g n cap : Nat} {l : List N2} (h : w.ownsRow B 85 2 (.slice (some ⟨g, 0, none⟩) n cap) n (cellsN l)) {i : Nat} (hi : i < l.length) (p : N2) :
  ((w.setCell ⟨g, i * 2, none⟩ (.int .u64 (p.1 : Int))).setCell ⟨g, i * 2 + 1, none⟩ (.int .i64 (p.2 : Int))).ownsRow B 85 2 (.slice (some ⟨g, 0, none⟩) n cap) n (cellsN (l.set i p)) := by
 have hl : (cellsN l).length = l.length * 2 := rowsOf_length nodeC_len l
 have h1 := owned_set (u := .int .u64 (p.1 : Int)) h (k := i * 2) (by omega)
 have h2 := owned_set (u := .int .i64 (p.2 : Int)) h1 (k := i * 2 + 1) (by simp; omega)
 rwa [node_set hi] at h2
set_option maxHeartbeats 1000000 in
theorem huffSwap (B g n cap : Nat) (l : List N2) (i j : Nat) (w : World) (h : w.ownsRow B 85 2 (.slice (some ⟨g, 0, none⟩) n cap) n (cellsN l)) (hi : i < n) (hj : j < n) (hb : n ≤ 1024) :
  Calls Try.prog 87 #[.slice (some ⟨g, 0, none⟩) n cap, .int .i64 i, .int .i64 j] w fun e w' => e = .returned (.tuple #[]) ∧ w'.ownsRow B 85 2 (.slice (some ⟨g, 0, none⟩) n cap) n (cellsN (swp l i j)) ∧ Kept (oneRow g) w w' := by
 have hn : l.length = n := (SeqS.of_owns h).len_ nodeC_len (by decide)
 obtain ⟨c0, c1⟩ := node_at h (i := i) (by omega)
 obtain ⟨d0, d1⟩ := node_at h (i := j) (by omega)
 have f0 := h.frozenAt (i * 2)
 have f1 := h.frozenAt (i * 2 + 1)
 have f2 := h.frozenAt (j * 2)
 have f3 := h.frozenAt (j * 2 + 1)
 have hi2 : (i : Int) < (n : Int) := by omega
 have hj2 : (j : Int) < (n : Int) := by omega
 have hA := node_set' (w := w) (l := l) h (i := i) (by omega) (gd l j)
 have hB := node_set' hA (i := j) (by simp; omega) (gd l i)
 have HB := Lib.hid hB
 obtain ⟨k0, k1⟩ := node_at hA (i := j) (by simp; omega)
 have k2 := hA.frozenAt (j * 2)
 have k3 := hA.frozenAt (j * 2 + 1)
 clear hA hB h hn
 generalize gd (l.set i (gd l j)) j = r at *
 obtain ⟨r0, r1⟩ := r
 simp only at k0 k1
 have hsw : (l.set i (gd l j)).set j (gd l i) = swp l i j := rfl
 have HSW := Lib.hid hsw
 generalize gd l i = p at *
 generalize gd l j = q at *
 obtain ⟨a, b⟩ := p
 obtain ⟨c, d⟩ := q
 simp only at c0 c1 d0 d1
 clear hsw
 go_enter Try.func87, Try.ntmps87
 go_wp2_with fail
 go_region
 all_goals (
  go_wp2
  refine bodyPost_end (v := .tuple #[]) (by simp [results, Try.results87, go_sem]) rfl ?_
  exact ⟨rfl, by rw [← HSW.out]; exact HB.out, ((((Kept.put w g _ _).trans (Kept.put _ g _ _) (fun _ _ h => h)).trans (Kept.put _ g _ _) (fun _ _ h => h)).trans (Kept.put _ g _ _) (fun _ _ h => h)).trans (Kept.drewN _ _ 1) (fun _ _ h => h)⟩)
def hpI (g : Nat) : Value := .iface 86 (.pointer (some ⟨g, 0, none⟩))
def trS (r N cap : Nat) : Value := .slice (some ⟨r, 0, none⟩) N cap
def TrAt (w : World) (B g r N cap : Nat) (l : List N2) : Prop := Lies w g 48 #[trS r N cap] ∧ w.ownsRow B 85 2 (trS r N cap) N (cellsN l) ∧ NdOk l ∧ N ≤ 1024
theorem met_eq1 (a : Addr) (w : World) : (method 249 86 (.pointer (some a)) "Len").run Try.prog w = (loadVar 48 a >>= fun v => pure (85, v)).run Try.prog w := by kernel_rfl
theorem met_eq2 (a : Addr) (w : World) : (method 249 86 (.pointer (some a)) "Less").run Try.prog w = (loadVar 48 a >>= fun v => pure (86, v)).run Try.prog w := by kernel_rfl
theorem met_eq3 (a : Addr) (w : World) : (method 249 86 (.pointer (some a)) "Swap").run Try.prog w = (loadVar 48 a >>= fun v => pure (87, v)).run Try.prog w := by kernel_rfl
theorem met_len (a : Addr) (v : Value) (w : World) (h : w.cell? a = some v) : (method 249 86 (.pointer (some a)) "Len").run Try.prog w = .ok (85, v) w := by
 rw [met_eq1]; go_simp
theorem met_less (a : Addr) (v : Value) (w : World) (h : w.cell? a = some v) : (method 249 86 (.pointer (some a)) "Less").run Try.prog w = .ok (86, v) w := by
 rw [met_eq2]; go_simp
theorem met_swap (a : Addr) (v : Value) (w : World) (h : w.cell? a = some v) : (method 249 86 (.pointer (some a)) "Swap").run Try.prog w = .ok (87, v) w := by
 rw [met_eq3]; go_simp
theorem nil_len (a : Addr) (w : World) : (nilAhead 249 86 (.pointer (some a)) "Len").run Try.prog w = .ok (some false) w := by kernel_rfl
theorem nil_less (a : Addr) (w : World) : (nilAhead 249 86 (.pointer (some a)) "Less").run Try.prog w = .ok (some false) w := by kernel_rfl
theorem nil_swap (a : Addr) (w : World) : (nilAhead 249 86 (.pointer (some a)) "Swap").run Try.prog w = .ok (some false) w := by kernel_rfl
section
variable {w w' : World} {B g r N cap : Nat} {l : List N2}
theorem TrAt.cell (h : TrAt w B g r N cap l) : w.cell? ⟨g, 0, none⟩ = some (trS r N cap) := (h.1.cell 0).trans rfl
theorem TrAt.len (h : TrAt w B g r N cap l) : l.length = N := (SeqS.of_owns h.2.1).len_ nodeC_len (by decide)
theorem TrAt.ne (h : TrAt w B g r N cap l) : g ≠ r := by
 intro e
 obtain ⟨cur, hl⟩ : ∃ cur, Lies w r 85 cur := by
  rcases owns_row h.2.1 with ⟨h1, _⟩ | ⟨r', _, cur, h1, _, h2, _⟩
  ·cases h1
  ·simp only [trS, Value.slice.injEq, Option.some.injEq, Addr.mk.injEq] at h1
   obtain ⟨⟨rfl, _⟩, _⟩ := h1
   exact ⟨cur, h2⟩
 subst e
 exact absurd (h.1.same hl).1 (by decide)
theorem TrAt.drewN (h : TrAt w B g r N cap l) (m : Nat) : TrAt (w.drewN m) B g r N cap l := h
theorem lessC (h : TrAt w B g r N cap l) (i j : Nat) (hi : i < N) (hj : j < N) : Calls Try.prog 86 #[trS r N cap, .int .i64 i, .int .i64 j] w fun e w' => e = .returned (.bool (decide (K2 l i < K2 l j))) ∧ ∃ m, w' = w.drewN m :=
 huffLess B r N cap l i j w h.2.1 h.2.2.1 hi hj h.2.2.2
theorem swapC (h : TrAt w B g r N cap l) (i j : Nat) (hi : i < N) (hj : j < N) : Calls Try.prog 87 #[trS r N cap, .int .i64 i, .int .i64 j] w fun e w' => e = .returned (.tuple #[]) ∧ TrAt w' B g r N cap (swp l i j) ∧ Kept (oneRow r) w w' := by
 have hl := h.len
 refine (huffSwap B r N cap l i j w h.2.1 hi hj h.2.2.2).mono ?_
 rintro e w' ⟨rfl, ho, hk⟩
 exact ⟨rfl, ⟨h.1.kept hk (fun e => h.ne e), ho, fun p hp => h.2.2.1 p ((swp_perm (by omega) (by omega)).mem_iff.1 hp), h.2.2.2⟩, hk⟩
theorem lenC (w : World) (r N cap : Nat) : Calls Try.prog 85 #[trS r N cap] w fun e w' => e = .returned (.int .i64 N) ∧ w = w' := by
 unfold trS
 go_enter Try.func85, Try.ntmps85
 go_wp2
 go_ret
 exact ⟨rfl, rfl⟩
end
set_option maxHeartbeats 1000000 in
set_option maxRecDepth 100000 in
theorem heapDown (B g r N cap : Nat) (l : List N2) (i0 n : Nat) (w : World) (h : TrAt w B g r N cap l) (hn : n ≤ N) (hi : i0 < 1024) :
  Calls Try.prog 60 #[hpI g, .int .i64 i0, .int .i64 n] w fun e w' => (∃ b, e = .returned (.bool b)) ∧ TrAt w' B g r N cap (downL n i0 l) ∧ Kept (oneRow r) w w' := by
 have hN := h.2.2.2
 have H := Lib.hid h
 clear h
 unfold hpI
 go_enter Try.func60, Try.ntmps60
 go_wp2
 go_loopw [7] (fun t wr => ∃ (i : Nat) (cur : List N2), i < 4096 ∧ t = .int .i64 i ∧ Hid (downL n i0 l = downL n i cur) ∧ TrAt wr B g r N cap cur ∧ Kept (oneRow r) w wr)
  (fun t _ => 4096 - (intOf t).toNat)
 case atStart => exact ⟨i0, l, by omega, rfl, rfl, H.out, Kept.refl _ _⟩
 case round =>
  clear H
  obtain ⟨i, cur, hi4, rfl, hD, hT, hk2⟩ := hrel
  by_cases hc : 2 * i + 1 < n
  ·obtain ⟨j1, hj1⟩ : ∃ j1 : Nat, j1 = 2 * i + 1 := ⟨_, rfl⟩
   obtain ⟨j2, hj2⟩ : ∃ j2 : Nat, j2 = j1 + 1 := ⟨_, rfl⟩
   have q1 : 2 * (i : Int) + 1 = (j1 : Int) := by omega
   have q2 : (j1 : Int) + 1 = (j2 : Int) := by omega
   have x1 : decide ((n : Int) ≤ (j1 : Int)) = false := by simp; omega
   have x2 : decide ((j1 : Int) < 0) = false := by simp
   have x4 : decide (n ≤ j1) = false := by simp; omega
   have HJ1 := Lib.hid hj1
   have HJ2 := Lib.hid hj2
   have hin : i < N := by omega
   have hj1n : j1 < n := by omega
   by_cases hc2 : j2 < n
   ·have x3 : decide ((j2 : Int) < (n : Int)) = true := by simp; omega
    have x5 : decide (j2 < n) = true := by simpa using hc2
    have m3 := met_less ⟨g, 0, none⟩ _ _ hT.cell
    have m4 := nil_less ⟨g, 0, none⟩
    clear hj1 hj2
    go_wp2_with fail
    refine (lessC hT j2 j1 (by omega) (by omega)).mono ?_
    rintro e w4 ⟨rfl, k4, rfl⟩
    have hT := hT.drewN k4
    have hk2 := hk2.trans (Kept.drewN (oneRow r) _ k4) (fun _ _ h => h)
    generalize World.drewN _ k4 = w4 at *
    clear m3 m4
    by_cases hX : K2 cur j2 < K2 cur j1
    ·have e1 : decide (K2 cur j2 < K2 cur j1) = true := by simpa using hX
     have HS : Hid (sonL cur n i = j2) := by
      show _ = _
      unfold sonL; rw [← show j2 = 2 * i + 2 by rw [HJ2.out, HJ1.out], ← HJ1.out, if_pos ⟨hc2, hX⟩]
     clear hX
     have hjgt : i < j2 := by have := sonL_gt cur n i; rw [HS.out] at this; exact this
     have hjlt : j2 < n := by have := sonL_lt (l := cur) hc; rw [HS.out] at this; exact this
     have m3 := met_less ⟨g, 0, none⟩ _ _ hT.cell
     have m4 := nil_less ⟨g, 0, none⟩
     go_wp2_with fail
     refine (lessC hT j2 i (by omega) (by omega)).mono ?_
     rintro e w4 ⟨rfl, k4, rfl⟩
     have hT := hT.drewN k4
     have hk2 := hk2.trans (Kept.drewN (oneRow r) _ k4) (fun _ _ h => h)
     generalize World.drewN _ k4 = w4 at *
     clear m3 m4
     by_cases hX2 : K2 cur j2 < K2 cur i
     ·have e2 : decide (K2 cur j2 < K2 cur i) = true := by simpa using hX2
      have m3 := met_swap ⟨g, 0, none⟩ _ _ hT.cell
      have m4 := nil_swap ⟨g, 0, none⟩
      have HD2 : Hid (downL n i0 l = downL n j2 (swp cur i j2)) := by
       show _ = _
       rw [hD.out]
       conv => lhs; unfold downL
       rw [dif_pos hc, HS.out, if_pos hX2]
      clear hX2 hD
      go_wp2_with fail
      refine (swapC hT i j2 (by omega) (by omega)).mono ?_
      rintro e w5 ⟨rfl, hT2, hk5⟩
      clear m3 m4 hT e2
      have hk6 := hk2.trans hk5 (fun _ _ h => h)
      clear hk2 hk5
      go_wp2
      go_roundw
      case rel => exact ⟨j2, _, by omega, by go_num, HD2, hT2, hk6⟩
      case measure => simp [intOf]; omega
     ·have e2 : decide (K2 cur j2 < K2 cur i) = false := by simpa using hX2
      have HD2 : Hid (downL n i0 l = cur) := by
       show _ = _
       rw [hD.out]
       conv => lhs; unfold downL
       rw [dif_pos hc, HS.out, if_neg hX2]
      clear hX2 hD
      go_wp2
      go_ret
      exact ⟨⟨_, rfl⟩, by rw [HD2.out]; exact hT, hk2⟩
    ·have e1 : decide (K2 cur j2 < K2 cur j1) = false := by simpa using hX
     have HS : Hid (sonL cur n i = j1) := by
      show _ = _
      unfold sonL; rw [← show j2 = 2 * i + 2 by rw [HJ2.out, HJ1.out], ← HJ1.out, if_neg (fun h => hX h.2)]
     clear hX
     have hjgt : i < j1 := by have := sonL_gt cur n i; rw [HS.out] at this; exact this
     have hjlt : j1 < n := by have := sonL_lt (l := cur) hc; rw [HS.out] at this; exact this
     have m3 := met_less ⟨g, 0, none⟩ _ _ hT.cell
     have m4 := nil_less ⟨g, 0, none⟩
     go_wp2_with fail
     refine (lessC hT j1 i (by omega) (by omega)).mono ?_
     rintro e w4 ⟨rfl, k4, rfl⟩
     have hT := hT.drewN k4
     have hk2 := hk2.trans (Kept.drewN (oneRow r) _ k4) (fun _ _ h => h)
     generalize World.drewN _ k4 = w4 at *
     clear m3 m4
     by_cases hX2 : K2 cur j1 < K2 cur i
     ·have e2 : decide (K2 cur j1 < K2 cur i) = true := by simpa using hX2
      have m3 := met_swap ⟨g, 0, none⟩ _ _ hT.cell
      have m4 := nil_swap ⟨g, 0, none⟩
      have HD2 : Hid (downL n i0 l = downL n j1 (swp cur i j1)) := by
       show _ = _
       rw [hD.out]
       conv => lhs; unfold downL
       rw [dif_pos hc, HS.out, if_pos hX2]
      clear hX2 hD
      go_wp2_with fail
      refine (swapC hT i j1 (by omega) (by omega)).mono ?_
      rintro e w5 ⟨rfl, hT2, hk5⟩
      clear m3 m4 hT e2
      have hk6 := hk2.trans hk5 (fun _ _ h => h)
      clear hk2 hk5
      go_wp2
      go_roundw
      case rel => exact ⟨j1, _, by omega, by go_num, HD2, hT2, hk6⟩
      case measure => simp [intOf]; omega
     ·have e2 : decide (K2 cur j1 < K2 cur i) = false := by simpa using hX2
      have HD2 : Hid (downL n i0 l = cur) := by
       show _ = _
       rw [hD.out]
       conv => lhs; unfold downL
       rw [dif_pos hc, HS.out, if_neg hX2]
      clear hX2 hD
      go_wp2
      go_ret
      exact ⟨⟨_, rfl⟩, by rw [HD2.out]; exact hT, hk2⟩
   ·have x3 : decide ((j2 : Int) < (n : Int)) = false := by simp; omega
    have x5 : decide (j2 < n) = false := by simpa using hc2
    have HS : Hid (sonL cur n i = j1) := by
     show _ = _
     unfold sonL; rw [← show j2 = 2 * i + 2 by rw [HJ2.out, HJ1.out], ← HJ1.out, if_neg (fun h => hc2 h.1)]
    clear hj1 hj2
    have hjgt : i < j1 := by have := sonL_gt cur n i; rw [HS.out] at this; exact this
    have hjlt : j1 < n := by have := sonL_lt (l := cur) hc; rw [HS.out] at this; exact this
    have m3 := met_less ⟨g, 0, none⟩ _ _ hT.cell
    have m4 := nil_less ⟨g, 0, none⟩
    go_wp2_with fail
    refine (lessC hT j1 i (by omega) (by omega)).mono ?_
    rintro e w4 ⟨rfl, k4, rfl⟩
    have hT := hT.drewN k4
    have hk2 := hk2.trans (Kept.drewN (oneRow r) _ k4) (fun _ _ h => h)
    generalize World.drewN _ k4 = w4 at *
    clear m3 m4
    by_cases hX2 : K2 cur j1 < K2 cur i
    ·have e2 : decide (K2 cur j1 < K2 cur i) = true := by simpa using hX2
     have m3 := met_swap ⟨g, 0, none⟩ _ _ hT.cell
     have m4 := nil_swap ⟨g, 0, none⟩
     have HD2 : Hid (downL n i0 l = downL n j1 (swp cur i j1)) := by
      show _ = _
      rw [hD.out]
      conv => lhs; unfold downL
      rw [dif_pos hc, HS.out, if_pos hX2]
     clear hX2 hD
     go_wp2_with fail
     refine (swapC hT i j1 (by omega) (by omega)).mono ?_
     rintro e w5 ⟨rfl, hT2, hk5⟩
     clear m3 m4 hT e2
     have hk6 := hk2.trans hk5 (fun _ _ h => h)
     clear hk2 hk5
     go_wp2
     go_roundw
     case rel => exact ⟨j1, _, by omega, by go_num, HD2, hT2, hk6⟩
     case measure => simp [intOf]; omega
    ·have e2 : decide (K2 cur j1 < K2 cur i) = false := by simpa using hX2
     have HD2 : Hid (downL n i0 l = cur) := by
      show _ = _
      rw [hD.out]
      conv => lhs; unfold downL
      rw [dif_pos hc, HS.out, if_neg hX2]
     clear hX2 hD
     go_wp2
     go_ret
     exact ⟨⟨_, rfl⟩, by rw [HD2.out]; exact hT, hk2⟩
  ·have x1 : decide ((n : Int) ≤ 2 * (i : Int) + 1) = true := by simp; omega
   have HD2 : Hid (downL n i0 l = cur) := by
    show _ = _
    rw [hD.out]
    conv => lhs; unfold downL
    rw [dif_neg hc]
   clear hc hD
   go_wp2
   go_ret
   exact ⟨⟨_, rfl⟩, by rw [HD2.out]; exact hT, hk2⟩
def nodeV (p : N2) : Value := .agg #[.int .u64 (p.1 : Int), .int .i64 (p.2 : Int)]
def ndI (p : N2) : Value := .iface 85 (nodeV p)
def twoRows (g r : Nat) : Nat → Prop := fun k => k = g ∨ k = r
set_option maxHeartbeats 1000000 in
set_option maxRecDepth 100000 in
theorem trPop (B g r N cap : Nat) (l : List N2) (w : World) (h : TrAt w B g r (N + 1) cap l) :
  Calls Try.prog 89 #[.pointer (some ⟨g, 0, none⟩)] w fun e w' => e = .returned (ndI (gd l N)) ∧ TrAt w' B g r N cap (l.take N) ∧ Kept (oneRow g) w w' := by
 have hl := h.len
 obtain ⟨c0, c1⟩ := node_at h.2.1 (i := N) (by omega)
 have cg := h.cell
 have fg := h.1.free 0
 have hcap : N + 1 ≤ cap ∧ cap ≤ maxLen := by
  rcases owns_row h.2.1 with ⟨h1, _⟩ | ⟨r', _, cur, h1, _, h2, h3, h4⟩
  ·cases h1
  ·simp only [trS, Value.slice.injEq] at h1
   obtain ⟨_, _, rfl⟩ := h1
   exact ⟨h3, h4⟩
 unfold maxLen at hcap
 have hN := h.2.2.2
 have H := Lib.hid h
 obtain ⟨W, hW⟩ : ∃ W, W = gd l N := ⟨_, rfl⟩
 rw [← hW] at c0 c1 ⊢
 obtain ⟨a, b⟩ := W
 simp only at c0 c1
 unfold trS at cg
 clear h hW hl
 have x1 : ((N + 1 : Nat) : Int) - 1 = (N : Int) := by omega
 go_enter Try.func89, Try.ntmps89
 have hgl := H.out.1.lt
 have ca : ∀ o, (w.alloc o).cell? ⟨g, 0, none⟩ = some (Value.slice (some ⟨r, 0, none⟩) (N + 1) cap) := fun o => ((H.out.1.alloc o).cell 0).trans rfl
 have fa : ∀ o, (w.alloc o).frozen? ⟨g, 0, none⟩ = false := fun o => (H.out.1.alloc o).free 0
 go_wp2
 go_ret
 have hk := (Kept.put w g 0 (Value.slice (some ⟨r, 0, none⟩) N cap)).trans (Kept.alloc (oneRow g) _ (.cells #[.int .u64 (a : Int), .int .i64 (b : Int)] 85)) (fun _ _ h => h)
 have h1 := (H.out.1.put 0 (Value.slice (some ⟨r, 0, none⟩) N cap))
 have h2 := owns_put (owns_cut nodeC_len H.out.2.1 (Nat.le_succ N)) H.out.1 (by decide) 0 (Value.slice (some ⟨r, 0, none⟩) N cap)
 exact ⟨rfl, ⟨h1.alloc _, h2.alloc _, fun p hp => H.out.2.2.1 p (List.mem_of_mem_take hp), by omega⟩, hk⟩
theorem infoNode : (Try.prog.info? 85).map (fun i => (i.zero, i.size, i.bytes)) = some (some (.agg #[.int .u64 0, .int .i64 0]), 2, 16) := by kernel_rfl
set_option maxHeartbeats 1000000 in
set_option maxRecDepth 100000 in
theorem trPush (B g r N cap : Nat) (l : List N2) (p : N2) (w : World) (h : TrAt w B g r N cap l) (hN : N + 1 ≤ 1024) (hp : p.1 < 18446744073709551616 ∧ p.2 < 1024) (hB : B ≤ w.heap.size) :
  Calls Try.prog 90 #[.pointer (some ⟨g, 0, none⟩), ndI p] w fun e w' => e = .returned (.tuple #[]) ∧ (∃ r' cap', TrAt w' B g r' (N + 1) cap' (l ++ [p]) ∧ (r' = r ∨ w.heap.size ≤ r')) ∧ Kept (twoRows g r) w w' := by
 have cg := h.cell
 have fg := h.1.free 0
 have H := Lib.hid h
 unfold trS at cg
 clear h
 obtain ⟨a, b⟩ := p
 unfold ndI nodeV
 simp only
 have hgl := H.out.1.lt
 have hta : ∀ (v : Value) (w : World), (Instr.typeAssert (.iface 85 v) 20 85 true).run Try.prog w = .ok (.tuple #[v, .bool true]) w := fun v w => by kernel_rfl
 obtain ⟨i0, hi, hz0, hz1, hz2⟩ := info_parts infoNode
 go_enter Try.func90, Try.ntmps90
 go_wp2
 have HA : Hid (TrAt (w.alloc (.cells #[.int .u64 (a : Int), .int .i64 (b : Int)] 85)) B g r N cap l) := ⟨H.out.1.alloc _, H.out.2.1.alloc _, H.out.2.2⟩
 have ln := Lies.made w 85 #[.int .u64 (a : Int), .int .i64 (b : Int)]
 have d0 := (ln.cell 0).trans (show _ = some (Value.int .u64 (a : Int)) from rfl)
 have d1 := (ln.cell 1).trans (show _ = some (Value.int .i64 (b : Int)) from rfl)
 have hka := Kept.alloc (twoRows g r) w (.cells #[.int .u64 (a : Int), .int .i64 (b : Int)] 85)
 have HKA := Lib.hid hka
 have hsz : (w.alloc (.cells #[.int .u64 (a : Int), .int .i64 (b : Int)] 85)).heap.size = w.heap.size + 1 := by simp
 clear ln hka cg fg
 generalize (w.alloc (.cells #[.int .u64 (a : Int), .int .i64 (b : Int)] 85)) = wA at *
 have cg : wA.cell? ⟨g, 0, none⟩ = some (Value.slice (some ⟨r, 0, none⟩) N cap) := HA.out.cell
 have fg := HA.out.1.free 0
 have hgl : g < wA.heap.size := by omega
 have hq : w.heap.size < wA.heap.size := by omega
 have hBA : B ≤ wA.heap.size := by omega
 clear hsz
 go_region_law (refine step_append_lies _ rfl (.tmp 15) (.tmp 17) 48 rfl B 85 i0 (.agg #[.int .u64 0, .int .i64 0]) 2 16 Try.underlying48 hi hz0 hz1 hz2 rfl (by omega) _ N _ rfl ((show World.ownsRow wA.drew _ _ _ _ _ _ from HA.out.2.1).alloc _) ⟨wA.heap.size, 0, none⟩ 1 1 [.int .u64 (a : Int), .int .i64 (b : Int)] rfl rfl (World.news_of_block (Lies.made wA.drew 85 #[.int .u64 (a : Int), .int .i64 (b : Int)])) (fun u hu => by simp at hu; rcases hu with rfl | rfl <;> rfl) (by omega) (by unfold maxLen; omega) (by omega) (by simp; omega) (wA.heap.size + 1) (by simp) ?_; intro gh caph w6 ho6 hg6 hgh hg6l; have l6 := ((Lies.drew HA.out.1).alloc (.cells #[.int .u64 (a : Int), .int .i64 (b : Int)] 85)).kept (Kept.of_grown hg6) (own_ne HA.out.2.1 HA.out.1 (by decide)); have e1 := (l6.cell 0).trans (show _ = some (Value.slice (some ⟨r, 0, none⟩) N cap) from rfl); have e2 := l6.free 0)
 all_goals (
  have hk6 : Kept (twoRows g r) wA w6 := ((Kept.drew _ wA).trans (kept_grown hg6) (fun _ _ h => h)).mono (fun k _ hk => by
   have hk' : some r = some k := hk
   exact .inr (Option.some.inj hk').symm)
  have hk7 := (HKA.out.trans hk6 (fun _ _ h => h)).trans ((Kept.put w6 g 0 (.slice (some ⟨gh, 0, none⟩) (N + 1) caph)).mono (fun k _ hk => show twoRows g r k from Or.inl hk)) (fun _ _ h => h)
  have l7 := l6.put 0 (.slice (some ⟨gh, 0, none⟩) (N + 1) caph)
  have ho7 := owns_put ho6 l6 (by decide) 0 (.slice (some ⟨gh, 0, none⟩) (N + 1) caph)
  have hce : cellsN l ++ [Value.int .u64 (a : Int), Value.int .i64 (b : Int)] = cellsN (l ++ [(a, b)]) := (rowsOf_append l [(a, b)]).symm
  rw [hce] at ho7
  have hrr : gh = r ∨ w.heap.size ≤ gh := hgh.imp (fun h => (Option.some.inj (show some r = some gh from h)).symm) (fun h => by omega)
  have HO := Lib.hid ho7
  have HK := Lib.hid hk7
  have HL := Lib.hid l7
  clear ho7 hk7 l7 ho6 hg6 l6 e1 e2 hk6
  go_wp2
  refine bodyPost_end (v := .tuple #[]) (by simp [results, Try.results90, go_sem]) rfl ?_
  exact ⟨rfl, ⟨gh, caph, ⟨HL.out, HO.out, fun p hm => (List.mem_append.1 hm).elim (fun hm => H.out.2.2.1 p hm) (fun hm => by rw [List.mem_singleton.1 hm]; exact hp), hN⟩, hrr⟩, HK.out⟩)
end Go.Proofs.Ytakdpnlohknniaa
