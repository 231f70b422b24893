import Derived.WalkKit
import Derived.ProofKit
import Derived.Lib.Hide
import Derived.Lib.AppendStr
import Derived.Lib.SlBytesRow
import Derived.Laws.AppendOwnNone
import Derived.Deep.AppendLies
import Derived.Deep.Draws
import Derived.BigQuiet
import Derived.Deep.QuietTactic
import Derived.Deep.RegionWith
import Derived.OpenShut
import Derived.Outline
import Derived.Deep.Slices
import Derived.ChangeSame
import Derived.Laws.IdiomStrings
import Derived.SliceStrings
import Derived.Laws.DeepStrings4
import Derived.SizedLaws
import Derived.Laws.OwnMore
import Derived.Test.YtmadgdmiipgjoaaGreatRows
import Derived.Deep.OwnRows
import Derived.Laws.StructEq
import Derived.Deep.DeepCutAuto
import Derived.IntWalk
import Derived.Lib.BufferRead
import Derived.Laws.BitsAllLaws
import Derived.Laws.Bits64
import Derived.Laws.Bits64b
import Derived.Deep.RegionHeld3
import Derived.Laws.DeepNot64
import Derived.Deep.MidRow
import Derived.RegionTactic
import Derived.StillTailTactics
import Derived.Deep.RegionLaw
import Derived.Laws.CopyOwn
import Derived.Deep.RegionHeld
import Derived.ShutString
import Derived.ChangeOld
import Derived.Below
namespace Go.Proofs.YtmadgdmiipgjoaaGreat
open Go.RowKit
set_option linter.unusedVariables false
set_option linter.unusedSimpArgs false
theorem then_ {w w1 w2 : World} (h : Below w.heap.size w w1) (h2 : Below w1.heap.size w1 w2) : Below w.heap.size w w2 := h.trans (h2.mono h.size)
theorem below_of_grown {w w' : World} {base : Nat} {e : TypeId} {size : Nat} {v : Value} {n : Nat} {xs : List Value} {o : Obj}
  (hown : w.ownsRow base e size v n xs) (hb : base ≤ w.heap.size) (hg : (w.alloc o).grownBy w' v.ownBlock) : Below base w w' :=
 ((Below.refl _ _).alloc hb o).grown hg (by simp; omega) (fun k hk => by have := hown.lt k hk; omega)
theorem append_one {P : Program} {ops : Array Oper} {rest : List Oper} {o : Oper} {a : Act} {Q : Exit → Act → World → Prop} (w : World) (x : Value)
  (hg : o.guard = none) (s y : Operand) (t : TypeId) (hop : o.op = Op.call { callee := Callee.builtin Builtin.append, args := #[s, y], argTypes := #[t, t] })
  (base : Nat) (e : TypeId) (z : Value) (bytes : Nat) (ht : P.underlying t = some (.slice e)) (hi : (P.info? e).map (fun i => (i.zero, i.size, i.bytes)) = some (some z, 1, bytes))
  (hzs : z.cells.size = 1) (hx1 : x.oneCell' = true)
  (v : Value) (n : Nat) (xs : List Value) (hs : a.eval s = v) (hown : w.ownsRow base e 1 v n xs) (hy : a.eval y = .slice (some ⟨w.heap.size, 0, none⟩) 1 1)
  (b1 : n + 1 ≤ maxLen) (b2 : (n + 1) * bytes ≤ 140737488355328) (b3 : base ≤ w.heap.size)
  (hK : ∀ v' w', w'.ownsRow base e 1 v' (n + 1) (xs ++ [x]) → Below base w w' → (w.alloc (.cells #[x] e)).grownBy w' v.ownBlock → wpList P ops Q rest (a.put o.dst v') w') :
  wpList P ops Q (o :: rest) a (w.alloc (.cells #[x] e)) := by
 obtain ⟨i0, hi, hz0, hz1, hz2⟩ := info_parts hi
 refine wpList_append_own _ hg s y t hop base e i0 z 1 bytes ht hi hz0 hz1 hz2 hzs (by decide) v n xs hs (hown.alloc _) ⟨w.heap.size, 0, none⟩ 1 1 [x] hy rfl ?_ ?_ b1 b2 (by simp; omega) ?_
 ·intro j u hj
  match j, hj with
  | 0, hj => simp at hj; subst hj; simp [Addr.add, World.cell?_alloc_at]
 ·intro u hu; simp at hu; subst hu; exact hx1
 ·intro v' w' ho hgr _
  exact hK v' w' ho (below_of_grown hown b3 hgr) hgr
theorem addr_add (g j : Nat) : (⟨g, 0, none⟩ : Addr).add j = ⟨g, j, none⟩ := by unfold Addr.add; split <;> simp_all
theorem ownsRow_open {w : World} {base : Nat} {e : TypeId} {v : Value} {n : Nat} {xs : List Value} (h : w.ownsRow base e 1 v n xs) (hn : 0 < n) :
  ∃ g cap, v = .slice (some ⟨g, 0, none⟩) n cap ∧ base ≤ g ∧ g < w.heap.size ∧ n ≤ cap ∧ cap ≤ maxLen ∧ ∀ j u, xs[j]? = some u → w.cell? ⟨g, j, none⟩ = some u := by
 rcases h.2 with ⟨_, rfl⟩ | ⟨g, cap, cur, rfl, hb, hg, hc, hm, _, ht⟩
 ·omega
 ·refine ⟨g, cap, rfl, hb, (Array.getElem?_eq_some_iff.1 hg).1, hc, hm, fun j u hu => ?_⟩
  have := h.cells (g := g) rfl j u hu
  rwa [addr_add] at this
theorem ret_int {k : IntKind} {a b : Int} (h : a = b) : Ending.returned (.int k a) = .returned (.int k b) := by rw [h]
theorem ret_bool {a b : Bool} (h : a = b) : Ending.returned (.bool a) = .returned (.bool b) := by rw [h]
def Lies (w : World) (g : Nat) (t : TypeId) (cs : Array Value) : Prop := w.heap[g]? = some (.cells cs t (0, 0))
theorem Lies.lt {w : World} {g : Nat} {t : TypeId} {cs : Array Value} (h : Lies w g t cs) : g < w.heap.size := by
 unfold Lies at h
 exact (Array.getElem?_eq_some_iff.1 h).1
theorem Lies.cell {w : World} {g : Nat} {t : TypeId} {cs : Array Value} (h : Lies w g t cs) (i : Nat) : w.cell? ⟨g, i, none⟩ = cs[i]? := by
 unfold Lies at h
 simp [World.cell?, h]
theorem Lies.free {w : World} {g : Nat} {t : TypeId} {cs : Array Value} (h : Lies w g t cs) (i : Nat) : w.frozen? ⟨g, i, none⟩ = false := by
 unfold Lies at h
 simp [World.frozen?, h]
theorem Lies.made (w : World) (t : TypeId) (cs : Array Value) : Lies (w.alloc (.cells cs t)) w.heap.size t cs := heap_alloc_new w _
theorem Lies.put {w : World} {g : Nat} {t : TypeId} {cs : Array Value} (h : Lies w g t cs) (i : Nat) (u : Value) : Lies (w.setCell ⟨g, i, none⟩ u) g t (cs.setIfInBounds i u) := by
 unfold Lies at h ⊢
 simp [World.setCell, Array.getElem?_modify, h]
theorem Lies.same {w : World} {g : Nat} {t t' : TypeId} {cs cs' : Array Value} (h : Lies w g t cs) (h' : Lies w g t' cs') : t = t' ∧ cs = cs' := by
 unfold Lies at h h'
 rw [h] at h'
 injection h' with h'
 injection h' with h1 h2 _
 exact ⟨h2, h1⟩
structure Kept (S : Nat → Prop) (w1 w2 : World) : Prop where
 os : w2.os = w1.os
 tape : w2.tape = w1.tape
 output : w2.output = w1.output
 size : w1.heap.size ≤ w2.heap.size
 at_ : ∀ k, k < w1.heap.size → ¬ S k → w2.heap[k]? = w1.heap[k]?
def noRow : Nat → Prop := fun _ => False
def oneRow (g : Nat) : Nat → Prop := fun k => k = g
theorem Kept.refl (S : Nat → Prop) (w : World) : Kept S w w := ⟨rfl, rfl, rfl, Nat.le_refl _, fun _ _ _ => rfl⟩
theorem Kept.trans {S T : Nat → Prop} {a b c : World} (h : Kept S a b) (k : Kept T b c) (hs : ∀ i, i < a.heap.size → T i → S i) : Kept S a c :=
 ⟨k.os.trans h.os, k.tape.trans h.tape, k.output.trans h.output, Nat.le_trans h.size k.size, fun i hi hn =>
  (k.at_ i (Nat.lt_of_lt_of_le hi h.size) (fun ht => hn (hs i hi ht))).trans (h.at_ i hi hn)⟩
theorem Kept.mono {S T : Nat → Prop} {a b : World} (h : Kept S a b) (hs : ∀ i, i < a.heap.size → S i → T i) : Kept T a b :=
 ⟨h.os, h.tape, h.output, h.size, fun i hi hn => h.at_ i hi (fun ht => hn (hs i hi ht))⟩
theorem Kept.drewN (S : Nat → Prop) (w : World) (n : Nat) : Kept S w (w.drewN n) := ⟨rfl, rfl, rfl, Nat.le_refl _, fun _ _ _ => rfl⟩
theorem Kept.alloc (S : Nat → Prop) (w : World) (o : Obj) : Kept S w (w.alloc o) := ⟨rfl, rfl, rfl, by simp, fun _ hk _ => heap_alloc_old w o hk⟩
theorem Kept.put (w : World) (g i : Nat) (u : Value) : Kept (oneRow g) w (w.setCell ⟨g, i, none⟩ u) :=
 ⟨rfl, rfl, rfl, by simp, fun k _ hn => Below.heap_setCell _ _ _ _ (fun e => hn e)⟩
theorem Kept.of_grown {w w' : World} {row : Option Nat} (h : w.grownBy w' row) : Kept (fun k => row = some k) w w' :=
 ⟨h.os, h.tape, h.output, h.size, fun k hk hn => h.block k hk (fun e => hn e.symm)⟩
theorem Kept.of_below {w w' : World} (h : Below w.heap.size w w') : Kept noRow w w' := ⟨h.os, h.tape, h.output, h.size, fun k hk _ => h.block k hk⟩
theorem Kept.below {S : Nat → Prop} {B : Nat} {w w' : World} (h : Kept S w w') (hB : B ≤ w.heap.size) (hs : ∀ k, k < B → ¬ S k) : Below B w w' :=
 ⟨h.os, h.tape, h.output, h.size, fun k hk => h.at_ k (by omega) (hs k hk)⟩
theorem Kept.all {w w' : World} (h : Kept noRow w w') : Below w.heap.size w w' := h.below (Nat.le_refl _) (fun _ _ hf => hf)
section
variable {S : Nat → Prop} {w w' : World} {g : Nat} {t : TypeId} {cs : Array Value} {B : Nat} {e : TypeId} {size : Nat} {v : Value} {n : Nat} {xs : List Value}
theorem Lies.kept (h : Lies w g t cs) (k : Kept S w w') (hn : ¬ S g) : Lies w' g t cs := (k.at_ g h.lt hn).trans h
theorem Lies.below (h : Lies w g t cs) (k : Below B w w') (hg : g < B) : Lies w' g t cs := (k.block g hg).trans h
theorem Lies.drewN (h : Lies w g t cs) (m : Nat) : Lies (w.drewN m) g t cs := h
theorem Lies.alloc (h : Lies w g t cs) (o : Obj) : Lies (w.alloc o) g t cs := (heap_alloc_old w o h.lt).trans h
theorem Lies.far (h : Lies w g t cs) {p : Addr} (hp : g ≠ p.block) (u : Value) : Lies (w.setCell p u) g t cs := (Below.heap_setCell w p u g hp).trans h
theorem owns_row (h : w.ownsRow B e size v n xs) : (v = .slice none 0 0 ∧ n = 0 ∧ xs = []) ∨ ∃ r cap cur, v = .slice (some ⟨r, 0, none⟩) n cap ∧ B ≤ r ∧ Lies w r e cur ∧ n ≤ cap ∧ cap ≤ maxLen := by
 rcases h.2 with ⟨rfl, rfl⟩ | ⟨r, cap, cur, rfl, hb, hh, h1, h2, _⟩
 ·exact .inl ⟨rfl, rfl, by have := h.1; simpa using this⟩
 ·exact .inr ⟨r, cap, cur, rfl, hb, hh, h1, h2⟩
theorem owns_kept (h : w.ownsRow B e size v n xs) (k : Kept S w w') (hn : ∀ r cur, v.ownBlock = some r → Lies w r e cur → ¬ S r) : w'.ownsRow B e size v n xs := by
 refine ⟨h.1, ?_⟩
 rcases h.2 with h2 | ⟨r, cap, cur, rfl, hb, hh, rest⟩
 ·exact .inl h2
 ·exact .inr ⟨r, cap, cur, rfl, hb, (k.at_ r (Array.getElem?_eq_some_iff.1 hh).1 (hn r cur rfl hh)).trans hh, rest⟩
theorem owns_put (h : w.ownsRow B e size v n xs) (hg : Lies w g t cs) (hne : e ≠ t) (i : Nat) (u : Value) : (w.setCell ⟨g, i, none⟩ u).ownsRow B e size v n xs :=
 owns_kept h (Kept.put w g i u) (fun r cur _ hl hr => by
  have : r = g := hr
  subst this
  exact hne (hl.same hg).1)
theorem own_ne (h : w.ownsRow B e size v n xs) (hl : Lies w g t cs) (hne : e ≠ t) : ¬ v.ownBlock = some g := by
 intro hv
 rcases owns_row h with ⟨rfl, _⟩ | ⟨r, cap, cur, rfl, hr, hl2, _⟩
 ·cases hv
 ·obtain rfl : r = g := by simpa [Value.ownBlock] using hv
  exact hne (hl2.same hl).1
theorem kept_grown {o : Obj} {row : Option Nat} (h : (w.alloc o).grownBy w' row) : Kept (fun k => row = some k) w w' :=
 (Kept.alloc _ w o).trans (Kept.of_grown h) (fun _ _ h => h)
theorem kept_append {a : World} {o : Obj} (k : Kept S a w) (ho : w.ownsRow B e size v n xs) (hB : a.heap.size ≤ B) (h : (w.alloc o).grownBy w' v.ownBlock) : Kept S a w' :=
 k.trans (kept_grown h) (fun i hi hv => by have := (ho.lt i hv).1; omega)
theorem owns_set {r cap k : Nat} {u : Value} (h : w.ownsRow B e 1 (.slice (some ⟨r, 0, none⟩) n cap) n xs) (hk : k < n) :
  (w.setCell ⟨r, k, none⟩ u).ownsRow B e 1 (.slice (some ⟨r, 0, none⟩) n cap) n (xs.set k u) := by
 obtain ⟨h1, h2⟩ := h
 refine ⟨by rw [List.length_set]; exact h1, ?_⟩
 rcases h2 with ⟨h2, _⟩ | ⟨r', cap', cur, hv, hb, hh, hc, hm, hs, ht⟩
 ·cases h2
 ·simp only [Value.slice.injEq, Option.some.injEq, Addr.mk.injEq] at hv
  obtain ⟨⟨rfl, _, _⟩, _, rfl⟩ := hv
  refine .inr ⟨r, cap, cur.setIfInBounds k u, rfl, hb, ?_, hc, hm, by rw [Array.size_setIfInBounds]; exact hs, ?_⟩
  ·simp [World.setCell, Array.getElem?_modify, hh]
  ·rw [← ht, Array.toList_setIfInBounds]
   exact List.take_set
theorem owns_free {r cap k : Nat} (h : w.ownsRow B e 1 (.slice (some ⟨r, 0, none⟩) n cap) n xs) (hk : k < n) : w.frozen? ⟨r, k, none⟩ = false := by
 rcases h.2 with ⟨h2, _⟩ | ⟨r', cap', cur, hv, hb, hh, _⟩
 ·cases h2
 ·simp only [Value.slice.injEq, Option.some.injEq, Addr.mk.injEq] at hv
  obtain ⟨⟨rfl, _, _⟩, _, _⟩ := hv
  simp [World.frozen?, hh]
theorem owns_cell {r cap k : Nat} {u : Value} (h : w.ownsRow B e 1 (.slice (some ⟨r, 0, none⟩) n cap) n xs) (hk : xs[k]? = some u) : w.cell? ⟨r, k, none⟩ = some u := by
 have := h.cells (g := r) rfl k u hk
 rwa [addr_add] at this
theorem zeros_made (z : Value) (hz : z.cells = #[z]) (n : Nat) : (madeCells z.cells (n * 1)).toList = List.replicate n z := by
 rw [Nat.mul_one, hz]
 apply List.ext_getElem
 ·simp [size_madeCells]
 ·intro i h1 h2
  simp [madeCells, Nat.mod_one]
theorem set_next (A : List Value) (z u : Value) (m k : Nat) (hA : A.length = k) : (A ++ List.replicate (m + 1) z).set k u = A ++ [u] ++ List.replicate m z := by
 subst hA
 rw [List.set_append_right _ _ (Nat.le_refl _), Nat.sub_self, List.replicate_succ, List.set_cons_zero]
 simp
theorem owns_mono (h : w.ownsRow B e size v n xs) {B' : Nat} (hB : B' ≤ B) : w.ownsRow B' e size v n xs := by
 refine ⟨h.1, ?_⟩
 rcases h.2 with h2 | ⟨r, cap, cur, rfl, hb, rest⟩
 ·exact .inl h2
 ·exact .inr ⟨r, cap, cur, rfl, by omega, rest⟩
end
theorem slice_text {P : Program} (T : TypeId) (hT : P.underlying T = some .string) (s : ByteArray) (i j : Nat) (a b : Int) (ha : a = i) (hb : b = j) (hij : i ≤ j) (hj : j ≤ s.size) (W : World) :
  (Instr.slice T (.string s) (some (.int .i64 a)) (some (.int .i64 b)) none).run P W = .ok (.string (s.extract i j)) W := by
 subst ha hb
 rw [run_slice_string_if W T s _ _ _ _ hT, if_pos ⟨by omega, by omega⟩, if_pos ⟨by omega, by omega⟩]
 rfl
theorem addr_plus (b off k : Nat) : (⟨b, off, none⟩ : Addr).add k = ⟨b, off + k, none⟩ := by unfold Addr.add; split <;> simp_all
def SeqAt (w : World) (v : Value) (xs : List Value) : Prop := ∃ A c, v = .slice A xs.length c ∧ xs.length ≤ c ∧ c ≤ maxLen ∧ ∀ k u, xs[k]? = some u → ∃ b off, A = some ⟨b, off, none⟩ ∧ w.cell? ⟨b, off + k, none⟩ = some u
theorem SeqAt.of_owns {w : World} {B : Nat} {e : TypeId} {v : Value} {n : Nat} {xs : List Value} (h : w.ownsRow B e 1 v n xs) : SeqAt w v xs := by
 have hn : xs.length = n := by have := h.1; omega
 rcases owns_row h with ⟨rfl, h0, rfl⟩ | ⟨r, cap, cur, rfl, _, _, h1, h2⟩
 ·exact ⟨none, 0, rfl, by simp, by unfold maxLen; simp, fun k u hu => by simp at hu⟩
 ·subst hn
  exact ⟨_, cap, rfl, h1, h2, fun k u hu => ⟨r, 0, rfl, by
   have := h.cells (g := r) rfl k u hu
   rw [addr_add] at this
   rw [Nat.zero_add]; exact this⟩⟩
theorem eq_of_data {a b : ByteArray} (h : a.data.toList = b.data.toList) : a = b := ByteArray.ext (Array.toList_inj.1 h)
theorem text_ne {a b : ByteArray} (h : a ≠ b) : (a.toList == b.toList) = false := by
 rw [beq_eq_false_iff_ne, ByteArray.toList_eq, ByteArray.toList_eq]
 exact fun h2 => h (eq_of_data h2)
theorem strCells_append (a b : ByteArray) : Lib.strCells (a ++ b) = Lib.strCells a ++ Lib.strCells b := by
 simp [Lib.strCells]
theorem or_add {a b k : Nat} (ha : a < 2 ^ k) : a ||| b * 2 ^ k = a + b * 2 ^ k := by
 have := Nat.shiftLeft_add_eq_or_of_lt ha b
 rw [Nat.shiftLeft_eq] at this
 rw [Nat.or_comm, ← this, Nat.add_comm]
theorem SeqAt.get {w w' : World} {A : Option Addr} {c n : Nat} {xs : List Value} (h : SeqAt w (.slice A n c) xs) (hb : Below w.heap.size w w') {k : Nat} {u : Value} (hk : xs[k]? = some u) :
  ∃ b off, A = some ⟨b, off, none⟩ ∧ b < w.heap.size ∧ w'.cell? ⟨b, off + k, none⟩ = some u := by
 obtain ⟨A', c', e, _, _, h3⟩ := h
 injection e with e1 e2 e3
 subst e1
 obtain ⟨b, off, e, hc⟩ := h3 k u hk
 have hl := World.block_lt_of_cell? w _ hc
 exact ⟨b, off, e, hl, (hb.cell (p := ⟨b, off + k, none⟩) hl).trans hc⟩
theorem below_drewN {B : Nat} {a w : World} (h : Below B a w) (n : Nat) : Below B a (w.drewN n) := ⟨h.os, h.tape, h.output, h.size, h.block⟩
theorem keep_callS {P : Program} {n : Nat} {args : Array Value} {w w0 : World} {B : Nat} {F : World → Prop} {v : Value} (hF : ∀ a b, Below a.heap.size a b → F a → F b)
  (hc : Calls P n args w fun e w' => e = .returned v ∧ Below w.heap.size w w') (h : F w ∧ Below B w0 w ∧ B ≤ w.heap.size) :
  Calls P n args w fun e w' => e = .returned v ∧ (F w' ∧ Below B w0 w' ∧ B ≤ w'.heap.size) :=
 hc.mono fun e w' q => ⟨q.1, hF _ _ q.2 h.1, h.2.1.trans (q.2.mono h.2.2), Nat.le_trans h.2.2 q.2.size⟩
theorem cell_later {w w' : World} {p : Addr} {v : Value} (h : w.cell? p = some v) (hb : Below w.heap.size w w') : w'.cell? p = some v := (hb.cell (World.block_lt_of_cell? w _ h)).trans h
theorem SeqAt.later_ {w w' : World} {v : Value} {xs : List Value} (h : SeqAt w v xs) (hb : Below w.heap.size w w') : SeqAt w' v xs := by
 obtain ⟨A, c, e, h1, h2, h3⟩ := h
 refine ⟨A, c, e, h1, h2, fun k u hu => ?_⟩
 obtain ⟨b, off, e2, hc⟩ := h3 k u hu
 exact ⟨b, off, e2, cell_later hc hb⟩
theorem Lies.drew {w : World} {g : Nat} {t : TypeId} {cs : Array Value} (h : Lies w g t cs) : Lies w.drew g t cs := h
theorem owns_drew {w : World} {B : Nat} {e : TypeId} {size n : Nat} {v : Value} {xs : List Value} (h : w.ownsRow B e size v n xs) : w.drew.ownsRow B e size v n xs := h
theorem Kept.drew (S : Nat → Prop) (w : World) : Kept S w w.drew := Kept.drewN S w 1
def SeqS (w : World) (sz : Nat) (v : Value) (n : Nat) (xs : List Value) : Prop :=
 xs.length = n * sz ∧ ∃ A c, v = .slice A n c ∧ n ≤ c ∧ c ≤ maxLen ∧ (A = none → c = 0) ∧ ∀ k u, xs[k]? = some u → ∃ b off, A = some ⟨b, off, none⟩ ∧ w.cell? ⟨b, off + k, none⟩ = some u
section
variable {w w' : World} {B : Nat} {e : TypeId} {sz n : Nat} {v : Value} {xs : List Value}
theorem SeqS.of_owns (h : w.ownsRow B e sz v n xs) : SeqS w sz v n xs := by
 refine ⟨h.1, ?_⟩
 rcases owns_row h with ⟨rfl, h0, rfl⟩ | ⟨r, cap, cur, rfl, _, _, h1, h2⟩
 ·subst h0
  exact ⟨none, 0, rfl, Nat.le_refl _, by unfold maxLen; omega, fun _ => rfl, fun k u hu => by simp at hu⟩
 ·exact ⟨_, cap, rfl, h1, h2, (fun h => by cases h), fun k u hu => ⟨r, 0, rfl, by
   have := h.cells (g := r) rfl k u hu
   rw [addr_add] at this
   rw [Nat.zero_add]; exact this⟩⟩
theorem SeqS.later (h : SeqS w sz v n xs) (hb : Below w.heap.size w w') : SeqS w' sz v n xs := by
 obtain ⟨h1, A, c, rfl, h2, h3, h0, h4⟩ := h
 refine ⟨h1, A, c, rfl, h2, h3, h0, fun k u hu => ?_⟩
 obtain ⟨b, off, rfl, hc⟩ := h4 k u hu
 exact ⟨b, off, rfl, (hb.cell (p := ⟨b, off + k, none⟩) (World.block_lt_of_cell? w _ hc)).trans hc⟩
theorem SeqS.elem (h : SeqS w sz v n xs) {i : Nat} (hi : i < n) (hz : 0 < sz) : ∃ b off c, v = .slice (some ⟨b, off, none⟩) n c ∧ n ≤ c ∧ c ≤ maxLen ∧ ∀ j u, j < sz → xs[i * sz + j]? = some u → w.cell? ⟨b, off + i * sz + j, none⟩ = some u := by
 obtain ⟨h1, A, c, rfl, h2, h3, _, h4⟩ := h
 have hl : i * sz < xs.length := by rw [h1]; exact Nat.mul_lt_mul_of_pos_right hi hz
 obtain ⟨b, off, rfl, _⟩ := h4 (i * sz) _ (List.getElem?_eq_getElem hl)
 refine ⟨b, off, c, rfl, h2, h3, fun j u hj hu => ?_⟩
 obtain ⟨b', off', e, hc⟩ := h4 _ u hu
 cases e
 rw [Nat.add_assoc]; exact hc
theorem SeqS.form (h : SeqS w sz v n xs) : ∃ A c, v = .slice A n c ∧ n ≤ c ∧ c ≤ maxLen ∧ (A = none → c = 0) := by
 obtain ⟨h1, A, c, rfl, h2, h3, h0, _⟩ := h
 exact ⟨A, c, rfl, h2, h3, h0⟩
theorem owns_openS (h : w.ownsRow B e sz v n xs) (hn : 0 < n) : ∃ g cap, v = .slice (some ⟨g, 0, none⟩) n cap ∧ B ≤ g ∧ g < w.heap.size ∧ n ≤ cap ∧ cap ≤ maxLen := by
 rcases owns_row h with ⟨_, h0, _⟩ | ⟨r, cap, cur, rfl, hb, hl, h1, h2⟩
 ·omega
 ·exact ⟨r, cap, rfl, hb, hl.lt, h1, h2⟩
end
theorem append_oneS {P : Program} {ops : Array Oper} {rest : List Oper} {o : Oper} {a : Act} {Q : Exit → Act → World → Prop} (w : World) (x : Array Value) (sz : Nat)
  (hg : o.guard = none) (s y : Operand) (t : TypeId) (hop : o.op = Op.call { callee := Callee.builtin Builtin.append, args := #[s, y], argTypes := #[t, t] })
  (base : Nat) (e : TypeId) (z : Value) (bytes : Nat) (ht : P.underlying t = some (.slice e)) (hi : (P.info? e).map (fun i => (i.zero, i.size, i.bytes)) = some (some z, sz, bytes))
  (hzs : z.cells.size = sz) (hsz : 0 < sz) (hxs : x.size = sz) (hx1 : ∀ u ∈ x.toList, u.oneCell' = true)
  (v : Value) (n : Nat) (xs : List Value) (hs : a.eval s = v) (hown : w.ownsRow base e sz v n xs) (hy : a.eval y = .slice (some ⟨w.heap.size, 0, none⟩) 1 1)
  (b1 : n + 1 ≤ maxLen) (b2 : (n + 1) * bytes ≤ 140737488355328) (b3 : base ≤ w.heap.size)
  (hK : ∀ v' w', w'.ownsRow base e sz v' (n + 1) (xs ++ x.toList) → Below base w w' → (w.alloc (.cells x e)).grownBy w' v.ownBlock → wpList P ops Q rest (a.put o.dst v') w') :
  wpList P ops Q (o :: rest) a (w.alloc (.cells x e)) := by
 obtain ⟨i0, hi, hz0, hz1, hz2⟩ := info_parts hi
 refine wpList_append_own _ hg s y t hop base e i0 z sz bytes ht hi hz0 hz1 hz2 hzs hsz v n xs hs (hown.alloc _) ⟨w.heap.size, 0, none⟩ 1 1 x.toList hy (by simp [hxs]) ?_ hx1 b1 b2 (by simp; omega) ?_
 ·intro j u hj
  rw [addr_add, (Lies.made w e x).cell j]
  simpa using hj
 ·intro v' w' ho hgr _
  exact hK v' w' ho (below_of_grown hown b3 hgr) hgr
def cells2 (l : List (Nat × Nat)) : List Value := l.flatMap fun p => [Value.int .u64 (p.1 : Int), Value.int .u64 (p.2 : Int)]
theorem cells2_length (l : List (Nat × Nat)) : (cells2 l).length = l.length * 2 := by
 induction l with
 | nil => rfl
 | cons p l ih => simp only [cells2, List.flatMap_cons, List.length_append, List.length_cons, List.length_nil] at *; omega
theorem cells2_append (l m : List (Nat × Nat)) : cells2 (l ++ m) = cells2 l ++ cells2 m := by simp [cells2]
theorem cells2_get : ∀ {l : List (Nat × Nat)} {i : Nat} {p : Nat × Nat}, l[i]? = some p → (cells2 l)[i * 2 + 0]? = some (Value.int .u64 (p.1 : Int)) ∧ (cells2 l)[i * 2 + 1]? = some (Value.int .u64 (p.2 : Int))
 | q :: l, 0, p, h => by simp at h; subst h; exact ⟨rfl, rfl⟩
 | q :: l, i + 1, p, h => by
  have := cells2_get (l := l) (i := i) (p := p) (by simpa using h)
  rw [show (i + 1) * 2 + 0 = (i * 2 + 0) + 1 + 1 by omega, show (i + 1) * 2 + 1 = (i * 2 + 1) + 1 + 1 by omega]
  exact this
theorem cells2_set (l : List (Nat × Nat)) (a b c : Nat) : (cells2 (l ++ [(a, b)])).set (l.length * 2 + 1) (Value.int .u64 (c : Int)) = cells2 (l ++ [(a, c)]) := by
 rw [cells2_append, List.set_append_right _ _ (by rw [cells2_length]; omega), cells2_length, show l.length * 2 + 1 - l.length * 2 = 1 by omega, cells2_append]
 rfl
theorem own_last {w : World} {B : Nat} {e : TypeId} {g n cap x y : Nat} {d : List (Nat × Nat)} (h : w.ownsRow B e 2 (.slice (some ⟨g, 0, none⟩) n cap) n (cells2 (d ++ [(x, y)]))) (hn : n = d.length + 1) :
  w.cell? ⟨g, d.length * 2, none⟩ = some (.int .u64 (x : Int)) ∧ w.cell? ⟨g, d.length * 2 + 1, none⟩ = some (.int .u64 (y : Int)) ∧ w.frozen? ⟨g, d.length * 2 + 1, none⟩ = false ∧
   ∀ z : Nat, (w.setCell ⟨g, d.length * 2 + 1, none⟩ (.int .u64 (z : Int))).ownsRow B e 2 (.slice (some ⟨g, 0, none⟩) n cap) n (cells2 (d ++ [(x, z)])) := by
 obtain ⟨h1, h2⟩ := cells2_get (l := d ++ [(x, y)]) (i := d.length) (p := (x, y)) (by simp)
 refine ⟨?_, ?_, h.frozenAt _, fun z => ?_⟩
 ·rw [h.cellAt _ (by omega), ← h1, Nat.add_zero]
 ·rw [h.cellAt _ (by omega), h2]
 ·have := (h.stored (d.length * 2 + 1) (.int .u64 (z : Int))).1
  rwa [cells2_set] at this
theorem SeqS.drew {w : World} {sz n : Nat} {v : Value} {xs : List Value} (h : SeqS w sz v n xs) : SeqS w.drew sz v n xs := h
theorem append_argS {P : Program} {ops : Array Oper} {rest : List Oper} {o : Oper} {a : Act} {Q : Exit → Act → World → Prop} (w : World) (sz : Nat)
  (hg : o.guard = none) (s y : Operand) (t : TypeId) (hop : o.op = Op.call { callee := Callee.builtin Builtin.append, args := #[s, y], argTypes := #[t, t] })
  (base : Nat) (e : TypeId) (z : Value) (bytes : Nat) (ht : P.underlying t = some (.slice e)) (hi : (P.info? e).map (fun i => (i.zero, i.size, i.bytes)) = some (some z, sz, bytes))
  (hzs : z.cells.size = sz) (hsz : 0 < sz)
  (v : Value) (n : Nat) (ys : List Value) (hs : a.eval s = v) (hown : w.ownsRow base e sz v n ys) (A : Option Addr) (len cap : Nat) (hy : a.eval y = .slice A len cap)
  (xs : List Value) (hx : SeqS w sz (.slice A len cap) len xs) (h1 : ∀ u ∈ xs, u.oneCell' = true)
  (b1 : n + len ≤ maxLen) (b2 : (n + len) * bytes ≤ 140737488355328) (b3 : base ≤ w.heap.size)
  (hK : ∀ v' w', w'.ownsRow base e sz v' (n + len) (ys ++ xs) → Below base w w' → w.grownBy w' v.ownBlock → wpList P ops Q rest (a.put o.dst v') w') :
  wpList P ops Q (o :: rest) a w := by
 obtain ⟨i0, hi, hz0, hz1, hz2⟩ := info_parts hi
 obtain ⟨hl, A', c', e1, hlc, hcm, h0, hcell⟩ := hx
 simp only [Value.slice.injEq, true_and] at e1
 obtain ⟨rfl, rfl⟩ := e1
 cases A with
 | none =>
  have hc0 := h0 rfl
  subst hc0
  obtain rfl : len = 0 := by omega
  have hx0 : xs = [] := List.length_eq_zero_iff.1 (by simpa using hl)
  subst hx0
  refine wpList_append_own_none hg s y t hop base e i0 sz ht hi v n ys hs hown hy ?_
  exact hK v w (by simpa using hown) (Below.refl _ _) ⟨rfl, rfl, rfl, Nat.le_refl _, fun _ _ _ => rfl⟩
 | some ad =>
  refine wpList_append_own _ hg s y t hop base e i0 z sz bytes ht hi hz0 hz1 hz2 hzs hsz v n ys hs hown ad len cap xs hy hl ?_ h1 b1 b2 b3 ?_
  ·intro j u hj
   obtain ⟨b, off, he, hc⟩ := hcell j u hj
   injection he with he
   subst he
   rw [addr_plus]; exact hc
  ·intro v' w' ho hgr _
   exact hK v' w' ho ((Below.refl _ _).grown hgr b3 (fun k hk => (hown.lt k hk).1)) hgr
section
variable {α : Type} {f : α → List Value} {sz : Nat}
def rowsOf (f : α → List Value) (l : List α) : List Value := l.flatMap f
theorem rowsOf_length (hf : ∀ x, (f x).length = sz) (l : List α) : (rowsOf f l).length = l.length * sz := by
 induction l with
 | nil => simp [rowsOf]
 | cons a l ih => simp only [rowsOf, List.flatMap_cons, List.length_append, List.length_cons, Nat.add_mul, hf] at *; omega
theorem rowsOf_append (l m : List α) : rowsOf f (l ++ m) = rowsOf f l ++ rowsOf f m := by simp [rowsOf]
theorem rowsOf_one (a : α) : rowsOf f [a] = f a := by simp [rowsOf]
theorem rowsOf_cons (a : α) (l : List α) : rowsOf f (a :: l) = f a ++ rowsOf f l := by simp [rowsOf]
theorem rowsOf_get (hf : ∀ x, (f x).length = sz) : ∀ {l : List α} {i : Nat} {x : α} (_ : l[i]? = some x) {j : Nat} (_ : j < sz), (rowsOf f l)[i * sz + j]? = (f x)[j]?
 | a :: l, 0, x, h, j, hj => by
  simp at h; subst h
  rw [rowsOf_cons, Nat.zero_mul, Nat.zero_add, List.getElem?_append_left (by rw [hf]; exact hj)]
 | a :: l, i + 1, x, h, j, hj => by
  rw [rowsOf_cons, List.getElem?_append_right (by rw [hf, Nat.add_mul]; omega), hf, show (i + 1) * sz + j - sz = i * sz + j by rw [Nat.add_mul]; omega]
  exact rowsOf_get hf (by simpa using h) hj
theorem rowsOf_take (hf : ∀ x, (f x).length = sz) (l : List α) (k : Nat) : rowsOf f (l.take k) = (rowsOf f l).take (k * sz) := by
 induction k generalizing l with
 | zero => simp [rowsOf]
 | succ k ih =>
  cases l with
  | nil => simp [rowsOf]
  | cons a l => rw [List.take_succ_cons, rowsOf_cons, rowsOf_cons, ih, Nat.add_mul, Nat.one_mul, Nat.add_comm, List.take_append, hf, List.take_of_length_le (l := f a) (by rw [hf]; omega), Nat.add_sub_cancel_left]
theorem rowsOf_set1 (hf : ∀ x, (f x).length = sz) : ∀ {l : List α} {i : Nat} {x y : α} {j : Nat} {u : Value} (_ : l[i]? = some x) (_ : j < sz) (_ : f y = (f x).set j u), (rowsOf f l).set (i * sz + j) u = rowsOf f (l.set i y)
 | a :: l, 0, x, y, j, u, h, hj, hy => by
  simp at h; subst h
  rw [rowsOf_cons, Nat.zero_mul, Nat.zero_add, List.set_append_left _ _ (by rw [hf]; exact hj), ← hy, List.set_cons_zero, rowsOf_cons]
 | a :: l, i + 1, x, y, j, u, h, hj, hy => by
  rw [rowsOf_cons, List.set_append_right _ _ (by rw [hf, Nat.add_mul]; omega), hf, show (i + 1) * sz + j - sz = i * sz + j by rw [Nat.add_mul]; omega, rowsOf_set1 hf (by simpa using h) hj hy, List.set_cons_succ, rowsOf_cons]
theorem rowsOf_mem {l : List α} {u : Value} (h : u ∈ rowsOf f l) : ∃ x ∈ l, u ∈ f x := List.mem_flatMap.1 h
theorem SeqS.at_ {w : World} {A : Option Addr} {n c : Nat} {l : List α} (hf : ∀ x, (f x).length = sz) (hs : 0 < sz) (h : SeqS w sz (.slice A n c) n (rowsOf f l)) {k : Nat} {x : α} (hx : l[k]? = some x) :
  ∃ b off, A = some ⟨b, off, none⟩ ∧ b < w.heap.size ∧ ∀ j u, j < sz → (f x)[j]? = some u → w.cell? ⟨b, off + k * sz + j, none⟩ = some u := by
 have hk : k < n := by
  have h1 := h.1
  rw [rowsOf_length hf] at h1
  have := Nat.eq_of_mul_eq_mul_right hs h1
  rw [← this]; exact (List.getElem?_eq_some_iff.1 hx).1
 obtain ⟨b, off, c', hA, _, _, hc⟩ := h.elem (i := k) hk hs
 simp only [Value.slice.injEq] at hA
 obtain ⟨rfl, _, _⟩ := hA
 have hg := fun j u hj hu => hc j u hj (by rw [rowsOf_get hf hx hj]; exact hu)
 refine ⟨b, off, rfl, ?_, hg⟩
 have hl := hf x
 exact World.block_lt_of_cell? w _ (hg 0 _ hs (List.getElem?_eq_getElem (by omega)))
theorem SeqS.len_ {w : World} {v : Value} {n : Nat} {l : List α} (hf : ∀ x, (f x).length = sz) (hs : 0 < sz) (h : SeqS w sz v n (rowsOf f l)) : l.length = n := by
 have h1 := h.1
 rw [rowsOf_length hf] at h1
 exact Nat.eq_of_mul_eq_mul_right hs h1
end
theorem owned_made (w : World) (e : TypeId) (z : Value) (hz : z.cells = #[z]) (n : Nat) (hn : n ≤ maxLen) :
  (w.alloc (.cells (madeCells #[z] n) e)).ownsRow w.heap.size e 1 (.slice (some ⟨w.heap.size, 0, none⟩) n n) n (List.replicate n z) := by
 have := World.ownsRow_lit (base := w.heap.size) (e := e) (size := 1) w (madeCells #[z] n) n (Nat.le_refl _) hn (by simp [size_madeCells])
 have e2 := zeros_made z hz n
 rw [hz, Nat.mul_one] at e2
 rwa [e2] at this
theorem owned_below {w w' : World} {B : Nat} {e : TypeId} {size n : Nat} {v : Value} {xs : List Value} (h : w.ownsRow B e size v n xs) (k : Below w.heap.size w w') : w'.ownsRow B e size v n xs :=
 owns_kept h (Kept.of_below k) (fun _ _ _ _ hf => hf)
theorem owned_drewN {w : World} {B : Nat} {e : TypeId} {size n : Nat} {v : Value} {xs : List Value} (h : w.ownsRow B e size v n xs) (k : Nat) : (w.drewN k).ownsRow B e size v n xs := h
theorem owned_set {w : World} {B : Nat} {e : TypeId} {sz n cap r k : Nat} {xs : List Value} {u : Value} (h : w.ownsRow B e sz (.slice (some ⟨r, 0, none⟩) n cap) n xs) (hk : k < xs.length) :
  (w.setCell ⟨r, k, none⟩ u).ownsRow B e sz (.slice (some ⟨r, 0, none⟩) n cap) n (xs.set k u) := (h.stored k u).1
theorem made_rows {α : Type} {f : α → List Value} {sz : Nat} (hf : ∀ x, (f x).length = sz) (hs : 0 < sz) (x : α) (zc : Array Value) (hz : zc.toList = f x) (n : Nat) : (madeCells zc (n * sz)).toList = rowsOf f (List.replicate n x) := by
 have hzn : zc.size = sz := by rw [← Array.length_toList, hz, hf]
 apply List.ext_getElem?
 intro k
 by_cases hk : k < n * sz
 ·have hi : k / sz < n := (Nat.div_lt_iff_lt_mul hs).2 hk
  have hj : k % sz < sz := Nat.mod_lt _ hs
  have hkk : k / sz * sz + k % sz = k := by rw [Nat.mul_comm]; exact Nat.div_add_mod k sz
  have hg := rowsOf_get hf (l := List.replicate n x) (i := k / sz) (x := x) (by rw [List.getElem?_replicate, if_pos hi]) hj
  rw [hkk] at hg
  rw [hg, ← hz]
  unfold madeCells
  simp only [Array.toList_map, List.getElem?_map, Array.toList_range, List.getElem?_range hk, Option.map_some, hzn]
  rw [Array.getElem?_toList, Array.getElem?_eq_getElem (by omega), getElem!_pos zc _ (by omega)]
 ·rw [List.getElem?_eq_none (by rw [Array.length_toList, size_madeCells]; omega), List.getElem?_eq_none (by rw [rowsOf_length hf, List.length_replicate]; omega)]
theorem run_make_rowS {P : Program} (t e : TypeId) (z : Value) (size bytes : Nat) (ht : P.underlying t = some (.slice e)) (hinfo : (P.info? e).map (fun i => (i.zero, i.size, i.bytes)) = some (some z, size, bytes))
  (kl kc : IntKind) (n : Nat) (hbytes : bytes * n ≤ 281474976710656) (hn : n ≤ 1099511627776) (w : World) :
  (Instr.makeSlice t (.int kl (n : Int)) (.int kc (n : Int))).run P w = .ok (.slice (some ⟨w.heap.size, 0, none⟩) n n) (w.alloc (.cells (madeCells z.cells (n * size)) e)) := by
 obtain ⟨i, hi, hz0, hz1, hz2⟩ := info_parts hinfo
 have hb' : (i.bytes : Int) * (n : Int) ≤ 281474976710656 := by
  have h : ((i.bytes * n : Nat) : Int) ≤ 281474976710656 := by rw [hz2]; omega
  rwa [Int.natCast_mul] at h
 have hr := run_make (P := P) w t e i z ht hi hz0 kl kc n n (by omega) (Int.le_refl _) hb' (by omega)
 simp only [Int.toNat_natCast, hz1] at hr
 exact hr
theorem owned_rows {α : Type} {f : α → List Value} {sz : Nat} (hf : ∀ x, (f x).length = sz) (hs : 0 < sz) (w : World) (e : TypeId) (x : α) (zc : Array Value) (hz : zc.toList = f x) (n : Nat) (hn : n ≤ maxLen) :
  (w.alloc (.cells (madeCells zc (n * sz)) e)).ownsRow w.heap.size e sz (.slice (some ⟨w.heap.size, 0, none⟩) n n) n (rowsOf f (List.replicate n x)) := by
 have := World.ownsRow_lit (base := w.heap.size) (e := e) (size := sz) w (madeCells zc (n * sz)) n (Nat.le_refl _) hn (size_madeCells _ _)
 rwa [made_rows hf hs x zc hz n] at this
structure Ev where
 th : Int
 kd : Int
 rg : Int
 tk : Nat
 vl : Nat
instance : Inhabited Ev := ⟨⟨0, 0, 0, 0, 0⟩⟩
instance : DecidableEq Ev := fun a b => if h : a.th = b.th ∧ a.kd = b.kd ∧ a.rg = b.rg ∧ a.tk = b.tk ∧ a.vl = b.vl then isTrue (by cases a; cases b; simp_all) else isFalse (fun e => h (by rw [e]; simp))
def evF (x : Ev) : List Value := [.int .i64 x.th, .int .i64 x.kd, .int .i64 x.rg, .int .u64 (x.tk : Int), .int .u64 (x.vl : Int)]
abbrev evC (x : Ev) : Array Value := #[.int .i64 x.th, .int .i64 x.kd, .int .i64 x.rg, .int .u64 (x.tk : Int), .int .u64 (x.vl : Int)]
theorem evF_length (x : Ev) : (evF x).length = 5 := rfl
def evI64 (z : Int) : Prop := -9223372036854775808 ≤ z ∧ z ≤ 9223372036854775807
def evOk (x : Ev) : Prop := evI64 x.th ∧ evI64 x.kd ∧ evI64 x.rg ∧ x.tk ≤ 18446744073709551615 ∧ x.vl ≤ 18446744073709551615
abbrev EvsAt (w : World) (A : Option Addr) (c : Nat) (l : List Ev) : Prop := SeqS w 5 (.slice A l.length c) l.length (rowsOf evF l)
theorem EvsAt.at_ {w : World} {A : Option Addr} {c : Nat} {l : List Ev} (h : EvsAt w A c l) {i : Nat} {x : Ev} (hx : l[i]? = some x) : ∃ b off, A = some ⟨b, off, none⟩ ∧ b < w.heap.size ∧ ∀ j u, j < 5 → (evF x)[j]? = some u → w.cell? ⟨b, off + i * 5 + j, none⟩ = some u :=
 SeqS.at_ evF_length (by decide) h hx
theorem evHeld : Tryz.prog.stoodInHeld 36 = false := by kernel_rfl
theorem evGuard : Tryz.prog.eqGuardType Tryz.prog.depth 36 = false := by kernel_rfl
theorem evNeq (x y : Ev) (w : World) : (binOp .neq 36 (.agg (evC x)) (.agg (evC y))).run Tryz.prog w = .ok (.bool (!(decide (x = y)))) w := by
 have h1 := evHeld
 rw [run_neq_struct, run_equalIn_agg w 9999 _ _ _ (by simp only [Program.fieldsOf, Tryz.underlying36]) h1]
 simp only [Program.fieldsOf, Tryz.underlying36]
 obtain ⟨a, b, c, d, e⟩ := x
 obtain ⟨a', b', c', d', e'⟩ := y
 simp [go_sem]
 by_cases e1 : a = a'
 ·by_cases e2 : b = b'
  ·by_cases e3 : c = c'
   ·by_cases e4 : d = d'
    ·by_cases e5 : e = e'
     ·simp [e1, e2, e3, e4, e5]
     ·simp [e1, e2, e3, e4, e5]; try omega
    ·simp [e1, e2, e3, e4]; try omega
   ·simp [e1, e2, e3]; try omega
  ·simp [e1, e2]; try omega
 ·simp [e1]; try omega
def kindB (k : Int) : Bool := decide (1 ≤ k) && decide (k ≤ 15)
def ticketB (k : Int) : Bool := (k == 1) || ((k == 2) || ((k == 3) || ((k == 4) || (k == 13))))
def valueB (k : Int) : Bool := (k == 8) || ((k == 9) || ((k == 10) || (k == 12)))
def ringB (k : Int) : Bool := ticketB k || ((k == 5) || ((k == 6) || (k == 7)))
theorem isKind_any (k : Int) (w : World) : Calls Tryz.prog 62 #[.int .i64 k] w fun e w' => e = .returned (.bool (kindB k)) ∧ w = w' := by
 unfold kindB
 by_cases h : (1 : Int) ≤ k
 ·have e1 : decide ((1 : Int) ≤ k) = true := by simpa using h
  go_enter Tryz.func62, Tryz.ntmps62
  go_wp2
  go_ret
  exact ⟨by simp [h], rfl⟩
 ·have e1 : decide ((1 : Int) ≤ k) = false := by simpa using h
  go_enter Tryz.func62, Tryz.ntmps62
  go_wp2
  go_ret
  exact ⟨by simp [h], rfl⟩
theorem hasTicket_any (k : Int) (w : World) : Calls Tryz.prog 64 #[.int .i64 k] w fun e w' => e = .returned (.bool (ticketB k)) ∧ w = w' := by
 have hd : Hid (ticketB k = ((k == 1) || ((k == 2) || ((k == 3) || ((k == 4) || (k == 13)))))) := rfl
 generalize ticketB k = tb at *
 obtain ⟨a1, h1⟩ : ∃ a, (k == 1) = a := ⟨_, rfl⟩
 obtain ⟨a2, h2⟩ : ∃ a, (k == 2) = a := ⟨_, rfl⟩
 obtain ⟨a3, h3⟩ : ∃ a, (k == 3) = a := ⟨_, rfl⟩
 obtain ⟨a4, h4⟩ : ∃ a, (k == 4) = a := ⟨_, rfl⟩
 obtain ⟨a5, h5⟩ : ∃ a, (k == 13) = a := ⟨_, rfl⟩
 rw [h1, h2, h3, h4, h5] at hd
 cases a1 <;> cases a2 <;> cases a3 <;> cases a4 <;> cases a5
 all_goals
  obtain rfl := hd.out
  clear hd
  go_enter Tryz.func64, Tryz.ntmps64
  go_wp2
  go_ret
  exact ⟨rfl, rfl⟩
theorem hasValue_any (k : Int) (w : World) : Calls Tryz.prog 65 #[.int .i64 k] w fun e w' => e = .returned (.bool (valueB k)) ∧ w = w' := by
 have hd : Hid (valueB k = ((k == 8) || ((k == 9) || ((k == 10) || (k == 12))))) := rfl
 generalize valueB k = tb at *
 obtain ⟨a1, h1⟩ : ∃ a, (k == 8) = a := ⟨_, rfl⟩
 obtain ⟨a2, h2⟩ : ∃ a, (k == 9) = a := ⟨_, rfl⟩
 obtain ⟨a3, h3⟩ : ∃ a, (k == 10) = a := ⟨_, rfl⟩
 obtain ⟨a4, h4⟩ : ∃ a, (k == 12) = a := ⟨_, rfl⟩
 rw [h1, h2, h3, h4] at hd
 cases a1 <;> cases a2 <;> cases a3 <;> cases a4
 all_goals
  obtain rfl := hd.out
  clear hd
  go_enter Tryz.func65, Tryz.ntmps65
  go_wp2
  go_ret
  exact ⟨rfl, rfl⟩
theorem rings_any (k : Int) (w : World) : Calls Tryz.prog 63 #[.int .i64 k] w fun e w' => e = .returned (.bool (ringB k)) ∧ w = w' := by
 have hd : Hid (ringB k = (ticketB k || ((k == 5) || ((k == 6) || (k == 7))))) := rfl
 have HT := Lib.hid (hasTicket_any k w)
 generalize ringB k = rb at *
 generalize ticketB k = tb at *
 obtain ⟨a1, h1⟩ : ∃ a, (k == 5) = a := ⟨_, rfl⟩
 obtain ⟨a2, h2⟩ : ∃ a, (k == 6) = a := ⟨_, rfl⟩
 obtain ⟨a3, h3⟩ : ∃ a, (k == 7) = a := ⟨_, rfl⟩
 rw [h1, h2, h3] at hd
 cases tb <;> cases a1 <;> cases a2 <;> cases a3
 all_goals
  obtain rfl := hd.out
  clear hd
  go_enter Tryz.func63, Tryz.ntmps63
  go_wp2_with fail
  refine HT.out.mono ?_
  rintro e w2 ⟨rfl, rfl⟩
  clear HT
  go_wp2
  go_ret
  exact ⟨rfl, rfl⟩
theorem ret_str {a b : ByteArray} (h : a = b) : Ending.returned (.string a) = .returned (.string b) := by rw [h]
def nmsB (k : Int) : ByteArray := if ticketB k = true then ⟨#[82, 84]⟩ else if ringB k = true then ⟨#[82]⟩ else if valueB k = true then ⟨#[86]⟩ else ⟨#[]⟩
theorem kinds_apart (k : Int) : (ticketB k = true ∧ ringB k = true ∧ valueB k = false) ∨ (ticketB k = false ∧ ringB k = true ∧ valueB k = false) ∨ (ticketB k = false ∧ ringB k = false ∧ valueB k = true) ∨ (ticketB k = false ∧ ringB k = false ∧ valueB k = false) := by
 unfold ringB
 cases ht : ticketB k with
 | true =>
  refine .inl ⟨rfl, rfl, ?_⟩
  unfold ticketB at ht
  simp only [Bool.or_eq_true, beq_iff_eq] at ht
  unfold valueB
  simp only [Bool.or_eq_false_iff, beq_eq_false_iff_ne]
  omega
 | false =>
  cases hr : ((k == 5) || ((k == 6) || (k == 7))) with
  | true =>
   refine .inr (.inl ⟨rfl, rfl, ?_⟩)
   simp only [Bool.or_eq_true, beq_iff_eq] at hr
   unfold valueB
   simp only [Bool.or_eq_false_iff, beq_eq_false_iff_ne]
   omega
  | false =>
   cases hv : valueB k with
   | true => exact .inr (.inr (.inl ⟨rfl, rfl, rfl⟩))
   | false => exact .inr (.inr (.inr ⟨rfl, rfl, rfl⟩))
theorem rfNames (k : Int) (w : World) : Calls Tryz.prog 31 #[.int .i64 k] w fun e w' => e = .returned (.string (nmsB k)) ∧ w = w' := by
 have hd : Hid (nmsB k = if ticketB k = true then ⟨#[82, 84]⟩ else if ringB k = true then ⟨#[82]⟩ else if valueB k = true then ⟨#[86]⟩ else ⟨#[]⟩) := rfl
 by_cases hk : 1 ≤ k ∧ k ≤ 13
 ·have hc : k = 1 ∨ k = 2 ∨ k = 3 ∨ k = 4 ∨ k = 5 ∨ k = 6 ∨ k = 7 ∨ k = 8 ∨ k = 9 ∨ k = 10 ∨ k = 11 ∨ k = 12 ∨ k = 13 := by omega
  clear hk
  rcases hc with rfl | rfl | rfl | rfl | rfl | rfl | rfl | rfl | rfl | rfl | rfl | rfl | rfl
  all_goals
   clear hd
   go_enter Tryz.func31, Tryz.ntmps31
   go_wp2
   go_ret
   exact ⟨ret_str (by decide +kernel), rfl⟩
 ·have h1 : (k == 1) = false := by rw [beq_eq_false_iff_ne]; omega
  have h2 : (k == 2) = false := by rw [beq_eq_false_iff_ne]; omega
  have h3 : (k == 3) = false := by rw [beq_eq_false_iff_ne]; omega
  have h4 : (k == 4) = false := by rw [beq_eq_false_iff_ne]; omega
  have h5 : (k == 5) = false := by rw [beq_eq_false_iff_ne]; omega
  have h6 : (k == 6) = false := by rw [beq_eq_false_iff_ne]; omega
  have h7 : (k == 7) = false := by rw [beq_eq_false_iff_ne]; omega
  have h8 : (k == 8) = false := by rw [beq_eq_false_iff_ne]; omega
  have h9 : (k == 9) = false := by rw [beq_eq_false_iff_ne]; omega
  have h10 : (k == 10) = false := by rw [beq_eq_false_iff_ne]; omega
  have h12 : (k == 12) = false := by rw [beq_eq_false_iff_ne]; omega
  have h13 : (k == 13) = false := by rw [beq_eq_false_iff_ne]; omega
  have HE : Hid (nmsB k = ⟨#[]⟩) := by
   show _ = _
   rw [hd.out]
   unfold ringB ticketB valueB
   rw [h1, h2, h3, h4, h5, h6, h7, h8, h9, h10, h12, h13]
   rfl
  clear hd
  go_enter Tryz.func31, Tryz.ntmps31
  go_wp2
  go_ret
  exact ⟨ret_str HE.out.symm, rfl⟩
def evL : List ByteArray := [⟨#[]⟩, ⟨#[99, 108, 97, 105, 109]⟩, ⟨#[112, 117, 98, 108, 105, 115, 104]⟩, ⟨#[116, 97, 107, 101]⟩, ⟨#[114, 101, 108, 101, 97, 115, 101]⟩, ⟨#[110, 111]⟩, ⟨#[115, 104, 117, 116]⟩, ⟨#[116, 105, 109, 101]⟩, ⟨#[99, 108, 111, 99, 107]⟩, ⟨#[100, 114, 97, 119]⟩, ⟨#[114, 101, 97, 100]⟩, ⟨#[101, 110, 100]⟩, ⟨#[115, 101, 101]⟩, ⟨#[99, 108, 111, 115, 101]⟩, ⟨#[104, 97, 108, 116]⟩, ⟨#[115, 112, 105, 110]⟩]
theorem evL_length : evL.length = 16 := rfl
theorem kindB_iff {k : Int} : kindB k = true ↔ 1 ≤ k ∧ k ≤ 15 := by
 unfold kindB
 simp only [Bool.and_eq_true, decide_eq_true_eq]
def evnB (k : Int) : ByteArray := if kindB k = true then evL.getD k.toNat ByteArray.empty else ByteArray.empty
abbrev evnC : Array Value := #[.string ⟨#[99, 108, 97, 105, 109]⟩, .string ⟨#[112, 117, 98, 108, 105, 115, 104]⟩, .string ⟨#[116, 97, 107, 101]⟩, .string ⟨#[114, 101, 108, 101, 97, 115, 101]⟩, .string ⟨#[110, 111]⟩, .string ⟨#[115, 104, 117, 116]⟩, .string ⟨#[116, 105, 109, 101]⟩, .string ⟨#[99, 108, 111, 99, 107]⟩, .string ⟨#[100, 114, 97, 119]⟩, .string ⟨#[114, 101, 97, 100]⟩, .string ⟨#[101, 110, 100]⟩, .string ⟨#[115, 101, 101]⟩, .string ⟨#[99, 108, 111, 115, 101]⟩, .string ⟨#[104, 97, 108, 116]⟩, .string ⟨#[115, 112, 105, 110]⟩]
theorem evnC_get {n : Nat} (h : n < 15) : evnC[n]? = some (.string (evL.getD (n + 1) ByteArray.empty)) := by
 have h2 : n + 1 < evL.length := by rw [evL_length]; omega
 rw [show evnC = ((evL.drop 1).map Value.string).toArray from rfl, List.getElem?_toArray, List.getElem?_map, List.getElem?_drop, show 1 + n = n + 1 by omega, List.getElem?_eq_getElem h2, List.getD_eq_getElem?_getD, List.getElem?_eq_getElem h2]; rfl
set_option maxHeartbeats 4000000 in
theorem rfEvName (op : Int) (w : World) : Calls Tryz.prog 32 #[.int .i64 op] w fun e w' => e = .returned (.string (evnB op)) ∧ Below w.heap.size w w' := by
 have hb0 : Below w.heap.size w (w.alloc (.cells evnC 9)) := (Below.refl _ _).alloc (Nat.le_refl _) _
 have l0 := Lies.made w 9 evnC
 by_cases h1 : op < 1
 ·have e1 : decide (op < 1) = true := decide_eq_true h1
  have HE : Hid (evnB op = ByteArray.empty) := by
   show _ = _
   unfold evnB
   rw [if_neg (fun h => by have := kindB_iff.1 h; omega)]
  have HB := Lib.hid hb0
  clear h1 hb0 l0
  go_enter Tryz.func32, Tryz.ntmps32
  go_wp2
  go_ret
  exact ⟨by rw [HE.out]; rfl, HB.out⟩
 have e1 : decide (op < 1) = false := decide_eq_false h1
 by_cases h2 : 15 < op
 ·have e2 : decide (15 < op) = true := decide_eq_true h2
  have HE : Hid (evnB op = ByteArray.empty) := by
   show _ = _
   unfold evnB
   rw [if_neg (fun h => by have := kindB_iff.1 h; omega)]
  have HB := Lib.hid hb0
  clear h1 h2 hb0 l0
  go_enter Tryz.func32, Tryz.ntmps32
  go_wp2
  go_ret
  exact ⟨by rw [HE.out]; rfl, HB.out⟩
 have e2 : decide (15 < op) = false := decide_eq_false h2
 obtain ⟨n, rfl⟩ : ∃ n : Nat, op = (n : Int) + 1 := ⟨(op - 1).toNat, by omega⟩
 have hn : n < 15 := by omega
 have hni : (n : Int) < 15 := by omega
 have HE : Hid (evnB ((n : Int) + 1) = evL.getD (n + 1) ByteArray.empty) := by
  show _ = _
  unfold evnB
  rw [if_pos (show kindB ((n : Int) + 1) = true from kindB_iff.2 (by omega)), show ((n : Int) + 1).toNat = n + 1 by omega]
 have q0 := (l0.cell n).trans (evnC_get hn)
 have q1 := l0.lt
 have HB := Lib.hid hb0
 clear h1 h2 hb0 l0
 go_enter Tryz.func32, Tryz.ntmps32
 go_upto_region 2 with (fail)
 generalize w.alloc (.cells evnC 9) = w1 at *
 go_wp2
 go_ret
 exact ⟨by rw [HE.out]; rfl, HB.out⟩
def rightE (x : Ev) : Bool := kindB x.kd && (decide (0 ≤ x.th) && (decide (x.th < 8) && ((if ringB x.kd = true then decide (0 ≤ x.rg ∧ x.rg < 8) else x.rg == 0) && ((if ticketB x.kd = true then decide (x.tk < 4611686018427387904) else x.tk == 0) && (valueB x.kd || x.vl == 0)))))
def rest15 (x : Ev) : Ev := ⟨x.th, x.kd, if ringB x.kd = true ∧ 0 ≤ x.rg ∧ x.rg < 8 then x.rg else 0, if ticketB x.kd = true ∧ x.tk < 4611686018427387904 then x.tk else 0, if valueB x.kd = true then x.vl else 0⟩
theorem right_rest {x : Ev} (hk : kindB x.kd = true) (h0 : 0 ≤ x.th) (h8 : x.th < 8) : rightE x = decide (rest15 x = x) := by
 obtain ⟨th, kd, rg, tk, vl⟩ := x
 simp only at hk h0 h8
 unfold rightE rest15
 simp only
 rw [hk, decide_eq_true h0, decide_eq_true h8, Bool.eq_iff_iff]
 simp only [Bool.true_and, Bool.and_eq_true, decide_eq_true_eq, Ev.mk.injEq, true_and, Bool.or_eq_true]
 cases ringB kd <;> cases ticketB kd <;> cases valueB kd
 all_goals
  simp only [if_true, if_false, Bool.false_eq_true, false_and, true_and, false_or, true_or, decide_eq_true_eq, beq_iff_eq]
  constructor
  ·rintro ⟨q1, q2, q3⟩
   first
    | (refine ⟨?_, ?_, ?_⟩ <;> first | omega | (split <;> omega) | rfl)
    | (refine ⟨?_, ?_⟩ <;> first | omega | (split <;> omega) | rfl)
  ·rintro ⟨q1, q2, q3⟩
   refine ⟨?_, ?_, ?_⟩
   all_goals first
    | omega
    | (split at q1 <;> omega)
    | (split at q2 <;> omega)
    | trivial
theorem evEql (x y : Ev) (w : World) : (binOp .eql 36 (.agg (evC x)) (.agg (evC y))).run Tryz.prog w = .ok (.bool (decide (x = y))) w := by
 have h1 := evHeld
 rw [run_eql_struct, run_equalIn_agg w 9999 _ _ _ (by simp only [Program.fieldsOf, Tryz.underlying36]) h1]
 simp only [Program.fieldsOf, Tryz.underlying36]
 obtain ⟨a, b, c, d, e⟩ := x
 obtain ⟨a', b', c', d', e'⟩ := y
 simp [go_sem]
 by_cases e1 : a = a'
 ·by_cases e2 : b = b'
  ·by_cases e3 : c = c'
   ·by_cases e4 : d = d'
    ·by_cases e5 : e = e'
     ·simp [e1, e2, e3, e4, e5]
     ·simp [e1, e2, e3, e4, e5]; try omega
    ·simp [e1, e2, e3, e4]; try omega
   ·simp [e1, e2, e3]; try omega
  ·simp [e1, e2]; try omega
 ·simp [e1]; try omega
theorem ev_leaf {x : Ev} {R : Int} {T V : Nat} (hrest : rest15 x = ⟨x.th, x.kd, R, T, V⟩) {D : Bool} (hD : decide (rest15 x = x) = D) (w : World) :
  (binOp .eql 36 (.agg #[.int .i64 x.th, .int .i64 x.kd, .int .i64 R, .int .u64 (T : Int), .int .u64 (V : Int)]) (.agg (evC x))).run Tryz.prog w = .ok (.bool D) w := by
 have h := evEql (rest15 x) x w
 rw [hD, hrest] at h
 exact h
theorem rightE_no {x : Ev} (h : kindB x.kd = false ∨ x.th < 0 ∨ 8 ≤ x.th) : rightE x = false := by
 unfold rightE
 rcases h with h | h | h
 ·rw [h]; rfl
 ·rw [decide_eq_false (p := 0 ≤ x.th) (by omega)]; simp
 ·rw [decide_eq_false (p := x.th < 8) (by omega)]; simp
set_option maxHeartbeats 8000000 in
set_option maxRecDepth 100000 in
theorem right15 (x : Ev) (w : World) : Calls Tryz.prog 34 #[.agg (evC x)] w fun e w' => e = .returned (.bool (rightE x)) ∧ Below w.heap.size w w' := by
 have hb0 : Below w.heap.size w (w.alloc (.cells (evC x) 36)) := (Below.refl _ _).alloc (Nat.le_refl _) _
 have l0 := Lies.made w 36 (evC x)
 have HK := Lib.hid (isKind_any x.kd)
 have HNO := Lib.hid (@rightE_no x)
 have HYES := Lib.hid (@right_rest x)
 have HB := Lib.hid hb0
 have HL := Lib.hid l0
 clear hb0 l0
 by_cases hbad : kindB x.kd = false ∨ x.th < 0 ∨ 8 ≤ x.th
 ·have HE := Lib.hid (HNO.out hbad)
  clear HNO HYES
  have c0 := (HL.out.cell 0).trans (show _ = some (Value.int .i64 x.th) from rfl)
  have c1 := (HL.out.cell 1).trans (show _ = some (Value.int .i64 x.kd) from rfl)
  have cl := HL.out.lt
  have hcs : kindB x.kd = false ∨ (kindB x.kd = true ∧ x.th < 0) ∨ (kindB x.kd = true ∧ ¬ x.th < 0 ∧ 8 ≤ x.th) := by
   cases hk : kindB x.kd with
   | false => exact .inl rfl
   | true =>
    rw [hk] at hbad
    by_cases h0 : x.th < 0
    ·exact .inr (.inl ⟨rfl, h0⟩)
    ·exact .inr (.inr ⟨rfl, h0, by rcases hbad with h | h | h <;> first | cases h | omega⟩)
  clear hbad
  generalize kindB x.kd = kb at *
  rcases hcs with rfl | ⟨rfl, h0⟩ | ⟨rfl, h0, h8⟩
  ·go_enter Tryz.func34, Tryz.ntmps34
   go_wp2_with fail
   generalize w.alloc (.cells (evC x) 36) = w1 at *
   refine (HK.out _).mono ?_
   rintro e w2 ⟨rfl, rfl⟩
   go_wp2
   go_ret
   exact ⟨ret_bool (by rw [HE.out]), HB.out⟩
  ·have e1 : decide (x.th < 0) = true := decide_eq_true h0
   go_enter Tryz.func34, Tryz.ntmps34
   go_wp2_with fail
   generalize w.alloc (.cells (evC x) 36) = w1 at *
   refine (HK.out _).mono ?_
   rintro e w2 ⟨rfl, rfl⟩
   go_wp2
   go_ret
   exact ⟨ret_bool (by rw [HE.out]), HB.out⟩
  ·have e1 : decide (x.th < 0) = false := decide_eq_false h0
   have e2 : decide (8 ≤ x.th) = true := decide_eq_true h8
   go_enter Tryz.func34, Tryz.ntmps34
   go_wp2_with fail
   generalize w.alloc (.cells (evC x) 36) = w1 at *
   refine (HK.out _).mono ?_
   rintro e w2 ⟨rfl, rfl⟩
   go_wp2
   go_ret
   exact ⟨ret_bool (by rw [HE.out]), HB.out⟩
 ·have hk : kindB x.kd = true := by
   cases hk : kindB x.kd with
   | true => rfl
   | false => exact absurd (.inl hk) hbad
  have h0 : 0 ≤ x.th := by
   apply Classical.byContradiction
   intro h
   exact hbad (.inr (.inl (by omega)))
  have h8 : x.th < 8 := by
   apply Classical.byContradiction
   intro h
   exact hbad (.inr (.inr (by omega)))
  obtain ⟨D, hD⟩ : ∃ D, decide (rest15 x = x) = D := ⟨_, rfl⟩
  have hre := HYES.out hk h0 h8
  rw [hD] at hre
  have HRE := Lib.hid hre
  have HD := Lib.hid hD
  have HR := Lib.hid (rings_any x.kd)
  have HT := Lib.hid (hasTicket_any x.kd)
  have HV := Lib.hid (hasValue_any x.kd)
  rw [hk] at HK
  have e1 : decide (x.th < 0) = false := decide_eq_false (by omega)
  have e2 : decide (8 ≤ x.th) = false := decide_eq_false (by omega)
  clear hbad HNO HYES hre hD h0 h8 hk HB HL
  have hka := kinds_apart x.kd
  have HRS : Hid (rest15 x = ⟨x.th, x.kd, if ringB x.kd = true ∧ 0 ≤ x.rg ∧ x.rg < 8 then x.rg else 0, if ticketB x.kd = true ∧ x.tk < 4611686018427387904 then x.tk else 0, if valueB x.kd = true then x.vl else 0⟩) := rfl
  generalize ringB x.kd = rb at *
  generalize ticketB x.kd = tb at *
  generalize valueB x.kd = vb at *
  rcases hka with ⟨rfl, rfl, rfl⟩ | ⟨rfl, rfl, rfl⟩ | ⟨rfl, rfl, rfl⟩ | ⟨rfl, rfl, rfl⟩
  ·by_cases r0 : 0 ≤ x.rg
   ·have r1 : decide (0 ≤ x.rg) = true := decide_eq_true r0
    by_cases r8 : x.rg < 8
    ·have r2 : decide (x.rg < 8) = true := decide_eq_true r8
     by_cases t0 : x.tk < 4611686018427387904
     ·have t1 : decide ((x.tk : Int) < 4611686018427387904) = true := decide_eq_true (by omega)
      have t2 : decide (x.tk < 4611686018427387904) = true := decide_eq_true t0
      have hrest : rest15 x = ⟨x.th, x.kd, x.rg, x.tk, 0⟩ := by (rw [HRS.out]; simp [r0, r8, t0])
      have hq : ∀ w : World, (binOp .eql 36 (.agg #[.int .i64 x.th, .int .i64 x.kd, .int .i64 (x.rg), .int .u64 ((x.tk : Nat) : Int), .int .u64 ((0 : Nat) : Int)]) (.agg (evC x))).run Tryz.prog w = .ok (.bool D) w := fun w => ev_leaf hrest HD.out w
      simp only [Int.natCast_zero] at hq
      have hg := evGuard
      clear hrest
      go_enter Tryz.func34, Tryz.ntmps34
      go_wp2_with fail
      refine (HK.out _).mono ?_
      rintro e w2 ⟨rfl, rfl⟩
      go_wp2_with fail
      refine (HR.out _).mono ?_
      rintro e w2 ⟨rfl, rfl⟩
      go_wp2_with fail
      refine (HT.out _).mono ?_
      rintro e w2 ⟨rfl, rfl⟩
      go_wp2_with fail
      refine (HV.out _).mono ?_
      rintro e w2 ⟨rfl, rfl⟩
      go_wp2
      go_ret
      exact ⟨ret_bool (by rw [HRE.out]), ((Below.refl _ _).alloc (Nat.le_refl _) _).alloc (by simp) _⟩
     ·have t1 : decide ((x.tk : Int) < 4611686018427387904) = false := decide_eq_false (by omega)
      have t2 : decide (x.tk < 4611686018427387904) = false := decide_eq_false t0
      have hrest : rest15 x = ⟨x.th, x.kd, x.rg, 0, 0⟩ := by (rw [HRS.out]; simp [r0, r8, t0])
      have hq : ∀ w : World, (binOp .eql 36 (.agg #[.int .i64 x.th, .int .i64 x.kd, .int .i64 (x.rg), .int .u64 ((0 : Nat) : Int), .int .u64 ((0 : Nat) : Int)]) (.agg (evC x))).run Tryz.prog w = .ok (.bool D) w := fun w => ev_leaf hrest HD.out w
      simp only [Int.natCast_zero] at hq
      have hg := evGuard
      clear hrest
      go_enter Tryz.func34, Tryz.ntmps34
      go_wp2_with fail
      refine (HK.out _).mono ?_
      rintro e w2 ⟨rfl, rfl⟩
      go_wp2_with fail
      refine (HR.out _).mono ?_
      rintro e w2 ⟨rfl, rfl⟩
      go_wp2_with fail
      refine (HT.out _).mono ?_
      rintro e w2 ⟨rfl, rfl⟩
      go_wp2_with fail
      refine (HV.out _).mono ?_
      rintro e w2 ⟨rfl, rfl⟩
      go_wp2
      go_ret
      exact ⟨ret_bool (by rw [HRE.out]), ((Below.refl _ _).alloc (Nat.le_refl _) _).alloc (by simp) _⟩
    ·have r2 : decide (x.rg < 8) = false := decide_eq_false r8
     by_cases t0 : x.tk < 4611686018427387904
     ·have t1 : decide ((x.tk : Int) < 4611686018427387904) = true := decide_eq_true (by omega)
      have t2 : decide (x.tk < 4611686018427387904) = true := decide_eq_true t0
      have hrest : rest15 x = ⟨x.th, x.kd, 0, x.tk, 0⟩ := by (rw [HRS.out]; simp [r0, r8, t0])
      have hq : ∀ w : World, (binOp .eql 36 (.agg #[.int .i64 x.th, .int .i64 x.kd, .int .i64 (0), .int .u64 ((x.tk : Nat) : Int), .int .u64 ((0 : Nat) : Int)]) (.agg (evC x))).run Tryz.prog w = .ok (.bool D) w := fun w => ev_leaf hrest HD.out w
      simp only [Int.natCast_zero] at hq
      have hg := evGuard
      clear hrest
      go_enter Tryz.func34, Tryz.ntmps34
      go_wp2_with fail
      refine (HK.out _).mono ?_
      rintro e w2 ⟨rfl, rfl⟩
      go_wp2_with fail
      refine (HR.out _).mono ?_
      rintro e w2 ⟨rfl, rfl⟩
      go_wp2_with fail
      refine (HT.out _).mono ?_
      rintro e w2 ⟨rfl, rfl⟩
      go_wp2_with fail
      refine (HV.out _).mono ?_
      rintro e w2 ⟨rfl, rfl⟩
      go_wp2
      go_ret
      exact ⟨ret_bool (by rw [HRE.out]), ((Below.refl _ _).alloc (Nat.le_refl _) _).alloc (by simp) _⟩
     ·have t1 : decide ((x.tk : Int) < 4611686018427387904) = false := decide_eq_false (by omega)
      have t2 : decide (x.tk < 4611686018427387904) = false := decide_eq_false t0
      have hrest : rest15 x = ⟨x.th, x.kd, 0, 0, 0⟩ := by (rw [HRS.out]; simp [r0, r8, t0])
      have hq : ∀ w : World, (binOp .eql 36 (.agg #[.int .i64 x.th, .int .i64 x.kd, .int .i64 (0), .int .u64 ((0 : Nat) : Int), .int .u64 ((0 : Nat) : Int)]) (.agg (evC x))).run Tryz.prog w = .ok (.bool D) w := fun w => ev_leaf hrest HD.out w
      simp only [Int.natCast_zero] at hq
      have hg := evGuard
      clear hrest
      go_enter Tryz.func34, Tryz.ntmps34
      go_wp2_with fail
      refine (HK.out _).mono ?_
      rintro e w2 ⟨rfl, rfl⟩
      go_wp2_with fail
      refine (HR.out _).mono ?_
      rintro e w2 ⟨rfl, rfl⟩
      go_wp2_with fail
      refine (HT.out _).mono ?_
      rintro e w2 ⟨rfl, rfl⟩
      go_wp2_with fail
      refine (HV.out _).mono ?_
      rintro e w2 ⟨rfl, rfl⟩
      go_wp2
      go_ret
      exact ⟨ret_bool (by rw [HRE.out]), ((Below.refl _ _).alloc (Nat.le_refl _) _).alloc (by simp) _⟩
   ·have r1 : decide (0 ≤ x.rg) = false := decide_eq_false r0
    by_cases t0 : x.tk < 4611686018427387904
    ·have t1 : decide ((x.tk : Int) < 4611686018427387904) = true := decide_eq_true (by omega)
     have t2 : decide (x.tk < 4611686018427387904) = true := decide_eq_true t0
     have hrest : rest15 x = ⟨x.th, x.kd, 0, x.tk, 0⟩ := by (rw [HRS.out]; simp [r0, t0])
     have hq : ∀ w : World, (binOp .eql 36 (.agg #[.int .i64 x.th, .int .i64 x.kd, .int .i64 (0), .int .u64 ((x.tk : Nat) : Int), .int .u64 ((0 : Nat) : Int)]) (.agg (evC x))).run Tryz.prog w = .ok (.bool D) w := fun w => ev_leaf hrest HD.out w
     simp only [Int.natCast_zero] at hq
     have hg := evGuard
     clear hrest
     go_enter Tryz.func34, Tryz.ntmps34
     go_wp2_with fail
     refine (HK.out _).mono ?_
     rintro e w2 ⟨rfl, rfl⟩
     go_wp2_with fail
     refine (HR.out _).mono ?_
     rintro e w2 ⟨rfl, rfl⟩
     go_wp2_with fail
     refine (HT.out _).mono ?_
     rintro e w2 ⟨rfl, rfl⟩
     go_wp2_with fail
     refine (HV.out _).mono ?_
     rintro e w2 ⟨rfl, rfl⟩
     go_wp2
     go_ret
     exact ⟨ret_bool (by rw [HRE.out]), ((Below.refl _ _).alloc (Nat.le_refl _) _).alloc (by simp) _⟩
    ·have t1 : decide ((x.tk : Int) < 4611686018427387904) = false := decide_eq_false (by omega)
     have t2 : decide (x.tk < 4611686018427387904) = false := decide_eq_false t0
     have hrest : rest15 x = ⟨x.th, x.kd, 0, 0, 0⟩ := by (rw [HRS.out]; simp [r0, t0])
     have hq : ∀ w : World, (binOp .eql 36 (.agg #[.int .i64 x.th, .int .i64 x.kd, .int .i64 (0), .int .u64 ((0 : Nat) : Int), .int .u64 ((0 : Nat) : Int)]) (.agg (evC x))).run Tryz.prog w = .ok (.bool D) w := fun w => ev_leaf hrest HD.out w
     simp only [Int.natCast_zero] at hq
     have hg := evGuard
     clear hrest
     go_enter Tryz.func34, Tryz.ntmps34
     go_wp2_with fail
     refine (HK.out _).mono ?_
     rintro e w2 ⟨rfl, rfl⟩
     go_wp2_with fail
     refine (HR.out _).mono ?_
     rintro e w2 ⟨rfl, rfl⟩
     go_wp2_with fail
     refine (HT.out _).mono ?_
     rintro e w2 ⟨rfl, rfl⟩
     go_wp2_with fail
     refine (HV.out _).mono ?_
     rintro e w2 ⟨rfl, rfl⟩
     go_wp2
     go_ret
     exact ⟨ret_bool (by rw [HRE.out]), ((Below.refl _ _).alloc (Nat.le_refl _) _).alloc (by simp) _⟩
  ·by_cases r0 : 0 ≤ x.rg
   ·have r1 : decide (0 ≤ x.rg) = true := decide_eq_true r0
    by_cases r8 : x.rg < 8
    ·have r2 : decide (x.rg < 8) = true := decide_eq_true r8
     have hrest : rest15 x = ⟨x.th, x.kd, x.rg, 0, 0⟩ := by (rw [HRS.out]; simp [r0, r8])
     have hq : ∀ w : World, (binOp .eql 36 (.agg #[.int .i64 x.th, .int .i64 x.kd, .int .i64 (x.rg), .int .u64 ((0 : Nat) : Int), .int .u64 ((0 : Nat) : Int)]) (.agg (evC x))).run Tryz.prog w = .ok (.bool D) w := fun w => ev_leaf hrest HD.out w
     simp only [Int.natCast_zero] at hq
     have hg := evGuard
     clear hrest
     go_enter Tryz.func34, Tryz.ntmps34
     go_wp2_with fail
     refine (HK.out _).mono ?_
     rintro e w2 ⟨rfl, rfl⟩
     go_wp2_with fail
     refine (HR.out _).mono ?_
     rintro e w2 ⟨rfl, rfl⟩
     go_wp2_with fail
     refine (HT.out _).mono ?_
     rintro e w2 ⟨rfl, rfl⟩
     go_wp2_with fail
     refine (HV.out _).mono ?_
     rintro e w2 ⟨rfl, rfl⟩
     go_wp2
     go_ret
     exact ⟨ret_bool (by rw [HRE.out]), ((Below.refl _ _).alloc (Nat.le_refl _) _).alloc (by simp) _⟩
    ·have r2 : decide (x.rg < 8) = false := decide_eq_false r8
     have hrest : rest15 x = ⟨x.th, x.kd, 0, 0, 0⟩ := by (rw [HRS.out]; simp [r0, r8])
     have hq : ∀ w : World, (binOp .eql 36 (.agg #[.int .i64 x.th, .int .i64 x.kd, .int .i64 (0), .int .u64 ((0 : Nat) : Int), .int .u64 ((0 : Nat) : Int)]) (.agg (evC x))).run Tryz.prog w = .ok (.bool D) w := fun w => ev_leaf hrest HD.out w
     simp only [Int.natCast_zero] at hq
     have hg := evGuard
     clear hrest
     go_enter Tryz.func34, Tryz.ntmps34
     go_wp2_with fail
     refine (HK.out _).mono ?_
     rintro e w2 ⟨rfl, rfl⟩
     go_wp2_with fail
     refine (HR.out _).mono ?_
     rintro e w2 ⟨rfl, rfl⟩
     go_wp2_with fail
     refine (HT.out _).mono ?_
     rintro e w2 ⟨rfl, rfl⟩
     go_wp2_with fail
     refine (HV.out _).mono ?_
     rintro e w2 ⟨rfl, rfl⟩
     go_wp2
     go_ret
     exact ⟨ret_bool (by rw [HRE.out]), ((Below.refl _ _).alloc (Nat.le_refl _) _).alloc (by simp) _⟩
   ·have r1 : decide (0 ≤ x.rg) = false := decide_eq_false r0
    have hrest : rest15 x = ⟨x.th, x.kd, 0, 0, 0⟩ := by (rw [HRS.out]; simp [r0])
    have hq : ∀ w : World, (binOp .eql 36 (.agg #[.int .i64 x.th, .int .i64 x.kd, .int .i64 (0), .int .u64 ((0 : Nat) : Int), .int .u64 ((0 : Nat) : Int)]) (.agg (evC x))).run Tryz.prog w = .ok (.bool D) w := fun w => ev_leaf hrest HD.out w
    simp only [Int.natCast_zero] at hq
    have hg := evGuard
    clear hrest
    go_enter Tryz.func34, Tryz.ntmps34
    go_wp2_with fail
    refine (HK.out _).mono ?_
    rintro e w2 ⟨rfl, rfl⟩
    go_wp2_with fail
    refine (HR.out _).mono ?_
    rintro e w2 ⟨rfl, rfl⟩
    go_wp2_with fail
    refine (HT.out _).mono ?_
    rintro e w2 ⟨rfl, rfl⟩
    go_wp2_with fail
    refine (HV.out _).mono ?_
    rintro e w2 ⟨rfl, rfl⟩
    go_wp2
    go_ret
    exact ⟨ret_bool (by rw [HRE.out]), ((Below.refl _ _).alloc (Nat.le_refl _) _).alloc (by simp) _⟩
  ·have hrest : rest15 x = ⟨x.th, x.kd, 0, 0, x.vl⟩ := by (rw [HRS.out]; simp)
   have hq : ∀ w : World, (binOp .eql 36 (.agg #[.int .i64 x.th, .int .i64 x.kd, .int .i64 (0), .int .u64 ((0 : Nat) : Int), .int .u64 ((x.vl : Nat) : Int)]) (.agg (evC x))).run Tryz.prog w = .ok (.bool D) w := fun w => ev_leaf hrest HD.out w
   simp only [Int.natCast_zero] at hq
   have hg := evGuard
   clear hrest
   go_enter Tryz.func34, Tryz.ntmps34
   go_wp2_with fail
   refine (HK.out _).mono ?_
   rintro e w2 ⟨rfl, rfl⟩
   go_wp2_with fail
   refine (HR.out _).mono ?_
   rintro e w2 ⟨rfl, rfl⟩
   go_wp2_with fail
   refine (HT.out _).mono ?_
   rintro e w2 ⟨rfl, rfl⟩
   go_wp2_with fail
   refine (HV.out _).mono ?_
   rintro e w2 ⟨rfl, rfl⟩
   go_wp2
   go_ret
   exact ⟨ret_bool (by rw [HRE.out]), ((Below.refl _ _).alloc (Nat.le_refl _) _).alloc (by simp) _⟩
  ·have hrest : rest15 x = ⟨x.th, x.kd, 0, 0, 0⟩ := by (rw [HRS.out]; simp)
   have hq : ∀ w : World, (binOp .eql 36 (.agg #[.int .i64 x.th, .int .i64 x.kd, .int .i64 (0), .int .u64 ((0 : Nat) : Int), .int .u64 ((0 : Nat) : Int)]) (.agg (evC x))).run Tryz.prog w = .ok (.bool D) w := fun w => ev_leaf hrest HD.out w
   simp only [Int.natCast_zero] at hq
   have hg := evGuard
   clear hrest
   go_enter Tryz.func34, Tryz.ntmps34
   go_wp2_with fail
   refine (HK.out _).mono ?_
   rintro e w2 ⟨rfl, rfl⟩
   go_wp2_with fail
   refine (HR.out _).mono ?_
   rintro e w2 ⟨rfl, rfl⟩
   go_wp2_with fail
   refine (HT.out _).mono ?_
   rintro e w2 ⟨rfl, rfl⟩
   go_wp2_with fail
   refine (HV.out _).mono ?_
   rintro e w2 ⟨rfl, rfl⟩
   go_wp2
   go_ret
   exact ⟨ret_bool (by rw [HRE.out]), ((Below.refl _ _).alloc (Nat.le_refl _) _).alloc (by simp) _⟩
def hasB (s : ByteArray) (c i : Nat) : Bool := (s.data.toList.drop i).any (fun b => b.toNat == c)
theorem hasB_next {s : ByteArray} {c i : Nat} (h : i < s.size) : hasB s c i = (((s[i]'h).toNat == c) || hasB s c (i + 1)) := by
 unfold hasB
 have hl : i < s.data.toList.length := by simpa using h
 rw [List.drop_eq_getElem_cons hl, List.any_cons]
 rfl
theorem hasB_end (s : ByteArray) (c : Nat) : hasB s c s.size = false := by
 unfold hasB
 rw [List.drop_of_length_le (by simp)]; rfl
set_option maxHeartbeats 4000000 in
theorem rfHas (s : ByteArray) (c : Nat) (w : World) (hs : s.size ≤ 1000) (hc : c < 256) : Calls Tryz.prog 33 #[.string s, .int .u8 (c : Int)] w fun e w' => e = .returned (.bool (hasB s c 0)) ∧ w = w' := by
 go_enter Tryz.func33, Tryz.ntmps33
 go_wp2_with fail
 go_loopw [5] (fun u wr => ∃ i : Nat, i ≤ s.size ∧ u = .int .i64 i ∧ Hid (hasB s c 0 = hasB s c i) ∧ wr = w) (fun u _ => s.size - (intOf u).toNat)
 case atStart => exact ⟨0, by omega, rfl, (by show _ = _; rfl), rfl⟩
 case round =>
  obtain ⟨i, hi, rfl, hq, rfl⟩ := hrel
  by_cases hlt : i < s.size
  ·have hii : (i : Int) < (s.size : Int) := by omega
   have hn := hasB_next (c := c) hlt
   obtain ⟨x, hx⟩ : ∃ x, (s[i]'hlt).toNat = x := ⟨_, rfl⟩
   rw [hx] at hn
   by_cases he : x = c
   ·have HE : Hid (hasB s c 0 = true) := by
     show _ = _
     rw [hq.out, hn, he]; simp
    clear hn hq
    subst he
    have e1 : ((x : Int) == (x : Int)) = true := by simp
    go_wp2
    go_ret
    exact ⟨ret_bool (by rw [HE.out]), rfl⟩
   ·have HQ : Hid (hasB s c 0 = hasB s c (i + 1)) := by
     show _ = _
     rw [hq.out, hn, beq_eq_false_iff_ne.2 he]; rfl
    have e1 : ((x : Int) == (c : Int)) = false := by rw [beq_eq_false_iff_ne]; omega
    have e2 : (x == c) = false := beq_eq_false_iff_ne.2 he
    clear hn hq
    go_wp2
    go_roundw
    case rel => exact ⟨i + 1, by omega, by go_num, HQ, trivial⟩
    case measure => simp [intOf]; omega
  ·obtain rfl : i = s.size := by omega
   have HE : Hid (hasB s c 0 = false) := hq.out.trans (hasB_end s c)
   clear hq
   go_wp2
   go_ret
   exact ⟨ret_bool (by rw [HE.out]), rfl⟩
theorem has_ring (k : Int) : hasB (nmsB k) 82 0 = ringB k := by
 unfold nmsB
 rcases kinds_apart k with ⟨h1, h2, h3⟩ | ⟨h1, h2, h3⟩ | ⟨h1, h2, h3⟩ | ⟨h1, h2, h3⟩ <;> simp only [h1, h2, h3] <;> decide +kernel
theorem has_ticket (k : Int) : hasB (nmsB k) 84 0 = ticketB k := by
 unfold nmsB
 rcases kinds_apart k with ⟨h1, h2, h3⟩ | ⟨h1, h2, h3⟩ | ⟨h1, h2, h3⟩ | ⟨h1, h2, h3⟩ <;> simp only [h1, h2, h3] <;> decide +kernel
theorem has_value (k : Int) : hasB (nmsB k) 86 0 = valueB k := by
 unfold nmsB
 rcases kinds_apart k with ⟨h1, h2, h3⟩ | ⟨h1, h2, h3⟩ | ⟨h1, h2, h3⟩ | ⟨h1, h2, h3⟩ <;> simp only [h1, h2, h3] <;> decide +kernel
theorem nms_size (k : Int) : (nmsB k).size ≤ 1000 := by
 unfold nmsB
 rcases kinds_apart k with ⟨h1, h2, h3⟩ | ⟨h1, h2, h3⟩ | ⟨h1, h2, h3⟩ | ⟨h1, h2, h3⟩ <;> simp only [h1, h2, h3] <;> decide +kernel
theorem rfHasRing (k : Int) (w : World) : Calls Tryz.prog 33 #[.string (nmsB k), .int .u8 82] w fun e w' => e = .returned (.bool (ringB k)) ∧ w = w' := by
 have h := rfHas (nmsB k) 82 w (nms_size k) (by omega)
 rw [has_ring] at h
 exact h
theorem rfHasTicket (k : Int) (w : World) : Calls Tryz.prog 33 #[.string (nmsB k), .int .u8 84] w fun e w' => e = .returned (.bool (ticketB k)) ∧ w = w' := by
 have h := rfHas (nmsB k) 84 w (nms_size k) (by omega)
 rw [has_ticket] at h
 exact h
theorem rfHasValue (k : Int) (w : World) : Calls Tryz.prog 33 #[.string (nmsB k), .int .u8 86] w fun e w' => e = .returned (.bool (valueB k)) ∧ w = w' := by
 have h := rfHas (nmsB k) 86 w (nms_size k) (by omega)
 rw [has_value] at h
 exact h
def inB (x : Ev) : Bool := decide (0 ≤ x.th ∧ x.th ≤ 7 ∧ 0 ≤ x.rg ∧ x.rg ≤ 7 ∧ x.tk < 4611686018427387904)
theorem rightE2 (x : Ev) : rightE x = (kindB x.kd && (inB x && ((ringB x.kd || x.rg == 0) && ((ticketB x.kd || x.tk == 0) && (valueB x.kd || x.vl == 0))))) := by
 obtain ⟨th, kd, rg, tk, vl⟩ := x
 unfold rightE inB
 simp only
 rw [Bool.eq_iff_iff]
 cases kindB kd <;> cases ringB kd <;> cases ticketB kd <;> cases valueB kd
 all_goals
  simp only [Bool.true_and, Bool.false_and, Bool.and_eq_true, decide_eq_true_eq, Bool.or_eq_true, if_true, if_false, Bool.false_eq_true, false_or, true_or, beq_iff_eq, false_and, and_true, true_and]
 all_goals omega
theorem evL_pos : ∀ i, i < 16 → 1 ≤ i → evL.getD i ByteArray.empty ≠ ByteArray.empty := by decide +kernel
theorem evn_cons {k : Int} (h : kindB k = true) : ∃ b r, (evnB k).toList = b :: r := by
 have h2 := kindB_iff.1 h
 have hne : evnB k ≠ ByteArray.empty := by
  unfold evnB
  rw [h, if_pos rfl]
  exact evL_pos _ (by omega) (by omega)
 cases hl : (evnB k).toList with
 | nil =>
  exfalso
  apply hne
  rw [ByteArray.toList_eq] at hl
  exact eq_of_data hl
 | cons b r => exact ⟨b, r, rfl⟩
theorem evn_no {k : Int} (h : kindB k = false) : evnB k = ⟨#[]⟩ := by unfold evnB; rw [h]; rfl
set_option maxHeartbeats 16000000 in
set_option maxRecDepth 100000 in
theorem rfRight15 (x : Ev) (w : World) : Calls Tryz.prog 13 #[.agg (evC x)] w fun e w' => e = .returned (.bool (rightE x)) ∧ Below w.heap.size w w' := by
 have hb0 : Below w.heap.size w (w.alloc (.cells (evC x) 36)) := (Below.refl _ _).alloc (Nat.le_refl _) _
 have l0 := Lies.made w 36 (evC x)
 have HB := Lib.hid hb0
 have HL := Lib.hid l0
 have HR := Lib.hid (rightE2 x)
 have HN := Lib.hid (fun w => rfEvName x.kd w)
 clear hb0 l0
 go_enter Tryz.func13, Tryz.ntmps13
 go_wp2_with fail
 generalize w.alloc (.cells (evC x) 36) = w1 at *
 have c0 := (HL.out.cell 0).trans (show _ = some (Value.int .i64 x.th) from rfl)
 have c1 := (HL.out.cell 1).trans (show _ = some (Value.int .i64 x.kd) from rfl)
 have c2 := (HL.out.cell 2).trans (show _ = some (Value.int .i64 x.rg) from rfl)
 have c3 := (HL.out.cell 3).trans (show _ = some (Value.int .u64 (x.tk : Int)) from rfl)
 have c4 := (HL.out.cell 4).trans (show _ = some (Value.int .u64 (x.vl : Int)) from rfl)
 have cl := HL.out.lt
 refine (rfNames x.kd _).mono ?_
 rintro e w2 ⟨rfl, rfl⟩
 go_wp2_with fail
 refine (HN.out _).mono ?_
 rintro e w3 ⟨rfl, hbm⟩
 have HB3 := Lib.hid (HB.out.trans (hbm.mono HB.out.size))
 have HL3 := Lib.hid (HL.out.below hbm HL.out.lt)
 clear hbm c0 c1 c2 c3 c4 cl HN HB HL
 have c0 := (HL3.out.cell 0).trans (show _ = some (Value.int .i64 x.th) from rfl)
 have c1 := (HL3.out.cell 1).trans (show _ = some (Value.int .i64 x.kd) from rfl)
 have c2 := (HL3.out.cell 2).trans (show _ = some (Value.int .i64 x.rg) from rfl)
 have c3 := (HL3.out.cell 3).trans (show _ = some (Value.int .u64 (x.tk : Int)) from rfl)
 have c4 := (HL3.out.cell 4).trans (show _ = some (Value.int .u64 (x.vl : Int)) from rfl)
 have cl := HL3.out.lt
 cases hk : kindB x.kd with
 | false =>
  have HE : Hid (rightE x = false) := by
   show _ = _
   rw [HR.out, hk]; rfl
  rw [evn_no hk]
  clear hk HR
  go_wp2
  go_ret
  exact ⟨ret_bool (by rw [HE.out]), HB3.out⟩
 | true =>
 obtain ⟨b0, r0, hcons⟩ := evn_cons hk
 rw [hk] at HR
 clear hk
 generalize evnB x.kd = nm at *
 by_cases hin : 0 ≤ x.th ∧ x.th ≤ 7 ∧ 0 ≤ x.rg ∧ x.rg ≤ 7 ∧ x.tk < 4611686018427387904
 case neg =>
  have HE : Hid (rightE x = false) := by
   show _ = _
   rw [HR.out]
   unfold inB
   rw [decide_eq_false hin]; rfl
  clear HR
  have hcs : (x.th < 0) ∨ (¬ x.th < 0 ∧ 7 < x.th) ∨ (¬ x.th < 0 ∧ ¬ 7 < x.th ∧ x.rg < 0) ∨ (¬ x.th < 0 ∧ ¬ 7 < x.th ∧ ¬ x.rg < 0 ∧ 7 < x.rg) ∨ (¬ x.th < 0 ∧ ¬ 7 < x.th ∧ ¬ x.rg < 0 ∧ ¬ 7 < x.rg ∧ 4611686018427387904 ≤ x.tk) := by omega
  clear hin
  rcases hcs with q1 | ⟨q1, q2⟩ | ⟨q1, q2, q3⟩ | ⟨q1, q2, q3, q4⟩ | ⟨q1, q2, q3, q4, q5⟩
  ·have g1 : decide (x.th < 0) = true := decide_eq_true q1
   go_wp2
   go_ret
   exact ⟨ret_bool (by rw [HE.out]), HB3.out⟩
  ·have g1 : decide (x.th < 0) = false := decide_eq_false q1
   have g2 : decide (7 < x.th) = true := decide_eq_true q2
   go_wp2
   go_ret
   exact ⟨ret_bool (by rw [HE.out]), HB3.out⟩
  ·have g1 : decide (x.th < 0) = false := decide_eq_false q1
   have g2 : decide (7 < x.th) = false := decide_eq_false q2
   have g3 : decide (x.rg < 0) = true := decide_eq_true q3
   go_wp2
   go_ret
   exact ⟨ret_bool (by rw [HE.out]), HB3.out⟩
  ·have g1 : decide (x.th < 0) = false := decide_eq_false q1
   have g2 : decide (7 < x.th) = false := decide_eq_false q2
   have g3 : decide (x.rg < 0) = false := decide_eq_false q3
   have g4 : decide (7 < x.rg) = true := decide_eq_true q4
   go_wp2
   go_ret
   exact ⟨ret_bool (by rw [HE.out]), HB3.out⟩
  ·have g1 : decide (x.th < 0) = false := decide_eq_false q1
   have g2 : decide (7 < x.th) = false := decide_eq_false q2
   have g3 : decide (x.rg < 0) = false := decide_eq_false q3
   have g4 : decide (7 < x.rg) = false := decide_eq_false q4
   have g5 : decide ((4611686018427387904 : Int) ≤ (x.tk : Int)) = true := decide_eq_true (by omega)
   have g6 : decide (4611686018427387904 ≤ x.tk) = true := decide_eq_true q5
   go_wp2
   go_ret
   exact ⟨ret_bool (by rw [HE.out]), HB3.out⟩
 have g1 : decide (x.th < 0) = false := decide_eq_false (by omega)
 have g2 : decide (7 < x.th) = false := decide_eq_false (by omega)
 have g3 : decide (x.rg < 0) = false := decide_eq_false (by omega)
 have g4 : decide (7 < x.rg) = false := decide_eq_false (by omega)
 have g5 : decide ((4611686018427387904 : Int) ≤ (x.tk : Int)) = false := decide_eq_false (by omega)
 have g6 : decide (4611686018427387904 ≤ x.tk) = false := decide_eq_false (by omega)
 have hi : inB x = true := decide_eq_true hin
 rw [hi] at HR
 simp only [Bool.true_and] at HR
 clear hi hin
 have H0 := Lib.hid (rfHasRing x.kd)
 have H1 := Lib.hid (rfHasTicket x.kd)
 have H2 := Lib.hid (rfHasValue x.kd)
 generalize nmsB x.kd = ns at *
 generalize ringB x.kd = rb at *
 generalize ticketB x.kd = tb at *
 generalize valueB x.kd = vb at *
 go_wp2_with fail
 refine (H0.out _).mono ?_
 rintro e w4 ⟨rfl, rfl⟩
 cases rb with
 | true =>
  go_wp2_with fail
  refine (H1.out _).mono ?_
  rintro e w4 ⟨rfl, rfl⟩
  cases tb with
  | true =>
   go_wp2_with fail
   refine (H2.out _).mono ?_
   rintro e w4 ⟨rfl, rfl⟩
   cases vb with
   | true =>
    have HE := Lib.hid (HR.out)
    go_wp2
    go_ret
    exact ⟨ret_bool (by rw [HR.out]; simp [*]), HB3.out⟩
   | false =>
    by_cases z2 : x.vl = 0
    ·have y2 : ((x.vl : Int) == 0) = true := by rw [beq_iff_eq]; omega
     have u2 : (x.vl == 0) = true := by rw [beq_iff_eq]; exact z2
     have HE := Lib.hid (HR.out)
     go_wp2
     go_ret
     exact ⟨ret_bool (by rw [HR.out]; simp [*]), HB3.out⟩
    ·have y2 : ((x.vl : Int) == 0) = false := by rw [beq_eq_false_iff_ne]; omega
     have u2 : (x.vl == 0) = false := by rw [beq_eq_false_iff_ne]; exact z2
     go_wp2
     go_ret
     exact ⟨ret_bool (by rw [HR.out]; simp [*]), HB3.out⟩
  | false =>
   by_cases z1 : x.tk = 0
   ·have y1 : ((x.tk : Int) == 0) = true := by rw [beq_iff_eq]; omega
    have u1 : (x.tk == 0) = true := by rw [beq_iff_eq]; exact z1
    go_wp2_with fail
    refine (H2.out _).mono ?_
    rintro e w4 ⟨rfl, rfl⟩
    cases vb with
    | true =>
     have HE := Lib.hid (HR.out)
     go_wp2
     go_ret
     exact ⟨ret_bool (by rw [HR.out]; simp [*]), HB3.out⟩
    | false =>
     by_cases z2 : x.vl = 0
     ·have y2 : ((x.vl : Int) == 0) = true := by rw [beq_iff_eq]; omega
      have u2 : (x.vl == 0) = true := by rw [beq_iff_eq]; exact z2
      have HE := Lib.hid (HR.out)
      go_wp2
      go_ret
      exact ⟨ret_bool (by rw [HR.out]; simp [*]), HB3.out⟩
     ·have y2 : ((x.vl : Int) == 0) = false := by rw [beq_eq_false_iff_ne]; omega
      have u2 : (x.vl == 0) = false := by rw [beq_eq_false_iff_ne]; exact z2
      go_wp2
      go_ret
      exact ⟨ret_bool (by rw [HR.out]; simp [*]), HB3.out⟩
   ·have y1 : ((x.tk : Int) == 0) = false := by rw [beq_eq_false_iff_ne]; omega
    have u1 : (x.tk == 0) = false := by rw [beq_eq_false_iff_ne]; exact z1
    go_wp2
    go_ret
    exact ⟨ret_bool (by rw [HR.out]; simp [*]), HB3.out⟩
 | false =>
  by_cases z0 : x.rg = 0
  ·have y0 : (x.rg == 0) = true := by rw [beq_iff_eq]; omega
   go_wp2_with fail
   refine (H1.out _).mono ?_
   rintro e w4 ⟨rfl, rfl⟩
   cases tb with
   | true =>
    go_wp2_with fail
    refine (H2.out _).mono ?_
    rintro e w4 ⟨rfl, rfl⟩
    cases vb with
    | true =>
     have HE := Lib.hid (HR.out)
     go_wp2
     go_ret
     exact ⟨ret_bool (by rw [HR.out]; simp [*]), HB3.out⟩
    | false =>
     by_cases z2 : x.vl = 0
     ·have y2 : ((x.vl : Int) == 0) = true := by rw [beq_iff_eq]; omega
      have u2 : (x.vl == 0) = true := by rw [beq_iff_eq]; exact z2
      have HE := Lib.hid (HR.out)
      go_wp2
      go_ret
      exact ⟨ret_bool (by rw [HR.out]; simp [*]), HB3.out⟩
     ·have y2 : ((x.vl : Int) == 0) = false := by rw [beq_eq_false_iff_ne]; omega
      have u2 : (x.vl == 0) = false := by rw [beq_eq_false_iff_ne]; exact z2
      go_wp2
      go_ret
      exact ⟨ret_bool (by rw [HR.out]; simp [*]), HB3.out⟩
   | false =>
    by_cases z1 : x.tk = 0
    ·have y1 : ((x.tk : Int) == 0) = true := by rw [beq_iff_eq]; omega
     have u1 : (x.tk == 0) = true := by rw [beq_iff_eq]; exact z1
     go_wp2_with fail
     refine (H2.out _).mono ?_
     rintro e w4 ⟨rfl, rfl⟩
     cases vb with
     | true =>
      have HE := Lib.hid (HR.out)
      go_wp2
      go_ret
      exact ⟨ret_bool (by rw [HR.out]; simp [*]), HB3.out⟩
     | false =>
      by_cases z2 : x.vl = 0
      ·have y2 : ((x.vl : Int) == 0) = true := by rw [beq_iff_eq]; omega
       have u2 : (x.vl == 0) = true := by rw [beq_iff_eq]; exact z2
       have HE := Lib.hid (HR.out)
       go_wp2
       go_ret
       exact ⟨ret_bool (by rw [HR.out]; simp [*]), HB3.out⟩
      ·have y2 : ((x.vl : Int) == 0) = false := by rw [beq_eq_false_iff_ne]; omega
       have u2 : (x.vl == 0) = false := by rw [beq_eq_false_iff_ne]; exact z2
       go_wp2
       go_ret
       exact ⟨ret_bool (by rw [HR.out]; simp [*]), HB3.out⟩
    ·have y1 : ((x.tk : Int) == 0) = false := by rw [beq_eq_false_iff_ne]; omega
     have u1 : (x.tk == 0) = false := by rw [beq_eq_false_iff_ne]; exact z1
     go_wp2
     go_ret
     exact ⟨ret_bool (by rw [HR.out]; simp [*]), HB3.out⟩
  ·have y0 : (x.rg == 0) = false := by rw [beq_eq_false_iff_ne]; omega
   go_wp2
   go_ret
   exact ⟨ret_bool (by rw [HR.out]; simp [*]), HB3.out⟩
def chE (l : List Ev) : Nat × Nat := if 65536 < l.length then (0, 4) else match l.findIdx? (fun x => !rightE x) with | some i => (i, 3) | none => (0, 0)
theorem chE_long {l : List Ev} (h : 65536 < l.length) : chE l = (0, 4) := if_pos h
theorem chE_at {l : List Ev} {k : Nat} {x : Ev} (h : ¬ 65536 < l.length) (ha : ∀ y ∈ l.take k, rightE y = true) (hx : l[k]? = some x) (hr : rightE x = false) : chE l = (k, 3) := by
 unfold chE
 rw [if_neg h]
 have : l.findIdx? (fun x => !rightE x) = some k := by
  obtain ⟨hl, hxe⟩ := List.getElem?_eq_some_iff.1 hx
  rw [List.findIdx?_eq_some_iff_getElem]
  refine ⟨hl, by rw [hxe, hr]; rfl, fun j hj => ?_⟩
  have := ha (l[j]'(by omega)) (List.mem_take_iff_getElem.2 ⟨j, by omega, rfl⟩)
  rw [this]; decide
 rw [this]
theorem chE_ok {l : List Ev} (h : ¬ 65536 < l.length) (ha : ∀ y ∈ l, rightE y = true) : chE l = (0, 0) := by
 unfold chE
 rw [if_neg h]
 have : l.findIdx? (fun x => !rightE x) = none := by
  rw [List.findIdx?_eq_none_iff]
  intro x hx
  rw [ha x hx]; rfl
 rw [this]
theorem chE_zero {l : List Ev} (h : (chE l).2 = 0) : l.length ≤ 65536 ∧ ∀ y ∈ l, rightE y = true := by
 unfold chE at h
 split at h
 ·cases h
 ·rename_i hl
  refine ⟨by omega, fun y hy => ?_⟩
  cases hf : l.findIdx? (fun x => !rightE x) with
  | some i => rw [hf] at h; cases h
  | none =>
   have := List.findIdx?_eq_none_iff.1 hf y hy
   simpa using this
theorem ev_take_next {l : List Ev} {k : Nat} {x : Ev} (ha : ∀ y ∈ l.take k, rightE y = true) (hx : l[k]? = some x) (hr : rightE x = true) : ∀ y ∈ l.take (k + 1), rightE y = true := by
 intro y hy
 rw [List.take_add_one, hx, Option.toList_some, List.mem_append] at hy
 rcases hy with hy | hy
 ·exact ha y hy
 ·rw [List.mem_singleton] at hy; subst hy; exact hr
theorem ret_2n {a b : Nat} {p : Nat × Nat} (h : p = (a, b)) {k k2 : IntKind} : Ending.returned (.tuple #[.int k (a : Int), .int k2 (b : Int)]) = .returned (.tuple #[.int k ((p.1 : Nat) : Int), .int k2 ((p.2 : Nat) : Int)]) := by rw [h]
set_option maxHeartbeats 8000000 in
set_option maxRecDepth 100000 in
theorem check15 (l : List Ev) (A : Option Addr) (c : Nat) (w : World) (h : EvsAt w A c l) :
  Calls Tryz.prog 16 #[.slice A l.length c] w fun e w' => e = .returned (.tuple #[.int .i64 ((chE l).1 : Nat), .int .i64 ((chE l).2 : Nat)]) ∧ Below w.heap.size w w' := by
 obtain ⟨A', c', e', h1, h2, _⟩ := h.form
 simp only [Value.slice.injEq, true_and] at e'
 obtain ⟨rfl, rfl⟩ := e'
 unfold maxLen at h2
 have HH := Lib.hid h
 have HB := Lib.hid (Below.refl w.heap.size w)
 have HLO := Lib.hid (@chE_long l)
 have HAT := Lib.hid (fun k x => @chE_at l k x)
 have HOK := Lib.hid (@chE_ok l)
 clear h
 by_cases hl : 65536 < l.length
 ·have e1 : decide ((65536 : Int) < (l.length : Int)) = true := decide_eq_true (by omega)
  have e2 : decide (65536 < l.length) = true := decide_eq_true hl
  have HE := Lib.hid (HLO.out hl)
  clear HLO HAT HOK
  go_enter Tryz.func16, Tryz.ntmps16
  go_wp2
  go_ret2
  exact ⟨ret_2n HE.out, HB.out⟩
 have e1 : decide ((65536 : Int) < (l.length : Int)) = false := decide_eq_false (by omega)
 have e2 : decide (65536 < l.length) = false := decide_eq_false hl
 have HAT2 := Lib.hid (fun k x => HAT.out k x hl)
 have HOK2 := Lib.hid (HOK.out hl)
 clear HLO HAT HOK hl
 go_enter Tryz.func16, Tryz.ntmps16
 go_wp2_with fail
 go_loopw [11] (fun u wr => ∃ k : Nat, k ≤ l.length ∧ u = .int .i64 k ∧ Hid (∀ y ∈ l.take k, rightE y = true) ∧ Hid (Below w.heap.size w wr)) (fun u _ => l.length - (intOf u).toNat)
 case atStart => exact ⟨0, by omega, rfl, (by show ∀ y ∈ l.take 0, _; simp), HB⟩
 case round =>
  clear HB
  obtain ⟨k, hk, rfl, HA, HB⟩ := hrel
  by_cases hlt : k < l.length
  ·have hki : (k : Int) < (l.length : Int) := by omega
   obtain ⟨x, hx⟩ : ∃ x, l[k]? = some x := ⟨_, List.getElem?_eq_getElem hlt⟩
   obtain ⟨b, off, rfl, hbl, hg⟩ := EvsAt.at_ (HH.out.later HB.out) hx
   have g0 := hg 0 _ (by decide) rfl
   have g1 := hg 1 _ (by decide) rfl
   have g2 := hg 2 _ (by decide) rfl
   have g3 := hg 3 _ (by decide) rfl
   have g4 := hg 4 _ (by decide) rfl
   rw [Nat.add_zero] at g0
   have hbx : Below wr.heap.size wr (wr.alloc (.cells (evC x) 36)) := (Below.refl _ _).alloc (Nat.le_refl _) _
   have HB2 := Lib.hid (HB.out.trans (hbx.mono HB.out.size))
   have HR := Lib.hid (fun w => right15 x w)
   have HX := Lib.hid hx
   clear hg hx hbx HB
   obtain ⟨rb, hrb⟩ : ∃ rb, rightE x = rb := ⟨_, rfl⟩
   rw [hrb] at HR
   have HRB := Lib.hid hrb
   clear hrb
   go_wp2_with fail
   generalize wr.alloc (.cells (evC x) 36) = w2 at *
   refine (HR.out _).mono ?_
   rintro e w3 ⟨rfl, hbm⟩
   have HB3 := Lib.hid (HB2.out.trans (hbm.mono HB2.out.size))
   clear hbm g0 g1 g2 g3 g4 HR
   cases rb with
   | false =>
    have HE := Lib.hid (HAT2.out k x HA.out HX.out HRB.out)
    clear HAT2 HOK2
    go_wp2
    go_ret2
    exact ⟨ret_2n HE.out, HB3.out⟩
   | true =>
    have HA2 := Lib.hid (ev_take_next HA.out HX.out HRB.out)
    go_wp2
    go_roundw
    case rel => exact ⟨k + 1, by omega, by go_num, HA2, HB3⟩
    case measure => simp [intOf]; omega
  ·obtain rfl : k = l.length := by omega
   have HE := Lib.hid (HOK2.out (by have := HA.out; rwa [List.take_length] at this))
   clear HAT2 HOK2
   go_wp2
   go_ret2
   exact ⟨ret_2n HE.out, HB.out⟩
set_option maxHeartbeats 8000000 in
set_option maxRecDepth 100000 in
theorem rfCheck15 (l : List Ev) (A : Option Addr) (c : Nat) (w : World) (h : EvsAt w A c l) :
  Calls Tryz.prog 9 #[.slice A l.length c] w fun e w' => e = .returned (.tuple #[.int .i64 ((chE l).1 : Nat), .int .i64 ((chE l).2 : Nat)]) ∧ Below w.heap.size w w' := by
 obtain ⟨A', c', e', h1, h2, _⟩ := h.form
 simp only [Value.slice.injEq, true_and] at e'
 obtain ⟨rfl, rfl⟩ := e'
 unfold maxLen at h2
 have HH := Lib.hid h
 have HB := Lib.hid (Below.refl w.heap.size w)
 have HLO := Lib.hid (@chE_long l)
 have HAT := Lib.hid (fun k x => @chE_at l k x)
 have HOK := Lib.hid (@chE_ok l)
 clear h
 by_cases hl : 65536 < l.length
 ·have e1 : decide ((65536 : Int) < (l.length : Int)) = true := decide_eq_true (by omega)
  have e2 : decide (65536 < l.length) = true := decide_eq_true hl
  have HE := Lib.hid (HLO.out hl)
  clear HLO HAT HOK
  go_enter Tryz.func9, Tryz.ntmps9
  go_wp2
  go_ret2
  exact ⟨ret_2n HE.out, HB.out⟩
 have e1 : decide ((65536 : Int) < (l.length : Int)) = false := decide_eq_false (by omega)
 have e2 : decide (65536 < l.length) = false := decide_eq_false hl
 have HAT2 := Lib.hid (fun k x => HAT.out k x hl)
 have HOK2 := Lib.hid (HOK.out hl)
 clear HLO HAT HOK hl
 go_enter Tryz.func9, Tryz.ntmps9
 go_wp2_with fail
 go_loopw [4] (fun u wr => ∃ k : Nat, k ≤ l.length ∧ u = .int .i64 k ∧ Hid (∀ y ∈ l.take k, rightE y = true) ∧ Hid (Below w.heap.size w wr)) (fun u _ => l.length - (intOf u).toNat)
 case atStart => exact ⟨0, by omega, rfl, (by show ∀ y ∈ l.take 0, _; simp), HB⟩
 case round =>
  clear HB
  obtain ⟨k, hk, rfl, HA, HB⟩ := hrel
  by_cases hlt : k < l.length
  ·have hki : (k : Int) < (l.length : Int) := by omega
   obtain ⟨x, hx⟩ : ∃ x, l[k]? = some x := ⟨_, List.getElem?_eq_getElem hlt⟩
   obtain ⟨b, off, rfl, hbl, hg⟩ := EvsAt.at_ (HH.out.later HB.out) hx
   have g0 := hg 0 _ (by decide) rfl
   have g1 := hg 1 _ (by decide) rfl
   have g2 := hg 2 _ (by decide) rfl
   have g3 := hg 3 _ (by decide) rfl
   have g4 := hg 4 _ (by decide) rfl
   rw [Nat.add_zero] at g0
   have HB2 := HB
   have HR := Lib.hid (fun w => rfRight15 x w)
   have HX := Lib.hid hx
   clear hg hx HB
   obtain ⟨rb, hrb⟩ : ∃ rb, rightE x = rb := ⟨_, rfl⟩
   rw [hrb] at HR
   have HRB := Lib.hid hrb
   clear hrb
   go_wp2_with fail
   refine (HR.out _).mono ?_
   rintro e w3 ⟨rfl, hbm⟩
   have HB3 := Lib.hid (HB2.out.trans (hbm.mono HB2.out.size))
   clear hbm g0 g1 g2 g3 g4 HR
   cases rb with
   | false =>
    have HE := Lib.hid (HAT2.out k x HA.out HX.out HRB.out)
    clear HAT2 HOK2
    go_wp2
    go_ret2
    exact ⟨ret_2n HE.out, HB3.out⟩
   | true =>
    have HA2 := Lib.hid (ev_take_next HA.out HX.out HRB.out)
    go_wp2
    go_roundw
    case rel => exact ⟨k + 1, by omega, by go_num, HA2, HB3⟩
    case measure => simp [intOf]; omega
  ·obtain rfl : k = l.length := by omega
   have HE := Lib.hid (HOK2.out (by have := HA.out; rwa [List.take_length] at this))
   clear HAT2 HOK2
   go_wp2
   go_ret2
   exact ⟨ret_2n HE.out, HB.out⟩
theorem Tryz.infoIntE : (Tryz.prog.info? 3).map (fun i => (i.zero, i.size, i.bytes)) = some (some (.int .i64 0), 1, 8) := by kernel_rfl
def ofE (l : List Ev) (t : Int) : Nat → List Nat
 | 0 => []
 | k + 1 => match l[k]? with
  | some x => if x.th = t then ofE l t k ++ [k] else ofE l t k
  | none => ofE l t k
theorem ofE_le (l : List Ev) (t : Int) : ∀ k, (ofE l t k).length ≤ k
 | 0 => Nat.le_refl _
 | k + 1 => by
  have := ofE_le l t k
  unfold ofE
  split
  ·split
   ·rw [List.length_append]; simp; omega
   ·omega
  ·omega
def intsE (l : List Nat) : List Value := l.map fun (n : Nat) => .int .i64 (n : Int)
theorem intsE_push (d : List Nat) (n : Nat) : intsE d ++ [.int .i64 (n : Int)] = intsE (d ++ [n]) := by simp [intsE]
set_option maxHeartbeats 8000000 in
set_option maxRecDepth 100000 in
theorem of15 (l : List Ev) (t : Int) (A : Option Addr) (c : Nat) (w : World) (h : EvsAt w A c l) (hlen : l.length ≤ 1099511627776) :
  Calls Tryz.prog 19 #[.slice A l.length c, .int .i64 t] w fun e w' => ∃ v, e = .returned v ∧ w'.ownsRow w.heap.size 3 1 v (ofE l t l.length).length (intsE (ofE l t l.length)) ∧ Below w.heap.size w w' := by
 obtain ⟨A', c', e', h1, h2, _⟩ := h.form
 simp only [Value.slice.injEq, true_and] at e'
 obtain ⟨rfl, rfl⟩ := e'
 unfold maxLen at h2
 have HH := Lib.hid h
 have HB := Lib.hid (Below.refl w.heap.size w)
 clear h
 go_enter Tryz.func19, Tryz.ntmps19
 go_wp2_with fail
 go_loopw [10, 5] (fun u v wr => ∃ k : Nat, k ≤ l.length ∧ u = .int .i64 k ∧ Hid (wr.ownsRow w.heap.size 3 1 v (ofE l t k).length (intsE (ofE l t k))) ∧ Hid (Below w.heap.size w wr)) (fun u _ _ => l.length - (intOf u).toNat)
 case atStart => exact ⟨0, by omega, rfl, World.ownsRow_nil _ _ _ _, HB⟩
 case round =>
  clear HB
  obtain ⟨k, hk, rfl, HO, HB⟩ := hrel
  by_cases hlt : k < l.length
  ·have hki : (k : Int) < (l.length : Int) := by omega
   obtain ⟨x, hx⟩ : ∃ x, l[k]? = some x := ⟨_, List.getElem?_eq_getElem hlt⟩
   obtain ⟨b, off, rfl, hbl, hg⟩ := EvsAt.at_ (HH.out.later HB.out) hx
   have g0 := hg 0 _ (by decide) rfl
   have g1 := hg 1 _ (by decide) rfl
   have g2 := hg 2 _ (by decide) rfl
   have g3 := hg 3 _ (by decide) rfl
   have g4 := hg 4 _ (by decide) rfl
   rw [Nat.add_zero] at g0
   have hbx : Below wr.heap.size wr (wr.alloc (.cells (evC x) 36)) := (Below.refl _ _).alloc (Nat.le_refl _) _
   have HB2 := Lib.hid (HB.out.trans (hbx.mono HB.out.size))
   have HO2 := Lib.hid (owned_below HO.out hbx)
   have hle := ofE_le l t k
   have HN : Hid (ofE l t (k + 1) = if x.th = t then ofE l t k ++ [k] else ofE l t k) := by
    show ofE l t (k + 1) = _
    rw [ofE, hx]
   clear hg hx hbx HB HO
   by_cases he : x.th = t
   ·have e1 : (x.th == t) = true := by rw [beq_iff_eq]; exact he
    rw [if_pos he] at HN
    have hbs := HB2.out.size
    clear he
    go_upto_region 6 with (fail)
    clear g0 g1 g2 g3 g4
    generalize wr.alloc (.cells (evC x) 36) = w2 at *
    generalize ofE l t k = L at *
    go_wp2_with (at_builtin; refine append_one _ (.int .i64 (k : Int)) rfl (.tmp 19) (.tmp 21) 49 rfl w.heap.size 3 _ _ Tryz.underlying49 Tryz.infoIntE rfl rfl _ _ _ rfl HO2.out rfl (by unfold maxLen; omega) (by omega) hbs ?_)
    intro v' w3 ho hb hgr
    rw [intsE_push] at ho
    have HO3 : Hid (w3.ownsRow w.heap.size 3 1 v' (ofE l t (k + 1)).length (intsE (ofE l t (k + 1)))) := by
     rw [HN.out, List.length_append]
     exact ho
    have HB3 := Lib.hid (HB2.out.trans hb)
    clear ho hb hgr HO2
    go_wp2
    go_roundw
    case rel => exact ⟨k + 1, by omega, by go_num, HO3, HB3⟩
    case measure => simp [intOf]; omega
   ·have e1 : (x.th == t) = false := by rw [beq_eq_false_iff_ne]; exact he
    rw [if_neg he] at HN
    rw [← HN.out] at HO2
    clear he
    go_wp2
    go_roundw
    case rel => exact ⟨k + 1, by omega, by go_num, HO2, HB2⟩
    case measure => simp [intOf]; omega
  ·obtain rfl : k = l.length := by omega
   go_wp2
   go_ret
   exact ⟨_, rfl, HO.out, HB.out⟩
def RdAt (w : World) (g : Nat) (s : ByteArray) (i : Nat) : Prop := Lies w g 104 #[.string s, .int .i64 i] ∧ i ≤ s.size ∧ s.size ≤ maxLen
theorem octetNew (s : ByteArray) (w : World) (hs : s.size ≤ maxLen) : Calls Tryz.prog 28 #[.string s] w fun e w' =>
  e = .returned (.pointer (some ⟨w.heap.size, 0, none⟩)) ∧ RdAt w' w.heap.size s 0 ∧ Kept noRow w w' := by
 go_enter Tryz.func28, Tryz.ntmps28
 go_wp2
 go_ret
 exact ⟨rfl, ⟨Lies.made _ _ _, Nat.zero_le _, hs⟩, Kept.alloc _ _ _⟩
theorem octetLeft (g : Nat) (s : ByteArray) (i : Nat) (w : World) (h : RdAt w g s i) : Calls Tryz.prog 30 #[.pointer (some ⟨g, 0, none⟩)] w fun e w' =>
  e = .returned (.int .i64 ((s.size : Int) - i)) ∧ ∃ n, w' = w.drewN n := by
 obtain ⟨h1, h2, h3⟩ := h
 have c0 : w.cell? ⟨g, 0, none⟩ = some (.string s) := h1.cell 0
 have c1 : w.cell? ⟨g, 1, none⟩ = some (.int .i64 i) := h1.cell 1
 unfold maxLen at h3
 clear h1
 go_enter Tryz.func30, Tryz.ntmps30
 go_wp2_with fail
 go_quiet (fail)
 go_wp2
 go_ret
 exact ⟨rfl, _, rfl⟩
theorem ret_two {a b c d : Value} (h : a = b) (k : c = d) : Ending.returned (.tuple #[a, c]) = .returned (.tuple #[b, d]) := by rw [h, k]
theorem ret_text {a b : ByteArray} (h : a = b) : Ending.returned (.string a) = .returned (.string b) := by rw [h]
theorem v_int {k : IntKind} {a b : Int} (h : a = b) : Value.int k a = .int k b := by rw [h]
theorem octetTakeEnd (g : Nat) (s : ByteArray) (i : Nat) (n : Int) (w : World) (h : RdAt w g s i) (hn : (s.size : Int) - i < n) : Calls Tryz.prog 57 #[.pointer (some ⟨g, 0, none⟩), .int .i64 n] w fun e w' =>
  e = .returned (.tuple #[.string ByteArray.empty, .int .i64 2]) ∧ ∃ m, w' = w.drewN m := by
 have h2 := h.2.1
 go_enter Tryz.func57, Tryz.ntmps57
 go_wp2_with fail
 refine (octetLeft g s i w h).mono ?_
 rintro e w' ⟨rfl, m, rfl⟩
 go_wp2
 go_ret2
 exact ⟨rfl, _, rfl⟩
theorem octetTakeOk (g : Nat) (s : ByteArray) (i : Nat) (n : Int) (w : World) (h : RdAt w g s i) (h0 : 0 ≤ n) (hn : n ≤ (s.size : Int) - i) : Calls Tryz.prog 57 #[.pointer (some ⟨g, 0, none⟩), .int .i64 n] w fun e w' =>
  e = .returned (.tuple #[.string (s.extract i (i + n.toNat)), .int .i64 0]) ∧ RdAt w' g s (i + n.toNat) ∧ Kept (oneRow g) w w' := by
 have hr := h
 obtain ⟨h1, h2, h3⟩ := h
 obtain ⟨k, rfl⟩ := Int.eq_ofNat_of_zero_le h0
 have c0 : w.cell? ⟨g, 0, none⟩ = some (.string s) := h1.cell 0
 have c1 : w.cell? ⟨g, 1, none⟩ = some (.int .i64 i) := h1.cell 1
 have f1 : w.frozen? ⟨g, 1, none⟩ = false := h1.free 1
 have h4 := h3
 unfold maxLen at h4
 have hk : i + k ≤ s.size := by omega
 have hki : (i : Int) + k ≤ s.size := by omega
 have H1 := Lib.hid h1
 have H3 := Lib.hid h3
 clear h1 h3
 go_enter Tryz.func57, Tryz.ntmps57
 go_wp2_with fail
 refine (octetLeft g s i w hr).mono ?_
 rintro e w' ⟨rfl, m, rfl⟩
 go_wp2_with fail
 have q1 : IntKind.i64.wrap ((i : Int) + k) = i + k := IntWalk.i64_in _ (by omega)
 have hsl := slice_text (P := Tryz.prog) 9 Tryz.underlying9 s i (i + k) i ((i : Int) + k) rfl (by omega) (by omega) hk
 go_quiet (fail)
 go_wp2
 go_ret2
 refine ⟨rfl, ⟨?_, hk, H3.out⟩, (Kept.drewN _ _ _).trans (Kept.put _ g 1 _) (fun _ _ h => h)⟩
 exact (H1.out.drewN _).put 1 _
theorem RdAt.kept {w w' : World} {g : Nat} {s : ByteArray} {i : Nat} {S : Nat → Prop} (h : RdAt w g s i) (k : Kept S w w') (hn : ¬ S g) : RdAt w' g s i := ⟨h.1.kept k hn, h.2⟩
theorem octetByteEnd (g : Nat) (s : ByteArray) (w : World) (h : RdAt w g s s.size) : Calls Tryz.prog 86 #[.pointer (some ⟨g, 0, none⟩)] w fun e w' =>
  e = .returned (.tuple #[.int .u8 0, .int .i64 2]) ∧ ∃ n, w' = w.drewN n := by
 go_enter Tryz.func86, Tryz.ntmps86
 go_wp2_with fail
 refine (octetTakeEnd g s s.size 1 w h (by omega)).mono ?_
 rintro e w' ⟨rfl, m, rfl⟩
 go_wp2
 go_ret2
 exact ⟨rfl, _, rfl⟩
theorem octetByteOk (g : Nat) (s : ByteArray) (i : Nat) (w : World) (h : RdAt w g s i) (hi : i < s.size) : Calls Tryz.prog 86 #[.pointer (some ⟨g, 0, none⟩)] w fun e w' =>
  e = .returned (.tuple #[.int .u8 (s[i]'hi).toNat, .int .i64 0]) ∧ RdAt w' g s (i + 1) ∧ Kept (oneRow g) w w' := by
 obtain ⟨t, ht⟩ : ∃ t, t = s.extract i (i + 1) := ⟨_, rfl⟩
 have hts : 0 < t.size := by rw [ht, ByteArray.size_extract]; omega
 have hb : t[0]'hts = s[i]'hi := by
  subst ht; simp [ByteArray.getElem_extract]
 have HB := Lib.hid hb
 clear hb
 go_enter Tryz.func86, Tryz.ntmps86
 go_wp2_with fail
 refine (octetTakeOk g s i 1 w h (by omega) (by omega)).mono ?_
 rintro e w' ⟨rfl, hr, hk⟩
 rw [show (1 : Int).toNat = 1 from rfl] at *
 rw [← ht]
 clear ht
 go_wp2
 go_ret2
 exact ⟨ret_two (v_int (by rw [HB.out])) rfl, hr, hk⟩
def leb : Nat → Nat → List UInt8
 | 0, n => [UInt8.ofNat n]
 | f + 1, n => if n < 128 then [UInt8.ofNat n] else UInt8.ofNat (n % 128 + 128) :: leb f (n / 128)
def enc (n : Nat) : List UInt8 := leb 9 n
def M64 : Nat := 18446744073709551616
theorem leb_small (f n : Nat) (h : n < 128) : leb f n = [UInt8.ofNat n] := by cases f <;> simp [leb, h]
theorem leb_big (f n : Nat) (h : ¬ n < 128) : leb (f + 1) n = UInt8.ofNat (n % 128 + 128) :: leb f (n / 128) := by simp [leb, h]
theorem leb_length (f n : Nat) : 1 ≤ (leb f n).length ∧ (leb f n).length ≤ f + 1 := by
 induction f generalizing n with
 | zero => simp [leb]
 | succ f ih =>
  by_cases h : n < 128
  ·rw [leb_small _ _ h]; simp
  ·rw [leb_big _ _ h, List.length_cons]; have := ih (n / 128); omega
theorem enc_length (n : Nat) : 1 ≤ (enc n).length ∧ (enc n).length ≤ 10 := leb_length 9 n
theorem pow128_succ (f : Nat) : (128 : Nat) ^ (f + 1) = 128 ^ f * 128 := Nat.pow_succ 128 f
theorem lt_div (f n : Nat) (h : n < 128 ^ (f + 2)) : n / 128 < 128 ^ (f + 1) := by
 rw [Nat.pow_succ] at h
 rw [Nat.div_lt_iff_lt_mul (by decide)]
 exact h
theorem m64_lt : M64 ≤ 128 ^ 10 := by unfold M64; rw [show (128 : Nat) ^ 10 = 1180591620717411303424 by decide +kernel]; omega
def rdV : Nat → Nat → Nat → List UInt8 → Nat × Nat × Nat
 | 0, _, _, _ => (0, 3, 0)
 | _ + 1, _, _, [] => (0, 2, 0)
 | f + 1, k, v, b :: l =>
  if (0 < k ∧ b = 0) ∨ (k = 9 ∧ 1 < b.toNat) then (0, 3, 1)
  else if b.toNat < 128 then (v + b.toNat * 128 ^ k, 0, 1)
  else ((rdV f (k + 1) (v + (b.toNat - 128) * 128 ^ k) l).1, (rdV f (k + 1) (v + (b.toNat - 128) * 128 ^ k) l).2.1, (rdV f (k + 1) (v + (b.toNat - 128) * 128 ^ k) l).2.2 + 1)
def rd (l : List UInt8) : Nat × Nat × Nat := rdV 10 0 0 l
theorem rdV_used (f : Nat) : ∀ k v l, (rdV f k v l).2.2 ≤ l.length := by
 induction f with
 | zero => intro k v l; simp [rdV]
 | succ f ih =>
  intro k v l
  cases l with
  | nil => simp [rdV]
  | cons b l =>
   rw [rdV]
   split
   ·simp
   ·split
    ·simp
    ·simp; exact ih _ _ _
theorem rdV_leb (f : Nat) : ∀ k v n r, f + k = 9 → n < 128 ^ (f + 1) → (k = 9 → n < 2) → (0 < k → 0 < n) → (n * 128 ^ k < M64) →
  rdV (f + 1) k v (leb f n ++ r) = (v + n * 128 ^ k, 0, (leb f n).length) := by
 induction f with
 | zero =>
  intro k v n r hk hn h9 h0 hm
  have hn2 : n < 2 := h9 (by omega)
  have hb : (UInt8.ofNat n).toNat = n := by simp; omega
  have hz : UInt8.ofNat n = 0 ↔ n = 0 := by
   constructor
   ·intro h; have := congrArg UInt8.toNat h; rw [hb] at this; simpa using this
   ·rintro rfl; rfl
  rw [leb, List.singleton_append, rdV, if_neg, if_pos (by rw [hb]; omega), hb]
  ·rfl
  ·rintro (⟨a, b⟩ | ⟨_, b⟩)
   ·have := h0 a; rw [hz] at b; omega
   ·rw [hb] at b; omega
 | succ f ih =>
  intro k v n r hk hn h9 h0 hm
  by_cases h : n < 128
  ·have hb : (UInt8.ofNat n).toNat = n := by simp; omega
   have hz : UInt8.ofNat n = 0 ↔ n = 0 := by
    constructor
    ·intro h; have := congrArg UInt8.toNat h; rw [hb] at this; simpa using this
    ·rintro rfl; rfl
   rw [leb_small _ _ h, List.singleton_append, rdV, if_neg, if_pos (by rw [hb]; omega), hb]
   ·rfl
   ·rintro (⟨a, b⟩ | ⟨a, b⟩)
    ·have := h0 a; rw [hz] at b; omega
    ·omega
  ·have hb : (UInt8.ofNat (n % 128 + 128)).toNat = n % 128 + 128 := by simp; omega
   have hz : UInt8.ofNat (n % 128 + 128) ≠ 0 := by
    intro h; have := congrArg UInt8.toNat h; rw [hb] at this; simp at this
   have hpow : n / 128 * 128 ^ (k + 1) ≤ n * 128 ^ k := by
    rw [pow128_succ, Nat.mul_comm (128 ^ k), ← Nat.mul_assoc]
    exact Nat.mul_le_mul_right _ (Nat.div_mul_le_self n 128)
   have hr := ih (k + 1) (v + n % 128 * 128 ^ k) (n / 128) r (by omega) (lt_div _ _ hn) (by
    intro h9'
    have : k = 8 := by omega
    subst this
    unfold M64 at hm
    have e : (128 : Nat) ^ 8 = 72057594037927936 := by decide
    rw [e] at hm
    omega) (by intro _; omega) (Nat.lt_of_le_of_lt hpow hm)
   rw [leb_big _ _ h, List.cons_append, rdV, if_neg, if_neg (by rw [hb]; omega), hb, Nat.add_sub_cancel, hr]
   ·simp only [List.length_cons]
    congr 1
    rw [pow128_succ, Nat.mul_comm (128 ^ k), ← Nat.mul_assoc, Nat.add_assoc, ← Nat.add_mul]
    congr 2
    omega
   ·rintro (⟨_, b⟩ | ⟨a, _⟩)
    ·exact hz b
    ·omega
theorem rd_enc (n : Nat) (r : List UInt8) (hn : n < M64) : rd (enc n ++ r) = (n, 0, (enc n).length) := by
 have := rdV_leb 9 0 0 n r rfl (Nat.lt_of_lt_of_le hn m64_lt) (by omega) (by omega) (by simpa using hn)
 simpa [rd, enc] using this
def encs (l : List Nat) : List UInt8 := l.flatMap enc
def encList (l : List Nat) : List UInt8 := enc l.length ++ encs l
theorem encs_next {l : List Nat} {k n : Nat} (h : l[k]? = some n) : encs (l.take k) ++ enc n = encs (l.take (k + 1)) := by
 rw [List.take_add_one, h]; simp [encs]
theorem encs_length (l : List Nat) : (encs l).length ≤ 10 * l.length := by
 induction l with
 | nil => simp [encs]
 | cons n l ih => simp only [encs, List.flatMap_cons, List.length_append, List.length_cons] at *; have := (enc_length n).2; omega
theorem encs_cons (n : Nat) (l : List Nat) : encs (n :: l) = enc n ++ encs l := rfl
theorem Tryz.infoU8 : (Tryz.prog.info? 5).map (fun i => (i.zero, i.size, i.bytes)) = some (some (.int .u8 0), 1, 1) := by kernel_rfl
def cellsB (l : List UInt8) : List Value := l.map fun b => Value.int .u8 b.toNat
def textB (l : List UInt8) : ByteArray := ⟨l.toArray⟩
theorem cellsB_text (l : List UInt8) : Lib.strCells (textB l) = cellsB l := by simp [Lib.strCells, textB, cellsB]
theorem textB_size (l : List UInt8) : (textB l).size = l.length := by simp [textB, ByteArray.size]
theorem cellsB_append (l m : List UInt8) : cellsB (l ++ m) = cellsB l ++ cellsB m := by simp [cellsB]
theorem cellsB_push (d : List UInt8) (b : UInt8) : cellsB d ++ [.int .u8 (b.toNat : Int)] = cellsB (d ++ [b]) := by simp [cellsB]
theorem byte_of (s : ByteArray) (i : Nat) (hi : i < s.size) : s.data.toList[i]? = some s[i] := by
 rw [Array.getElem?_toList]; exact Array.getElem?_eq_getElem hi
theorem convert_owned (w : World) (B : Nat) (v : Value) (l : List UInt8) (n : Nat) (hn : n = l.length) (ho : w.ownsRow B 5 1 v n (cellsB l)) :
  (convert 43 9 v).run Tryz.prog w = .ok (.string (textB l)) w := by
 subst hn
 rcases owns_row ho with ⟨rfl, h0, _⟩ | ⟨r, cap, cur, rfl, _⟩
 ·have hl : l = [] := List.length_eq_zero_iff.1 h0
  subst hl
  exact Lib.run_convert_nil_bytes (P := Tryz.prog) w 43 9 5 0 Tryz.underlying43 Tryz.underlying5 Tryz.underlying9
 ·have := Lib.run_convert_whole (P := Tryz.prog) w 43 5 9 Tryz.underlying43 Tryz.underlying5 Tryz.underlying9 r 0 (textB l) (fun i hi => by
   rw [Nat.zero_add, ← addr_add]
   refine ho.cells (g := r) rfl i _ ?_
   rw [← cellsB_text]
   simp only [Lib.strCells, List.getElem?_map, byte_of (textB l) i hi]; rfl) cap
  rw [textB_size] at this
  exact this
theorem owns_made (w : World) (e : TypeId) (z : Value) (hz : z.cells = #[z]) (n : Nat) (hn : n ≤ maxLen) :
  (w.alloc (.cells (madeCells #[z] n) e)).ownsRow w.heap.size e 1 (.slice (some ⟨w.heap.size, 0, none⟩) n n) n (List.replicate n z) := by
 have := World.ownsRow_lit (base := w.heap.size) (e := e) (size := 1) w (madeCells #[z] n) n (Nat.le_refl _) hn (by simp [size_madeCells])
 have e2 := zeros_made z hz n
 rw [hz, Nat.mul_one] at e2
 rwa [e2] at this
theorem owns_below {w w' : World} {B : Nat} {e : TypeId} {size n : Nat} {v : Value} {xs : List Value} (h : w.ownsRow B e size v n xs) (k : Below w.heap.size w w') : w'.ownsRow B e size v n xs :=
 owns_kept h (Kept.of_below k) (fun _ _ _ _ hf => hf)
theorem text_append (a b : List UInt8) : textB a ++ textB b = textB (a ++ b) := by apply eq_of_data; simp [textB]
theorem cellsB_set (l : List UInt8) (i : Nat) (n : Nat) (h : n < 256) : (cellsB l).set i (.int .u8 (n : Int)) = cellsB (l.set i (UInt8.ofNat n)) := by
 unfold cellsB
 rw [List.map_set, UInt8.toNat_ofNat', Nat.mod_eq_of_lt h]
end Go.Proofs.YtmadgdmiipgjoaaGreat
