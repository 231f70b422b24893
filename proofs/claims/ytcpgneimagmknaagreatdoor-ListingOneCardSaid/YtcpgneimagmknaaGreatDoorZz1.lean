import Derived.WalkKit
import Derived.ProofKit
import Derived.Lib.Hide
import Derived.Lib.AppendStr
import Derived.Lib.SlBytesRow
import Derived.Laws.AppendOwnNone
import Derived.Deep.AppendLies
import Derived.Deep.Draws
import Derived.BigQuiet
import Derived.Deep.QuietTactic
import Derived.Deep.RegionWith
import Derived.OpenShut
import Derived.Outline
import Derived.Deep.Slices
import Derived.ChangeSame
import Derived.Laws.IdiomStrings
import Derived.SliceStrings
import Derived.Laws.DeepStrings4
import Derived.SizedLaws
import Derived.Laws.OwnMore
import Derived.Test.YtcpgneimagmknaaGreatDoorRows
import Derived.Deep.DeepCutAuto
import Derived.Lib.LaidTab
import Derived.Lib.BufferRead
import Derived.Deep.OwnRows
import Derived.Laws.StructEq
import Derived.Test.YtcpgneimagmknaaGreatDoorShelf
import Derived.Lib.ItoaMem
import Derived.Lib.AppendIntMem
import Derived.Lib.Walk
import Derived.BigCall
import Derived.BigGuard
import Derived.Test.YtcpgneimagmknaaGreatDoorCards
import Derived.Test.YtcpgneimagmknaaGreatDoorTie
import Derived.Deep.DeepHandedRow
import Derived.Deep.DeepWitnessRowRef
import Derived.Deep.DeepLaidRun
import Derived.Lib.LaidU8
import Derived.Shelf.Vars
import Derived.Deep.RegionHeld3
import Derived.IntWalk
import Derived.Laws.BitsAllLaws
import Derived.Laws.Bits64
import Derived.Laws.Bits64b
import Derived.Deep.RegionHeld
import Derived.ShutString
import Derived.ChangeOld
import Derived.Below
namespace Go.Proofs.YtcpgneimagmknaaGreatDoor
open Go.RowKit
set_option linter.unusedVariables false
set_option linter.unusedSimpArgs false
theorem then_ {w w1 w2 : World} (h : Below w.heap.size w w1) (h2 : Below w1.heap.size w1 w2) : Below w.heap.size w w2 := h.trans (h2.mono h.size)
theorem below_of_grown {w w' : World} {base : Nat} {e : TypeId} {size : Nat} {v : Value} {n : Nat} {xs : List Value} {o : Obj}
  (hown : w.ownsRow base e size v n xs) (hb : base ≤ w.heap.size) (hg : (w.alloc o).grownBy w' v.ownBlock) : Below base w w' :=
 ((Below.refl _ _).alloc hb o).grown hg (by simp; omega) (fun k hk => by have := hown.lt k hk; omega)
theorem append_one {P : Program} {ops : Array Oper} {rest : List Oper} {o : Oper} {a : Act} {Q : Exit → Act → World → Prop} (w : World) (x : Value)
  (hg : o.guard = none) (s y : Operand) (t : TypeId) (hop : o.op = Op.call { callee := Callee.builtin Builtin.append, args := #[s, y], argTypes := #[t, t] })
  (base : Nat) (e : TypeId) (z : Value) (bytes : Nat) (ht : P.underlying t = some (.slice e)) (hi : (P.info? e).map (fun i => (i.zero, i.size, i.bytes)) = some (some z, 1, bytes))
  (hzs : z.cells.size = 1) (hx1 : x.oneCell' = true)
  (v : Value) (n : Nat) (xs : List Value) (hs : a.eval s = v) (hown : w.ownsRow base e 1 v n xs) (hy : a.eval y = .slice (some ⟨w.heap.size, 0, none⟩) 1 1)
  (b1 : n + 1 ≤ maxLen) (b2 : (n + 1) * bytes ≤ 140737488355328) (b3 : base ≤ w.heap.size)
  (hK : ∀ v' w', w'.ownsRow base e 1 v' (n + 1) (xs ++ [x]) → Below base w w' → (w.alloc (.cells #[x] e)).grownBy w' v.ownBlock → wpList P ops Q rest (a.put o.dst v') w') :
  wpList P ops Q (o :: rest) a (w.alloc (.cells #[x] e)) := by
 obtain ⟨i0, hi, hz0, hz1, hz2⟩ := info_parts hi
 refine wpList_append_own _ hg s y t hop base e i0 z 1 bytes ht hi hz0 hz1 hz2 hzs (by decide) v n xs hs (hown.alloc _) ⟨w.heap.size, 0, none⟩ 1 1 [x] hy rfl ?_ ?_ b1 b2 (by simp; omega) ?_
 ·intro j u hj
  match j, hj with
  | 0, hj => simp at hj; subst hj; simp [Addr.add, World.cell?_alloc_at]
 ·intro u hu; simp at hu; subst hu; exact hx1
 ·intro v' w' ho hgr _
  exact hK v' w' ho (below_of_grown hown b3 hgr) hgr
theorem addr_add (g j : Nat) : (⟨g, 0, none⟩ : Addr).add j = ⟨g, j, none⟩ := by unfold Addr.add; split <;> simp_all
theorem ret_int {k : IntKind} {a b : Int} (h : a = b) : Ending.returned (.int k a) = .returned (.int k b) := by rw [h]
theorem ret_bool {a b : Bool} (h : a = b) : Ending.returned (.bool a) = .returned (.bool b) := by rw [h]
def Lies (w : World) (g : Nat) (t : TypeId) (cs : Array Value) : Prop := w.heap[g]? = some (.cells cs t (0, 0))
theorem Lies.lt {w : World} {g : Nat} {t : TypeId} {cs : Array Value} (h : Lies w g t cs) : g < w.heap.size := by
 unfold Lies at h
 exact (Array.getElem?_eq_some_iff.1 h).1
theorem Lies.cell {w : World} {g : Nat} {t : TypeId} {cs : Array Value} (h : Lies w g t cs) (i : Nat) : w.cell? ⟨g, i, none⟩ = cs[i]? := by
 unfold Lies at h
 simp [World.cell?, h]
theorem Lies.free {w : World} {g : Nat} {t : TypeId} {cs : Array Value} (h : Lies w g t cs) (i : Nat) : w.frozen? ⟨g, i, none⟩ = false := by
 unfold Lies at h
 simp [World.frozen?, h]
theorem Lies.made (w : World) (t : TypeId) (cs : Array Value) : Lies (w.alloc (.cells cs t)) w.heap.size t cs := heap_alloc_new w _
theorem Lies.put {w : World} {g : Nat} {t : TypeId} {cs : Array Value} (h : Lies w g t cs) (i : Nat) (u : Value) : Lies (w.setCell ⟨g, i, none⟩ u) g t (cs.setIfInBounds i u) := by
 unfold Lies at h ⊢
 simp [World.setCell, Array.getElem?_modify, h]
theorem Lies.same {w : World} {g : Nat} {t t' : TypeId} {cs cs' : Array Value} (h : Lies w g t cs) (h' : Lies w g t' cs') : t = t' ∧ cs = cs' := by
 unfold Lies at h h'
 rw [h] at h'
 injection h' with h'
 injection h' with h1 h2 _
 exact ⟨h2, h1⟩
structure Kept (S : Nat → Prop) (w1 w2 : World) : Prop where
 os : w2.os = w1.os
 tape : w2.tape = w1.tape
 output : w2.output = w1.output
 size : w1.heap.size ≤ w2.heap.size
 at_ : ∀ k, k < w1.heap.size → ¬ S k → w2.heap[k]? = w1.heap[k]?
def noRow : Nat → Prop := fun _ => False
def oneRow (g : Nat) : Nat → Prop := fun k => k = g
theorem Kept.refl (S : Nat → Prop) (w : World) : Kept S w w := ⟨rfl, rfl, rfl, Nat.le_refl _, fun _ _ _ => rfl⟩
theorem Kept.trans {S T : Nat → Prop} {a b c : World} (h : Kept S a b) (k : Kept T b c) (hs : ∀ i, i < a.heap.size → T i → S i) : Kept S a c :=
 ⟨k.os.trans h.os, k.tape.trans h.tape, k.output.trans h.output, Nat.le_trans h.size k.size, fun i hi hn =>
  (k.at_ i (Nat.lt_of_lt_of_le hi h.size) (fun ht => hn (hs i hi ht))).trans (h.at_ i hi hn)⟩
theorem Kept.mono {S T : Nat → Prop} {a b : World} (h : Kept S a b) (hs : ∀ i, i < a.heap.size → S i → T i) : Kept T a b :=
 ⟨h.os, h.tape, h.output, h.size, fun i hi hn => h.at_ i hi (fun ht => hn (hs i hi ht))⟩
theorem Kept.drewN (S : Nat → Prop) (w : World) (n : Nat) : Kept S w (w.drewN n) := ⟨rfl, rfl, rfl, Nat.le_refl _, fun _ _ _ => rfl⟩
theorem Kept.alloc (S : Nat → Prop) (w : World) (o : Obj) : Kept S w (w.alloc o) := ⟨rfl, rfl, rfl, by simp, fun _ hk _ => heap_alloc_old w o hk⟩
theorem Kept.put (w : World) (g i : Nat) (u : Value) : Kept (oneRow g) w (w.setCell ⟨g, i, none⟩ u) :=
 ⟨rfl, rfl, rfl, by simp, fun k _ hn => Below.heap_setCell _ _ _ _ (fun e => hn e)⟩
theorem Kept.of_grown {w w' : World} {row : Option Nat} (h : w.grownBy w' row) : Kept (fun k => row = some k) w w' :=
 ⟨h.os, h.tape, h.output, h.size, fun k hk hn => h.block k hk (fun e => hn e.symm)⟩
theorem Kept.of_below {w w' : World} (h : Below w.heap.size w w') : Kept noRow w w' := ⟨h.os, h.tape, h.output, h.size, fun k hk _ => h.block k hk⟩
theorem Kept.below {S : Nat → Prop} {B : Nat} {w w' : World} (h : Kept S w w') (hB : B ≤ w.heap.size) (hs : ∀ k, k < B → ¬ S k) : Below B w w' :=
 ⟨h.os, h.tape, h.output, h.size, fun k hk => h.at_ k (by omega) (hs k hk)⟩
section
variable {S : Nat → Prop} {w w' : World} {g : Nat} {t : TypeId} {cs : Array Value} {B : Nat} {e : TypeId} {size : Nat} {v : Value} {n : Nat} {xs : List Value}
theorem Lies.kept (h : Lies w g t cs) (k : Kept S w w') (hn : ¬ S g) : Lies w' g t cs := (k.at_ g h.lt hn).trans h
theorem Lies.below (h : Lies w g t cs) (k : Below B w w') (hg : g < B) : Lies w' g t cs := (k.block g hg).trans h
theorem Lies.drewN (h : Lies w g t cs) (m : Nat) : Lies (w.drewN m) g t cs := h
theorem Lies.alloc (h : Lies w g t cs) (o : Obj) : Lies (w.alloc o) g t cs := (heap_alloc_old w o h.lt).trans h
theorem Lies.far (h : Lies w g t cs) {p : Addr} (hp : g ≠ p.block) (u : Value) : Lies (w.setCell p u) g t cs := (Below.heap_setCell w p u g hp).trans h
theorem owns_row (h : w.ownsRow B e size v n xs) : (v = .slice none 0 0 ∧ n = 0 ∧ xs = []) ∨ ∃ r cap cur, v = .slice (some ⟨r, 0, none⟩) n cap ∧ B ≤ r ∧ Lies w r e cur ∧ n ≤ cap ∧ cap ≤ maxLen := by
 rcases h.2 with ⟨rfl, rfl⟩ | ⟨r, cap, cur, rfl, hb, hh, h1, h2, _⟩
 ·exact .inl ⟨rfl, rfl, by have := h.1; simpa using this⟩
 ·exact .inr ⟨r, cap, cur, rfl, hb, hh, h1, h2⟩
theorem owns_kept (h : w.ownsRow B e size v n xs) (k : Kept S w w') (hn : ∀ r cur, v.ownBlock = some r → Lies w r e cur → ¬ S r) : w'.ownsRow B e size v n xs := by
 refine ⟨h.1, ?_⟩
 rcases h.2 with h2 | ⟨r, cap, cur, rfl, hb, hh, rest⟩
 ·exact .inl h2
 ·exact .inr ⟨r, cap, cur, rfl, hb, (k.at_ r (Array.getElem?_eq_some_iff.1 hh).1 (hn r cur rfl hh)).trans hh, rest⟩
theorem owns_put (h : w.ownsRow B e size v n xs) (hg : Lies w g t cs) (hne : e ≠ t) (i : Nat) (u : Value) : (w.setCell ⟨g, i, none⟩ u).ownsRow B e size v n xs :=
 owns_kept h (Kept.put w g i u) (fun r cur _ hl hr => by
  have : r = g := hr
  subst this
  exact hne (hl.same hg).1)
theorem own_ne (h : w.ownsRow B e size v n xs) (hl : Lies w g t cs) (hne : e ≠ t) : ¬ v.ownBlock = some g := by
 intro hv
 rcases owns_row h with ⟨rfl, _⟩ | ⟨r, cap, cur, rfl, hr, hl2, _⟩
 ·cases hv
 ·obtain rfl : r = g := by simpa [Value.ownBlock] using hv
  exact hne (hl2.same hl).1
theorem kept_grown {o : Obj} {row : Option Nat} (h : (w.alloc o).grownBy w' row) : Kept (fun k => row = some k) w w' :=
 (Kept.alloc _ w o).trans (Kept.of_grown h) (fun _ _ h => h)
theorem owns_set {r cap k : Nat} {u : Value} (h : w.ownsRow B e 1 (.slice (some ⟨r, 0, none⟩) n cap) n xs) (hk : k < n) :
  (w.setCell ⟨r, k, none⟩ u).ownsRow B e 1 (.slice (some ⟨r, 0, none⟩) n cap) n (xs.set k u) := by
 obtain ⟨h1, h2⟩ := h
 refine ⟨by rw [List.length_set]; exact h1, ?_⟩
 rcases h2 with ⟨h2, _⟩ | ⟨r', cap', cur, hv, hb, hh, hc, hm, hs, ht⟩
 ·cases h2
 ·simp only [Value.slice.injEq, Option.some.injEq, Addr.mk.injEq] at hv
  obtain ⟨⟨rfl, _, _⟩, _, rfl⟩ := hv
  refine .inr ⟨r, cap, cur.setIfInBounds k u, rfl, hb, ?_, hc, hm, by rw [Array.size_setIfInBounds]; exact hs, ?_⟩
  ·simp [World.setCell, Array.getElem?_modify, hh]
  ·rw [← ht, Array.toList_setIfInBounds]
   exact List.take_set
theorem owns_cell {r cap k : Nat} {u : Value} (h : w.ownsRow B e 1 (.slice (some ⟨r, 0, none⟩) n cap) n xs) (hk : xs[k]? = some u) : w.cell? ⟨r, k, none⟩ = some u := by
 have := h.cells (g := r) rfl k u hk
 rwa [addr_add] at this
theorem owns_mono (h : w.ownsRow B e size v n xs) {B' : Nat} (hB : B' ≤ B) : w.ownsRow B' e size v n xs := by
 refine ⟨h.1, ?_⟩
 rcases h.2 with h2 | ⟨r, cap, cur, rfl, hb, rest⟩
 ·exact .inl h2
 ·exact .inr ⟨r, cap, cur, rfl, by omega, rest⟩
end
theorem addr_plus (b off k : Nat) : (⟨b, off, none⟩ : Addr).add k = ⟨b, off + k, none⟩ := by unfold Addr.add; split <;> simp_all
theorem eq_of_data {a b : ByteArray} (h : a.data.toList = b.data.toList) : a = b := ByteArray.ext (Array.toList_inj.1 h)
theorem text_ne {a b : ByteArray} (h : a ≠ b) : (a.toList == b.toList) = false := by
 rw [beq_eq_false_iff_ne, ByteArray.toList_eq, ByteArray.toList_eq]
 exact fun h2 => h (eq_of_data h2)
theorem strCells_append (a b : ByteArray) : Lib.strCells (a ++ b) = Lib.strCells a ++ Lib.strCells b := by
 simp [Lib.strCells]
theorem below_drewN {B : Nat} {a w : World} (h : Below B a w) (n : Nat) : Below B a (w.drewN n) := ⟨h.os, h.tape, h.output, h.size, h.block⟩
theorem cell_later {w w' : World} {p : Addr} {v : Value} (h : w.cell? p = some v) (hb : Below w.heap.size w w') : w'.cell? p = some v := (hb.cell (World.block_lt_of_cell? w _ h)).trans h
theorem Lies.drew {w : World} {g : Nat} {t : TypeId} {cs : Array Value} (h : Lies w g t cs) : Lies w.drew g t cs := h
theorem Kept.drew (S : Nat → Prop) (w : World) : Kept S w w.drew := Kept.drewN S w 1
def SeqS (w : World) (sz : Nat) (v : Value) (n : Nat) (xs : List Value) : Prop :=
 xs.length = n * sz ∧ ∃ A c, v = .slice A n c ∧ n ≤ c ∧ c ≤ maxLen ∧ (A = none → c = 0) ∧ ∀ k u, xs[k]? = some u → ∃ b off, A = some ⟨b, off, none⟩ ∧ w.cell? ⟨b, off + k, none⟩ = some u
section
variable {w w' : World} {B : Nat} {e : TypeId} {sz n : Nat} {v : Value} {xs : List Value}
theorem SeqS.of_owns (h : w.ownsRow B e sz v n xs) : SeqS w sz v n xs := by
 refine ⟨h.1, ?_⟩
 rcases owns_row h with ⟨rfl, h0, rfl⟩ | ⟨r, cap, cur, rfl, _, _, h1, h2⟩
 ·subst h0
  exact ⟨none, 0, rfl, Nat.le_refl _, by unfold maxLen; omega, fun _ => rfl, fun k u hu => by simp at hu⟩
 ·exact ⟨_, cap, rfl, h1, h2, (fun h => by cases h), fun k u hu => ⟨r, 0, rfl, by
   have := h.cells (g := r) rfl k u hu
   rw [addr_add] at this
   rw [Nat.zero_add]; exact this⟩⟩
theorem SeqS.later (h : SeqS w sz v n xs) (hb : Below w.heap.size w w') : SeqS w' sz v n xs := by
 obtain ⟨h1, A, c, rfl, h2, h3, h0, h4⟩ := h
 refine ⟨h1, A, c, rfl, h2, h3, h0, fun k u hu => ?_⟩
 obtain ⟨b, off, rfl, hc⟩ := h4 k u hu
 exact ⟨b, off, rfl, (hb.cell (p := ⟨b, off + k, none⟩) (World.block_lt_of_cell? w _ hc)).trans hc⟩
theorem SeqS.elem (h : SeqS w sz v n xs) {i : Nat} (hi : i < n) (hz : 0 < sz) : ∃ b off c, v = .slice (some ⟨b, off, none⟩) n c ∧ n ≤ c ∧ c ≤ maxLen ∧ ∀ j u, j < sz → xs[i * sz + j]? = some u → w.cell? ⟨b, off + i * sz + j, none⟩ = some u := by
 obtain ⟨h1, A, c, rfl, h2, h3, _, h4⟩ := h
 have hl : i * sz < xs.length := by rw [h1]; exact Nat.mul_lt_mul_of_pos_right hi hz
 obtain ⟨b, off, rfl, _⟩ := h4 (i * sz) _ (List.getElem?_eq_getElem hl)
 refine ⟨b, off, c, rfl, h2, h3, fun j u hj hu => ?_⟩
 obtain ⟨b', off', e, hc⟩ := h4 _ u hu
 cases e
 rw [Nat.add_assoc]; exact hc
theorem SeqS.form (h : SeqS w sz v n xs) : ∃ A c, v = .slice A n c ∧ n ≤ c ∧ c ≤ maxLen ∧ (A = none → c = 0) := by
 obtain ⟨h1, A, c, rfl, h2, h3, h0, _⟩ := h
 exact ⟨A, c, rfl, h2, h3, h0⟩
end
theorem append_oneS {P : Program} {ops : Array Oper} {rest : List Oper} {o : Oper} {a : Act} {Q : Exit → Act → World → Prop} (w : World) (x : Array Value) (sz : Nat)
  (hg : o.guard = none) (s y : Operand) (t : TypeId) (hop : o.op = Op.call { callee := Callee.builtin Builtin.append, args := #[s, y], argTypes := #[t, t] })
  (base : Nat) (e : TypeId) (z : Value) (bytes : Nat) (ht : P.underlying t = some (.slice e)) (hi : (P.info? e).map (fun i => (i.zero, i.size, i.bytes)) = some (some z, sz, bytes))
  (hzs : z.cells.size = sz) (hsz : 0 < sz) (hxs : x.size = sz) (hx1 : ∀ u ∈ x.toList, u.oneCell' = true)
  (v : Value) (n : Nat) (xs : List Value) (hs : a.eval s = v) (hown : w.ownsRow base e sz v n xs) (hy : a.eval y = .slice (some ⟨w.heap.size, 0, none⟩) 1 1)
  (b1 : n + 1 ≤ maxLen) (b2 : (n + 1) * bytes ≤ 140737488355328) (b3 : base ≤ w.heap.size)
  (hK : ∀ v' w', w'.ownsRow base e sz v' (n + 1) (xs ++ x.toList) → Below base w w' → (w.alloc (.cells x e)).grownBy w' v.ownBlock → wpList P ops Q rest (a.put o.dst v') w') :
  wpList P ops Q (o :: rest) a (w.alloc (.cells x e)) := by
 obtain ⟨i0, hi, hz0, hz1, hz2⟩ := info_parts hi
 refine wpList_append_own _ hg s y t hop base e i0 z sz bytes ht hi hz0 hz1 hz2 hzs hsz v n xs hs (hown.alloc _) ⟨w.heap.size, 0, none⟩ 1 1 x.toList hy (by simp [hxs]) ?_ hx1 b1 b2 (by simp; omega) ?_
 ·intro j u hj
  rw [addr_add, (Lies.made w e x).cell j]
  simpa using hj
 ·intro v' w' ho hgr _
  exact hK v' w' ho (below_of_grown hown b3 hgr) hgr
theorem append_argS {P : Program} {ops : Array Oper} {rest : List Oper} {o : Oper} {a : Act} {Q : Exit → Act → World → Prop} (w : World) (sz : Nat)
  (hg : o.guard = none) (s y : Operand) (t : TypeId) (hop : o.op = Op.call { callee := Callee.builtin Builtin.append, args := #[s, y], argTypes := #[t, t] })
  (base : Nat) (e : TypeId) (z : Value) (bytes : Nat) (ht : P.underlying t = some (.slice e)) (hi : (P.info? e).map (fun i => (i.zero, i.size, i.bytes)) = some (some z, sz, bytes))
  (hzs : z.cells.size = sz) (hsz : 0 < sz)
  (v : Value) (n : Nat) (ys : List Value) (hs : a.eval s = v) (hown : w.ownsRow base e sz v n ys) (A : Option Addr) (len cap : Nat) (hy : a.eval y = .slice A len cap)
  (xs : List Value) (hx : SeqS w sz (.slice A len cap) len xs) (h1 : ∀ u ∈ xs, u.oneCell' = true)
  (b1 : n + len ≤ maxLen) (b2 : (n + len) * bytes ≤ 140737488355328) (b3 : base ≤ w.heap.size)
  (hK : ∀ v' w', w'.ownsRow base e sz v' (n + len) (ys ++ xs) → Below base w w' → w.grownBy w' v.ownBlock → wpList P ops Q rest (a.put o.dst v') w') :
  wpList P ops Q (o :: rest) a w := by
 obtain ⟨i0, hi, hz0, hz1, hz2⟩ := info_parts hi
 obtain ⟨hl, A', c', e1, hlc, hcm, h0, hcell⟩ := hx
 simp only [Value.slice.injEq, true_and] at e1
 obtain ⟨rfl, rfl⟩ := e1
 cases A with
 | none =>
  have hc0 := h0 rfl
  subst hc0
  obtain rfl : len = 0 := by omega
  have hx0 : xs = [] := List.length_eq_zero_iff.1 (by simpa using hl)
  subst hx0
  refine wpList_append_own_none hg s y t hop base e i0 sz ht hi v n ys hs hown hy ?_
  exact hK v w (by simpa using hown) (Below.refl _ _) ⟨rfl, rfl, rfl, Nat.le_refl _, fun _ _ _ => rfl⟩
 | some ad =>
  refine wpList_append_own _ hg s y t hop base e i0 z sz bytes ht hi hz0 hz1 hz2 hzs hsz v n ys hs hown ad len cap xs hy hl ?_ h1 b1 b2 b3 ?_
  ·intro j u hj
   obtain ⟨b, off, he, hc⟩ := hcell j u hj
   injection he with he
   subst he
   rw [addr_plus]; exact hc
  ·intro v' w' ho hgr _
   exact hK v' w' ho ((Below.refl _ _).grown hgr b3 (fun k hk => (hown.lt k hk).1)) hgr
section
variable {α : Type} {f : α → List Value} {sz : Nat}
def rowsOf (f : α → List Value) (l : List α) : List Value := l.flatMap f
theorem rowsOf_length (hf : ∀ x, (f x).length = sz) (l : List α) : (rowsOf f l).length = l.length * sz := by
 induction l with
 | nil => simp [rowsOf]
 | cons a l ih => simp only [rowsOf, List.flatMap_cons, List.length_append, List.length_cons, Nat.add_mul, hf] at *; omega
theorem rowsOf_append (l m : List α) : rowsOf f (l ++ m) = rowsOf f l ++ rowsOf f m := by simp [rowsOf]
theorem rowsOf_one (a : α) : rowsOf f [a] = f a := by simp [rowsOf]
theorem rowsOf_cons (a : α) (l : List α) : rowsOf f (a :: l) = f a ++ rowsOf f l := by simp [rowsOf]
theorem rowsOf_get (hf : ∀ x, (f x).length = sz) : ∀ {l : List α} {i : Nat} {x : α} (_ : l[i]? = some x) {j : Nat} (_ : j < sz), (rowsOf f l)[i * sz + j]? = (f x)[j]?
 | a :: l, 0, x, h, j, hj => by
  simp at h; subst h
  rw [rowsOf_cons, Nat.zero_mul, Nat.zero_add, List.getElem?_append_left (by rw [hf]; exact hj)]
 | a :: l, i + 1, x, h, j, hj => by
  rw [rowsOf_cons, List.getElem?_append_right (by rw [hf, Nat.add_mul]; omega), hf, show (i + 1) * sz + j - sz = i * sz + j by rw [Nat.add_mul]; omega]
  exact rowsOf_get hf (by simpa using h) hj
theorem SeqS.at_ {w : World} {A : Option Addr} {n c : Nat} {l : List α} (hf : ∀ x, (f x).length = sz) (hs : 0 < sz) (h : SeqS w sz (.slice A n c) n (rowsOf f l)) {k : Nat} {x : α} (hx : l[k]? = some x) :
  ∃ b off, A = some ⟨b, off, none⟩ ∧ b < w.heap.size ∧ ∀ j u, j < sz → (f x)[j]? = some u → w.cell? ⟨b, off + k * sz + j, none⟩ = some u := by
 have hk : k < n := by
  have h1 := h.1
  rw [rowsOf_length hf] at h1
  have := Nat.eq_of_mul_eq_mul_right hs h1
  rw [← this]; exact (List.getElem?_eq_some_iff.1 hx).1
 obtain ⟨b, off, c', hA, _, _, hc⟩ := h.elem (i := k) hk hs
 simp only [Value.slice.injEq] at hA
 obtain ⟨rfl, _, _⟩ := hA
 have hg := fun j u hj hu => hc j u hj (by rw [rowsOf_get hf hx hj]; exact hu)
 refine ⟨b, off, rfl, ?_, hg⟩
 have hl := hf x
 exact World.block_lt_of_cell? w _ (hg 0 _ hs (List.getElem?_eq_getElem (by omega)))
end
structure In where
 op : Int
 a : Int
 b : Int
 c : Int
 d : Int
 k : Nat
instance : Inhabited In := ⟨⟨0, 0, 0, 0, 0, 0⟩⟩
def inF (x : In) : List Value := [.int .i64 x.op, .int .i64 x.a, .int .i64 x.b, .int .i64 x.c, .int .i64 x.d, .int .u64 (x.k : Int)]
abbrev inC (x : In) : Array Value := #[.int .i64 x.op, .int .i64 x.a, .int .i64 x.b, .int .i64 x.c, .int .i64 x.d, .int .u64 (x.k : Int)]
theorem inF_length (x : In) : (inF x).length = 6 := rfl
def i64 (z : Int) : Prop := -9223372036854775808 ≤ z ∧ z ≤ 9223372036854775807
def inOk (x : In) : Prop := i64 x.op ∧ i64 x.a ∧ i64 x.b ∧ i64 x.c ∧ i64 x.d ∧ x.k ≤ 18446744073709551615
structure Ri where
 k : Int
 c : Int
 r : Int
instance : Inhabited Ri := ⟨⟨0, 0, 0⟩⟩
def riF (x : Ri) : List Value := [.int .i64 x.k, .int .i64 x.c, .int .i64 x.r]
abbrev riC (x : Ri) : Array Value := #[.int .i64 x.k, .int .i64 x.c, .int .i64 x.r]
theorem riF_length (x : Ri) : (riF x).length = 3 := rfl
structure Pg where
 rs : List Ri
 ts : List (List In)
abbrev InsAt (w : World) (A : Option Addr) (c : Nat) (l : List In) : Prop := SeqS w 6 (.slice A l.length c) l.length (rowsOf inF l)
abbrev RisAt (w : World) (A : Option Addr) (c : Nat) (l : List Ri) : Prop := SeqS w 3 (.slice A l.length c) l.length (rowsOf riF l)
def ThsAt (w : World) (A : Option Addr) (c : Nat) (ts : List (List In)) : Prop :=
 ∃ vs : List Value, SeqS w 1 (.slice A ts.length c) ts.length vs ∧ ∀ (i : Nat) (l : List In), ts[i]? = some l → ∃ B d, vs[i]? = some (Value.slice B l.length d) ∧ InsAt w B d l
def PgAt (w : World) (A : Option Addr) (c : Nat) (B : Option Addr) (d : Nat) (p : Pg) : Prop := RisAt w A c p.rs ∧ ThsAt w B d p.ts
abbrev pgC (A : Option Addr) (c : Nat) (B : Option Addr) (d : Nat) (p : Pg) : Array Value := #[.slice A p.rs.length c, .slice B p.ts.length d]
section
variable {w w' : World} {A B : Option Addr} {c d : Nat} {p : Pg} {ts : List (List In)}
theorem ThsAt.later (h : ThsAt w A c ts) (k : Below w.heap.size w w') : ThsAt w' A c ts := by
 obtain ⟨vs, h1, h2⟩ := h
 refine ⟨vs, h1.later k, fun i l hl => ?_⟩
 obtain ⟨B, d, h3, h4⟩ := h2 i l hl
 exact ⟨B, d, h3, h4.later k⟩
theorem PgAt.later (h : PgAt w A c B d p) (k : Below w.heap.size w w') : PgAt w' A c B d p := ⟨h.1.later k, h.2.later k⟩
theorem seq_form {sz n : Nat} {xs : List Value} (h : SeqS w sz (.slice A n c) n xs) : n ≤ c ∧ c ≤ 9223372036854775807 := by
 obtain ⟨A', c', e, h1, h2, _⟩ := h.form
 simp only [Value.slice.injEq, true_and] at e
 obtain ⟨rfl, rfl⟩ := e
 unfold maxLen at h2
 exact ⟨h1, h2⟩
theorem ThsAt.form (h : ThsAt w A c ts) : ts.length ≤ c ∧ c ≤ 9223372036854775807 := by
 obtain ⟨vs, h1, _⟩ := h
 exact seq_form h1
theorem ThsAt.at_ (h : ThsAt w A c ts) {i : Nat} {l : List In} (hl : ts[i]? = some l) : ∃ b off B d, A = some ⟨b, off, none⟩ ∧ w.cell? ⟨b, off + i, none⟩ = some (.slice B l.length d) ∧ InsAt w B d l := by
 obtain ⟨vs, h1, h2⟩ := h
 obtain ⟨B, d, h3, h4⟩ := h2 i l hl
 obtain ⟨_, A', c', e, _, _, _, hc⟩ := h1
 simp only [Value.slice.injEq, true_and] at e
 obtain ⟨rfl, rfl⟩ := e
 obtain ⟨b, off, e2, hc⟩ := hc i _ h3
 exact ⟨b, off, B, d, e2, hc, h4⟩
theorem InsAt.at_ {l : List In} (h : InsAt w A c l) {i : Nat} {x : In} (hx : l[i]? = some x) : ∃ b off, A = some ⟨b, off, none⟩ ∧ b < w.heap.size ∧ ∀ j u, j < 6 → (inF x)[j]? = some u → w.cell? ⟨b, off + i * 6 + j, none⟩ = some u :=
 SeqS.at_ inF_length (by decide) h hx
theorem RisAt.at_ {l : List Ri} (h : RisAt w A c l) {i : Nat} {x : Ri} (hx : l[i]? = some x) : ∃ b off, A = some ⟨b, off, none⟩ ∧ b < w.heap.size ∧ ∀ j u, j < 3 → (riF x)[j]? = some u → w.cell? ⟨b, off + i * 3 + j, none⟩ = some u :=
 SeqS.at_ riF_length (by decide) h hx
end
def opB (op : Int) : Bool := decide (1 ≤ op ∧ op ≤ 25)
def gL (op : Int) : Int × Int × Int × Int :=
 if op = 1 then (7, 0, 0, 0) else if op = 2 then (7, 7, 0, 0) else if op = 23 then (7, 7, 0, 0) else if op = 15 then (0, 0, 0, 0) else
 if op = 16 then (7, 0, 0, 0) else if op = 17 then (7, 0, 0, 0) else if op = 18 then (7, 7, 7, 2) else if op = 19 then (7, 7, 7, 2) else if op = 20 then (0, 0, 7, 0) else
 if op = 21 then (7, 0, 0, 0) else if op = 22 then (7, 0, 0, 0) else if op = 24 then (7, 0, 0, 0) else if op = 25 then (0, 0, 0, 0) else (7, 7, 7, 0)
def gK (op : Int) : Nat :=
 if op = 1 then 18446744073709551615 else if op = 15 then 256 else if op = 16 then 256 else if op = 17 then 256 else if op = 19 then 7 else 0
def wB (n m : Int) : Bool := decide (0 ≤ n) && decide (n ≤ m)
def kB (x : In) : Bool := decide (x.k ≤ gK x.op)
def rightB (x : In) : Bool := opB x.op && (wB x.a (gL x.op).1 && (wB x.b (gL x.op).2.1 && (wB x.c (gL x.op).2.2.1 && (wB x.d (gL x.op).2.2.2 && kB x))))
theorem gK_wf (op : Int) : gK op ≤ 18446744073709551615 := by
 unfold gK
 repeat' split
 all_goals decide
section
variable {P : Program} {f : FuncId} {args : Array Value} {W : World} {v : Value} {F : Nat → World}
theorem quiet_same3 (h : Calls P f args W fun e w' => e = .returned v ∧ W = w') (hW : ∃ n, W = F n) : Calls P f args W fun e w'' => e = .returned v ∧ ∃ m, w'' = F m :=
 h.mono fun e w' q => ⟨q.1, by obtain ⟨n, hn⟩ := hW; exact ⟨n, q.2.symm.trans hn⟩⟩
end
theorem within_any (n m : Int) (w : World) : Calls Tryz.prog 52 #[.int .i64 n, .int .i64 m] w fun e w' => e = .returned (.bool (wB n m)) ∧ w = w' := by
 unfold wB
 by_cases h : (0 : Int) ≤ n
 ·have e1 : decide ((0 : Int) ≤ n) = true := by simpa using h
  go_enter Tryz.func52, Tryz.ntmps52
  go_wp2
  go_ret
  exact ⟨by simp [h], rfl⟩
 ·have e1 : decide ((0 : Int) ≤ n) = false := by simpa using h
  go_enter Tryz.func52, Tryz.ntmps52
  go_wp2
  go_ret
  exact ⟨by simp [h], rfl⟩
theorem plain_any (n : Int) (w : World) : Calls Tryz.prog 49 #[.int .i64 n] w fun e w' => e = .returned (.bool (decide (1 ≤ n) && decide (n ≤ 17))) ∧ w = w' := by
 by_cases h : (1 : Int) ≤ n
 ·have e1 : decide ((1 : Int) ≤ n) = true := by simpa using h
  go_enter Tryz.func49, Tryz.ntmps49
  go_wp2
  go_ret
  exact ⟨by simp [h], rfl⟩
 ·have e1 : decide ((1 : Int) ≤ n) = false := by simpa using h
  go_enter Tryz.func49, Tryz.ntmps49
  go_wp2
  go_ret
  exact ⟨by simp [h], rfl⟩
theorem seen_any (n : Int) (w : World) : Calls Tryz.prog 50 #[.int .i64 n] w fun e w' => e = .returned (.bool (decide (18 ≤ n) && decide (n ≤ 25))) ∧ w = w' := by
 by_cases h : (18 : Int) ≤ n
 ·have e1 : decide ((18 : Int) ≤ n) = true := by simpa using h
  go_enter Tryz.func50, Tryz.ntmps50
  go_wp2
  go_ret
  exact ⟨by simp [h], rfl⟩
 ·have e1 : decide ((18 : Int) ≤ n) = false := by simpa using h
  go_enter Tryz.func50, Tryz.ntmps50
  go_wp2
  go_ret
  exact ⟨by simp [h], rfl⟩
def gV (op : Int) : Value := .agg #[.int .i64 0, .int .i64 (gL op).1, .int .i64 (gL op).2.1, .int .i64 (gL op).2.2.1, .int .i64 (gL op).2.2.2, .int .u64 (gK op : Int)]
set_option maxHeartbeats 8000000 in
theorem greatest_lit (op : Int) (w : World) (h : op = 1 ∨ op = 2 ∨ op = 3 ∨ op = 4 ∨ op = 5 ∨ op = 6 ∨ op = 7 ∨ op = 8 ∨ op = 9 ∨ op = 10 ∨ op = 11 ∨ op = 12 ∨ op = 13 ∨ op = 14 ∨ op = 15 ∨ op = 16 ∨ op = 17 ∨ op = 18 ∨ op = 19 ∨ op = 20 ∨ op = 21 ∨ op = 22 ∨ op = 23 ∨ op = 24 ∨ op = 25) :
  Calls Tryz.prog 51 #[.int .i64 op] w fun e w' => e = .returned (gV op) ∧ Below w.heap.size w w' := by
 rcases h with rfl | rfl | rfl | rfl | rfl | rfl | rfl | rfl | rfl | rfl | rfl | rfl | rfl | rfl | rfl | rfl | rfl | rfl | rfl | rfl | rfl | rfl | rfl | rfl | rfl
 all_goals
  go_enter Tryz.func51, Tryz.ntmps51
  go_wp2
  refine bodyPost_ret (v := gV _) (by simp [results, Tryz.results51, go_sem, gV, gL, gK]) rfl ⟨rfl, ?_⟩
  repeat (first | exact (Below.refl _ _).alloc (Nat.le_refl _) _ | refine Below.setCell ?_ (by simp) _)
theorem op_lit {op : Int} (h : opB op = true) : op = 1 ∨ op = 2 ∨ op = 3 ∨ op = 4 ∨ op = 5 ∨ op = 6 ∨ op = 7 ∨ op = 8 ∨ op = 9 ∨ op = 10 ∨ op = 11 ∨ op = 12 ∨ op = 13 ∨ op = 14 ∨ op = 15 ∨ op = 16 ∨ op = 17 ∨ op = 18 ∨ op = 19 ∨ op = 20 ∨ op = 21 ∨ op = 22 ∨ op = 23 ∨ op = 24 ∨ op = 25 := by
 have := of_decide_eq_true h
 omega
abbrev inZ : Array Value := #[.int .i64 0, .int .i64 0, .int .i64 0, .int .i64 0, .int .i64 0, .int .u64 0]
abbrev st6 (w : World) (b : Nat) (a0 a1 a2 a3 a4 a5 : Value) : World := (((((w.setCell ⟨b, 0, none⟩ a0).setCell ⟨b, 1, none⟩ a1).setCell ⟨b, 2, none⟩ a2).setCell ⟨b, 3, none⟩ a3).setCell ⟨b, 4, none⟩ a4).setCell ⟨b, 5, none⟩ a5
theorem st6_lies {w : World} {b : Nat} {T : TypeId} {z0 z1 z2 z3 z4 z5 a0 a1 a2 a3 a4 a5 : Value} (h : Lies w b T #[z0, z1, z2, z3, z4, z5]) : Lies (st6 w b a0 a1 a2 a3 a4 a5) b T #[a0, a1, a2, a3, a4, a5] := (((((h.put 0 a0).put 1 a1).put 2 a2).put 3 a3).put 4 a4).put 5 a5
theorem st6_kept (w : World) (b : Nat) (a0 a1 a2 a3 a4 a5 : Value) : Kept (oneRow b) w (st6 w b a0 a1 a2 a3 a4 a5) :=
 (((((Kept.put w b 0 a0).trans (Kept.put _ b 1 a1) (fun _ _ h => h)).trans (Kept.put _ b 2 a2) (fun _ _ h => h)).trans (Kept.put _ b 3 a3) (fun _ _ h => h)).trans (Kept.put _ b 4 a4) (fun _ _ h => h)).trans (Kept.put _ b 5 a5) (fun _ _ h => h)
theorem op_split (op : Int) : opB op = ((decide (1 ≤ op) && decide (op ≤ 17)) || (decide (18 ≤ op) && decide (op ≤ 25))) := by
 unfold opB
 rw [Bool.eq_iff_iff]
 simp only [Bool.or_eq_true, Bool.and_eq_true, decide_eq_true_eq]
 omega
set_option maxHeartbeats 8000000 in
set_option maxRecDepth 100000 in
theorem right_any (x : In) (w : World) : Calls Tryz.prog 25 #[.agg (inC x)] w fun e w' => e = .returned (.bool (rightB x)) ∧ Below w.heap.size w w' := by
 have hb0 : Below w.heap.size w (w.alloc (.cells (inC x) 28)) := (Below.refl _ _).alloc (Nat.le_refl _) _
 have l0 := Lies.made w 28 (inC x)
 have hop := op_split x.op
 obtain ⟨pb, hpb⟩ : ∃ pb, (decide (1 ≤ x.op) && decide (x.op ≤ 17)) = pb := ⟨_, rfl⟩
 obtain ⟨sb, hsb⟩ : ∃ sb, (decide (18 ≤ x.op) && decide (x.op ≤ 25)) = sb := ⟨_, rfl⟩
 have HP : Hid (∀ w, Calls Tryz.prog 49 #[.int .i64 x.op] w fun e w' => e = .returned (.bool pb) ∧ w = w') := fun w => by rw [← hpb]; exact plain_any _ _
 have HS : Hid (∀ w, Calls Tryz.prog 50 #[.int .i64 x.op] w fun e w' => e = .returned (.bool sb) ∧ w = w') := fun w => by rw [← hsb]; exact seen_any _ _
 rw [hpb, hsb] at hop
 clear hpb hsb
 have HB0 := Lib.hid hb0
 have HL0 := Lib.hid l0
 have HW := Lib.hid within_any
 have hr : rightB x = (opB x.op && (wB x.a (gL x.op).1 && (wB x.b (gL x.op).2.1 && (wB x.c (gL x.op).2.2.1 && (wB x.d (gL x.op).2.2.2 && kB x))))) := rfl
 clear hb0 l0
 by_cases hno : opB x.op = false
 ·rw [hno, Bool.false_and] at hr
  have HR := Lib.hid hr
  rw [hno] at hop
  obtain ⟨rfl, rfl⟩ : pb = false ∧ sb = false := by cases pb <;> cases sb <;> simp at hop ⊢
  clear hop hno hr
  go_enter Tryz.func25, Tryz.ntmps25
  go_wp2_with fail
  generalize w.alloc (.cells (inC x) 28) = w1 at *
  have x0 := (HL0.out.cell 0).trans (show _ = some (Value.int .i64 x.op) from rfl)
  have hx := HL0.out.lt
  refine (HP.out _).mono ?_
  rintro e w' ⟨rfl, rfl⟩
  go_wp2_with fail
  refine (HS.out _).mono ?_
  rintro e w' ⟨rfl, rfl⟩
  go_wp2
  go_ret
  exact ⟨ret_bool (by rw [HR.out]), HB0.out⟩
 ·have hyes : opB x.op = true := by simpa using hno
  rw [hyes, Bool.true_and] at hr
  rw [hyes] at hop
  have HG := Lib.hid (fun w => greatest_lit x.op w (op_lit hyes))
  unfold gV at HG
  have HR := Lib.hid hr
  have HOP := Lib.hid hop
  clear hr hno hyes hop
  unfold kB at HR
  have hgk := gK_wf x.op
  generalize gK x.op = gk at *
  generalize (gL x.op).1 = ga at *
  generalize (gL x.op).2.1 = gb at *
  generalize (gL x.op).2.2.1 = gc at *
  generalize (gL x.op).2.2.2 = gd at *
  obtain ⟨b1, h1⟩ : ∃ b, wB x.a ga = b := ⟨_, rfl⟩
  obtain ⟨b2, h2⟩ : ∃ b, wB x.b gb = b := ⟨_, rfl⟩
  obtain ⟨b3, h3⟩ : ∃ b, wB x.c gc = b := ⟨_, rfl⟩
  obtain ⟨b4, h4⟩ : ∃ b, wB x.d gd = b := ⟨_, rfl⟩
  obtain ⟨b5, h5⟩ : ∃ b, decide (x.k ≤ gk) = b := ⟨_, rfl⟩
  have W1 := Lib.hid (fun w => within_any x.a ga w)
  have W2 := Lib.hid (fun w => within_any x.b gb w)
  have W3 := Lib.hid (fun w => within_any x.c gc w)
  have W4 := Lib.hid (fun w => within_any x.d gd w)
  rw [h1] at W1 HR
  rw [h2] at W2 HR
  rw [h3] at W3 HR
  rw [h4] at W4 HR
  rw [h5] at HR
  clear h1 h2 h3 h4 HW
  go_enter Tryz.func25, Tryz.ntmps25
  go_wp2_with fail
  generalize w.alloc (.cells (inC x) 28) = w1 at *
  have x0 := (HL0.out.cell 0).trans (show _ = some (Value.int .i64 x.op) from rfl)
  have hx := HL0.out.lt
  refine (HP.out _).mono ?_
  rintro e w' ⟨rfl, rfl⟩
  cases pb
  ·obtain rfl : sb = true := by simpa using HOP.out.symm
   go_wp2_with fail
   refine (HS.out _).mono ?_
   rintro e w' ⟨rfl, rfl⟩
   go_wp2_with fail
   refine (HG.out _).mono ?_
   rintro e w2 ⟨rfl, hb2⟩
   have hx2 := HL0.out.below hb2 HL0.out.lt
   have HB2 := Lib.hid (HB0.out.trans (hb2.mono HB0.out.size))
   have HL2 := Lib.hid hx2
   clear x0 hx hx2 hb2 HB0 HL0 HG HP HS
   go_upto_region 4 with (fail)
   have HL3 := Lib.hid (HL2.out.alloc (.cells #[.int .i64 0, .int .i64 ga, .int .i64 gb, .int .i64 gc, .int .i64 gd, .int .u64 (gk : Int)] 28))
   have HL4 := Lib.hid (Lies.made w2 28 #[.int .i64 0, .int .i64 ga, .int .i64 gb, .int .i64 gc, .int .i64 gd, .int .u64 (gk : Int)])
   have HB3 := Lib.hid (HB2.out.alloc HB2.out.size (.cells #[.int .i64 0, .int .i64 ga, .int .i64 gb, .int .i64 gc, .int .i64 gd, .int .u64 (gk : Int)] 28))
   generalize w2.alloc (.cells #[.int .i64 0, .int .i64 ga, .int .i64 gb, .int .i64 gc, .int .i64 gd, .int .u64 (gk : Int)] 28) = w3 at *
   generalize w2.heap.size = n2 at *
   have y1 := (HL3.out.cell 1).trans (show _ = some (Value.int .i64 x.a) from rfl)
   have y2 := (HL3.out.cell 2).trans (show _ = some (Value.int .i64 x.b) from rfl)
   have y3 := (HL3.out.cell 3).trans (show _ = some (Value.int .i64 x.c) from rfl)
   have y4 := (HL3.out.cell 4).trans (show _ = some (Value.int .i64 x.d) from rfl)
   have y5 := (HL3.out.cell 5).trans (show _ = some (Value.int .u64 (x.k : Int)) from rfl)
   have z1 := (HL4.out.cell 1).trans (show _ = some (Value.int .i64 ga) from rfl)
   have z2 := (HL4.out.cell 2).trans (show _ = some (Value.int .i64 gb) from rfl)
   have z3 := (HL4.out.cell 3).trans (show _ = some (Value.int .i64 gc) from rfl)
   have z4 := (HL4.out.cell 4).trans (show _ = some (Value.int .i64 gd) from rfl)
   have z5 := (HL4.out.cell 5).trans (show _ = some (Value.int .u64 (gk : Int)) from rfl)
   have ly := HL3.out.lt
   have lz := HL4.out.lt
   clear HL2 HB2 HL3 HL4
   go_wp2_with fail
   refine (W1.out _).mono ?_
   rintro e w' ⟨rfl, rfl⟩
   cases b1
   ·go_wp2
    go_ret
    exact ⟨ret_bool (by rw [HR.out]; simp [h5]), HB3.out⟩
   go_wp2_with fail
   refine (W2.out _).mono ?_
   rintro e w' ⟨rfl, rfl⟩
   cases b2
   ·go_wp2
    go_ret
    exact ⟨ret_bool (by rw [HR.out]; simp [h5]), HB3.out⟩
   go_wp2_with fail
   refine (W3.out _).mono ?_
   rintro e w' ⟨rfl, rfl⟩
   cases b3
   ·go_wp2
    go_ret
    exact ⟨ret_bool (by rw [HR.out]; simp [h5]), HB3.out⟩
   go_wp2_with fail
   refine (W4.out _).mono ?_
   rintro e w' ⟨rfl, rfl⟩
   cases b4
   ·go_wp2
    go_ret
    exact ⟨ret_bool (by rw [HR.out]; simp [h5]), HB3.out⟩
   go_wp2
   go_ret
   exact ⟨ret_bool (by rw [HR.out]; simp [h5]), HB3.out⟩
  ·go_wp2_with fail
   refine (HG.out _).mono ?_
   rintro e w2 ⟨rfl, hb2⟩
   have hx2 := HL0.out.below hb2 HL0.out.lt
   have HB2 := Lib.hid (HB0.out.trans (hb2.mono HB0.out.size))
   have HL2 := Lib.hid hx2
   clear x0 hx hx2 hb2 HB0 HL0 HG HP HS
   go_upto_region 4 with (fail)
   have HL3 := Lib.hid (HL2.out.alloc (.cells #[.int .i64 0, .int .i64 ga, .int .i64 gb, .int .i64 gc, .int .i64 gd, .int .u64 (gk : Int)] 28))
   have HL4 := Lib.hid (Lies.made w2 28 #[.int .i64 0, .int .i64 ga, .int .i64 gb, .int .i64 gc, .int .i64 gd, .int .u64 (gk : Int)])
   have HB3 := Lib.hid (HB2.out.alloc HB2.out.size (.cells #[.int .i64 0, .int .i64 ga, .int .i64 gb, .int .i64 gc, .int .i64 gd, .int .u64 (gk : Int)] 28))
   generalize w2.alloc (.cells #[.int .i64 0, .int .i64 ga, .int .i64 gb, .int .i64 gc, .int .i64 gd, .int .u64 (gk : Int)] 28) = w3 at *
   generalize w2.heap.size = n2 at *
   have y1 := (HL3.out.cell 1).trans (show _ = some (Value.int .i64 x.a) from rfl)
   have y2 := (HL3.out.cell 2).trans (show _ = some (Value.int .i64 x.b) from rfl)
   have y3 := (HL3.out.cell 3).trans (show _ = some (Value.int .i64 x.c) from rfl)
   have y4 := (HL3.out.cell 4).trans (show _ = some (Value.int .i64 x.d) from rfl)
   have y5 := (HL3.out.cell 5).trans (show _ = some (Value.int .u64 (x.k : Int)) from rfl)
   have z1 := (HL4.out.cell 1).trans (show _ = some (Value.int .i64 ga) from rfl)
   have z2 := (HL4.out.cell 2).trans (show _ = some (Value.int .i64 gb) from rfl)
   have z3 := (HL4.out.cell 3).trans (show _ = some (Value.int .i64 gc) from rfl)
   have z4 := (HL4.out.cell 4).trans (show _ = some (Value.int .i64 gd) from rfl)
   have z5 := (HL4.out.cell 5).trans (show _ = some (Value.int .u64 (gk : Int)) from rfl)
   have ly := HL3.out.lt
   have lz := HL4.out.lt
   clear HL2 HB2 HL3 HL4
   go_wp2_with fail
   refine (W1.out _).mono ?_
   rintro e w' ⟨rfl, rfl⟩
   cases b1
   ·go_wp2
    go_ret
    exact ⟨ret_bool (by rw [HR.out]; simp [h5]), HB3.out⟩
   go_wp2_with fail
   refine (W2.out _).mono ?_
   rintro e w' ⟨rfl, rfl⟩
   cases b2
   ·go_wp2
    go_ret
    exact ⟨ret_bool (by rw [HR.out]; simp [h5]), HB3.out⟩
   go_wp2_with fail
   refine (W3.out _).mono ?_
   rintro e w' ⟨rfl, rfl⟩
   cases b3
   ·go_wp2
    go_ret
    exact ⟨ret_bool (by rw [HR.out]; simp [h5]), HB3.out⟩
   go_wp2_with fail
   refine (W4.out _).mono ?_
   rintro e w' ⟨rfl, rfl⟩
   cases b4
   ·go_wp2
    go_ret
    exact ⟨ret_bool (by rw [HR.out]; simp [h5]), HB3.out⟩
   go_wp2
   go_ret
   exact ⟨ret_bool (by rw [HR.out]; simp [h5]), HB3.out⟩
def nmL : List ByteArray := [⟨#[]⟩, ⟨#[115, 101, 116]⟩, ⟨#[109, 111, 118]⟩, ⟨#[97, 100, 100]⟩, ⟨#[115, 117, 98]⟩, ⟨#[109, 117, 108]⟩, ⟨#[100, 105, 118]⟩, ⟨#[109, 111, 100]⟩, ⟨#[97, 110, 100]⟩, ⟨#[111, 114]⟩, ⟨#[120, 111, 114]⟩, ⟨#[115, 104, 108]⟩, ⟨#[115, 104, 114]⟩, ⟨#[108, 116]⟩, ⟨#[101, 113]⟩, ⟨#[106, 109, 112]⟩, ⟨#[106, 122]⟩, ⟨#[106, 110, 122]⟩, ⟨#[115, 101, 110, 100]⟩, ⟨#[114, 101, 99, 118]⟩, ⟨#[99, 108, 111, 115, 101]⟩, ⟨#[99, 108, 111, 99, 107]⟩, ⟨#[100, 114, 97, 119]⟩, ⟨#[114, 101, 97, 100]⟩, ⟨#[115, 101, 101]⟩, ⟨#[104, 97, 108, 116]⟩]
theorem nmL_length : nmL.length = 26 := rfl
def NamesAt (w : World) : Prop := ∀ (i : Nat) (b : ByteArray), nmL[i]? = some b → w.cell? ⟨0, i, none⟩ = some (.string b)
theorem NamesAt.later {w w' : World} {B : Nat} (h : NamesAt w) (k : Below B w w') (hB : 0 < B) : NamesAt w' := fun i b hb => (k.cell (p := ⟨0, i, none⟩) hB).trans (h i b hb)
theorem NamesAt.lt {w : World} (h : NamesAt w) : 0 < w.heap.size := World.block_lt_of_cell? w _ (h 0 _ rfl)
def nmB (op : Int) : ByteArray := if opB op = true then nmL.getD op.toNat ByteArray.empty else ByteArray.empty
theorem nmB_get {op : Int} (h : opB op = true) : nmL[op.toNat]? = some (nmB op) := by
 rcases op_lit h with e | e | e | e | e | e | e | e | e | e | e | e | e | e | e | e | e | e | e | e | e | e | e | e | e
 all_goals rw [e]; rfl
set_option maxHeartbeats 4000000 in
theorem name_any (op : Int) (w : World) (h : NamesAt w) : Calls Tryz.prog 26 #[.int .i64 op] w fun e w' => e = .returned (.string (nmB op)) ∧ w = w' := by
 have hs := op_split op
 have HG := Lib.hid (@nmB_get op)
 have HF : Hid (opB op = false → nmB op = ByteArray.empty) := fun h => by unfold nmB; rw [h, if_neg (by decide)]
 have C1 := Lib.hid (fun w => plain_any op w)
 have C2 := Lib.hid (fun w => seen_any op w)
 have hop : opB op = true → 1 ≤ op ∧ op ≤ 25 := fun h => of_decide_eq_true h
 generalize (decide (1 ≤ op) && decide (op ≤ 17)) = b1 at *
 generalize (decide (18 ≤ op) && decide (op ≤ 25)) = b2 at *
 have HH := Lib.hid h
 clear h
 cases b1
 case true =>
  have h1 : opB op = true := hs
  obtain ⟨r1, r2⟩ := hop h1
  obtain ⟨n, rfl⟩ : ∃ n : Nat, op = n := ⟨op.toNat, by omega⟩
  have g0 := HH.out n (nmB (n : Int)) (by have := HG.out h1; rwa [Int.toNat_natCast] at this)
  have gl := World.block_lt_of_cell? _ _ g0
  have hn : (n : Int) < 26 := by omega
  clear hs h1 hop
  go_enter Tryz.func26, Tryz.ntmps26
  go_wp2_with fail
  refine (C1.out _).mono ?_
  rintro e w' ⟨rfl, rfl⟩
  go_wp2
  go_ret
  exact ⟨rfl, rfl⟩
 case false =>
  cases b2
  case true =>
   have h1 : opB op = true := hs
   obtain ⟨r1, r2⟩ := hop h1
   obtain ⟨n, rfl⟩ : ∃ n : Nat, op = n := ⟨op.toNat, by omega⟩
   have g0 := HH.out n (nmB (n : Int)) (by have := HG.out h1; rwa [Int.toNat_natCast] at this)
   have gl := World.block_lt_of_cell? _ _ g0
   have hn : (n : Int) < 26 := by omega
   clear hs h1 hop
   go_enter Tryz.func26, Tryz.ntmps26
   go_wp2_with fail
   refine (C1.out _).mono ?_
   rintro e w' ⟨rfl, rfl⟩
   go_wp2_with fail
   refine (C2.out _).mono ?_
   rintro e w' ⟨rfl, rfl⟩
   go_wp2
   go_ret
   exact ⟨rfl, rfl⟩
  case false =>
   have HE := Lib.hid (HF.out hs)
   clear hs hop
   go_enter Tryz.func26, Tryz.ntmps26
   go_wp2_with fail
   refine (C1.out _).mono ?_
   rintro e w' ⟨rfl, rfl⟩
   go_wp2_with fail
   refine (C2.out _).mono ?_
   rintro e w' ⟨rfl, rfl⟩
   go_wp2
   go_ret
   exact ⟨by rw [HE.out]; rfl, rfl⟩
def fdN (s : ByteArray) : Nat := ((List.range' 1 25).find? (fun k => decide (nmL.getD k ByteArray.empty = s))).getD 0
theorem fdN_at {s : ByteArray} {i : Nat} (h1 : 1 ≤ i) (hi : i ≤ 25) (hno : ∀ k, 1 ≤ k → k < i → nmL.getD k ByteArray.empty ≠ s) (h : nmL.getD i ByteArray.empty = s) : fdN s = i := by
 unfold fdN
 have : (List.range' 1 25).find? (fun k => decide (nmL.getD k ByteArray.empty = s)) = some i := by
  rw [List.find?_eq_some_iff_getElem]
  refine ⟨by simpa using h, i - 1, by simp; omega, by simp; omega, fun j hj => ?_⟩
  have := hno (1 + j) (by omega) (by omega)
  simpa using this
 rw [this]; rfl
theorem fdN_none {s : ByteArray} (hno : ∀ k, 1 ≤ k → k < 26 → nmL.getD k ByteArray.empty ≠ s) : fdN s = 0 := by
 unfold fdN
 have : (List.range' 1 25).find? (fun k => decide (nmL.getD k ByteArray.empty = s)) = none := by
  rw [List.find?_eq_none]
  intro k hk
  have := List.mem_range'_1.1 hk
  simpa using hno k (by omega) (by omega)
 rw [this]; rfl
set_option maxHeartbeats 4000000 in
theorem find_any (s : ByteArray) (w : World) (h : NamesAt w) : Calls Tryz.prog 84 #[.string s] w fun e w' => e = .returned (.tuple #[.int .i64 (fdN s : Nat), .bool (fdN s != 0)]) ∧ w = w' := by
 have HH := Lib.hid h
 have gl := h.lt
 have HAT := Lib.hid (fun i => @fdN_at s i)
 have HNO := Lib.hid (@fdN_none s)
 clear h
 go_enter Tryz.func84, Tryz.ntmps84
 go_wp2_with fail
 go_loopw [4] (fun u wr => ∃ i : Nat, 1 ≤ i ∧ i ≤ 26 ∧ u = .int .i64 i ∧ Hid (∀ k, 1 ≤ k → k < i → nmL.getD k ByteArray.empty ≠ s) ∧ wr = w) (fun u _ => 26 - (intOf u).toNat)
 case atStart => exact ⟨1, by omega, by omega, rfl, (fun k h1 h2 => by omega), rfl⟩
 case round =>
  obtain ⟨i, hi1, hi, rfl, hq, rfl⟩ := hrel
  by_cases hlt : i ≤ 25
  ·have hii : (i : Int) ≤ 25 := by omega
   have hii2 : (i : Int) < 26 := by omega
   obtain ⟨b, hb⟩ : ∃ b, nmL[i]? = some b := ⟨_, List.getElem?_eq_getElem (by rw [nmL_length]; omega)⟩
   have hgd : nmL.getD i ByteArray.empty = b := by rw [List.getD_eq_getElem?_getD, hb]; rfl
   have g0 := HH.out i b hb
   by_cases he : b = s
   ·have HE := Lib.hid (HAT.out i hi1 hlt hq.out (hgd.trans he))
    have HIZ : Hid ((fdN s != 0) = true) := by show _ = _; rw [HE.out, bne_iff_ne]; omega
    clear hb hgd hq
    subst he
    go_wp2
    go_ret2
    exact ⟨by rw [HIZ.out, HE.out]; rfl, rfl⟩
   ·have HQ : Hid (∀ k, 1 ≤ k → k < i + 1 → nmL.getD k ByteArray.empty ≠ s) := fun k h1 h2 => by
     by_cases hk : k = i
     ·subst hk; rw [hgd]; exact he
     ·exact hq.out k h1 (by omega)
    have e1 := text_ne he
    clear hb hgd hq
    go_wp2
    go_roundw
    case rel => exact ⟨i + 1, by omega, by omega, by go_num, HQ, trivial⟩
    case measure => simp [intOf]; omega
  ·obtain rfl : i = 26 := by omega
   have HE := Lib.hid (HNO.out hq.out)
   clear hq
   go_wp2
   go_ret2
   exact ⟨by rw [HE.out]; rfl, rfl⟩
abbrev nmC : Array Value := #[.string ⟨#[115, 101, 116]⟩, .string ⟨#[109, 111, 118]⟩, .string ⟨#[97, 100, 100]⟩, .string ⟨#[115, 117, 98]⟩, .string ⟨#[109, 117, 108]⟩, .string ⟨#[100, 105, 118]⟩, .string ⟨#[109, 111, 100]⟩, .string ⟨#[97, 110, 100]⟩, .string ⟨#[111, 114]⟩, .string ⟨#[120, 111, 114]⟩, .string ⟨#[115, 104, 108]⟩, .string ⟨#[115, 104, 114]⟩, .string ⟨#[108, 116]⟩, .string ⟨#[101, 113]⟩, .string ⟨#[106, 109, 112]⟩, .string ⟨#[106, 122]⟩, .string ⟨#[106, 110, 122]⟩, .string ⟨#[115, 101, 110, 100]⟩, .string ⟨#[114, 101, 99, 118]⟩, .string ⟨#[99, 108, 111, 115, 101]⟩, .string ⟨#[99, 108, 111, 99, 107]⟩, .string ⟨#[100, 114, 97, 119]⟩, .string ⟨#[114, 101, 97, 100]⟩, .string ⟨#[115, 101, 101]⟩, .string ⟨#[104, 97, 108, 116]⟩]
theorem nmC_get {n : Nat} (h : n < 25) : nmC[n]? = some (.string (nmL.getD (n + 1) ByteArray.empty)) := by
 have h2 : n + 1 < nmL.length := by rw [nmL_length]; omega
 rw [show nmC = ((nmL.drop 1).map Value.string).toArray from rfl, List.getElem?_toArray, List.getElem?_map, List.getElem?_drop, show 1 + n = n + 1 by omega, List.getElem?_eq_getElem h2, List.getD_eq_getElem?_getD, List.getElem?_eq_getElem h2]; rfl
set_option maxHeartbeats 4000000 in
theorem rfName (op : Int) (w : World) : Calls Tryz.prog 30 #[.int .i64 op] w fun e w' => e = .returned (.string (nmB op)) ∧ Below w.heap.size w w' := by
 have hb0 : Below w.heap.size w (w.alloc (.cells nmC 9)) := (Below.refl _ _).alloc (Nat.le_refl _) _
 have l0 := Lies.made w 9 nmC
 by_cases h1 : op < 1
 ·have e1 : decide (op < 1) = true := decide_eq_true h1
  have HE : Hid (nmB op = ByteArray.empty) := by
   show _ = _
   unfold nmB
   rw [if_neg (fun h => by have := of_decide_eq_true h; omega)]
  have HB := Lib.hid hb0
  clear h1 hb0 l0
  go_enter Tryz.func30, Tryz.ntmps30
  go_wp2
  go_ret
  exact ⟨by rw [HE.out]; rfl, HB.out⟩
 have e1 : decide (op < 1) = false := decide_eq_false h1
 by_cases h2 : 25 < op
 ·have e2 : decide (25 < op) = true := decide_eq_true h2
  have HE : Hid (nmB op = ByteArray.empty) := by
   show _ = _
   unfold nmB
   rw [if_neg (fun h => by have := of_decide_eq_true h; omega)]
  have HB := Lib.hid hb0
  clear h1 h2 hb0 l0
  go_enter Tryz.func30, Tryz.ntmps30
  go_wp2
  go_ret
  exact ⟨by rw [HE.out]; rfl, HB.out⟩
 have e2 : decide (25 < op) = false := decide_eq_false h2
 obtain ⟨n, rfl⟩ : ∃ n : Nat, op = (n : Int) + 1 := ⟨(op - 1).toNat, by omega⟩
 have hn : n < 25 := by omega
 have hni : (n : Int) < 25 := by omega
 have HE : Hid (nmB ((n : Int) + 1) = nmL.getD (n + 1) ByteArray.empty) := by
  show _ = _
  unfold nmB
  rw [if_pos (show opB ((n : Int) + 1) = true from decide_eq_true (by omega)), show ((n : Int) + 1).toNat = n + 1 by omega]
 have q0 := (l0.cell n).trans (nmC_get hn)
 have q1 := l0.lt
 have HB := Lib.hid hb0
 clear h1 h2 hb0 l0
 go_enter Tryz.func30, Tryz.ntmps30
 go_upto_region 2 with (fail)
 generalize w.alloc (.cells nmC 9) = w1 at *
 go_wp2
 go_ret
 exact ⟨by rw [HE.out]; rfl, HB.out⟩
def strData {H : Type} (ss : List ByteArray) : DataW H := .agg (ss.map fun s => .lit (.string s.data.toList))
theorem cells_of_strs {H : Type} {enc : TypeId × Value → H} {P : Program} {w : World} {base : Nat} {sp : Nat → Bool} {held : Bool} {fuel : Nat} {t e : TypeId} {n : Nat} {cs : List Value} {ss : List ByteArray} {p : List MemPlace}
  (ht : P.underlying t = some (.array n e)) (he : P.underlying e = some .string) (hce : P.cellsOf e = 1) (hct : P.cellsOf t = n)
  (h : DataW.trod enc P w base sp held fuel t cs = some (strData ss, p)) : cs = ss.map Value.string := by
 cases fuel with
 | zero => simp [DataW.trod] at h
 | succ fuel =>
  simp only [DataW.trod, ht, hce, hct, Nat.mul_one] at h
  split at h
  ·rename_i hl
   obtain ⟨xs, hm, hx⟩ := Option.map_eq_some_iff.1 h
   have hxs : xs.map (·.1) = ss.map fun s => (DataW.lit (.string s.data.toList) : DataW H) := by
    have := congrArg Prod.fst hx
    simpa [strData] using this
   have hxl : xs.length = n := by simpa using Lib.mapM_length hm
   have hzl : ss.length = n := by
    have := congrArg List.length hxs
    simp at this
    omega
   apply List.ext_getElem?
   intro i
   by_cases hi : i < n
   ·obtain ⟨b, hb, hf⟩ := Lib.mapM_at hm i i (by simp [hi])
    obtain ⟨s, hc, rfl, _⟩ := DataW.trod_string he hf
    have h1 : cs[i]? = some (.string s) := by
     have := congrArg (·[0]?) hc
     simpa [List.getElem?_take, List.getElem?_drop] using this
    have h2 : (xs.map (·.1))[i]? = some (DataW.lit (.string s.data.toList) : DataW H) := by simp [hb]
    rw [hxs] at h2
    rw [List.getElem?_map] at h2
    obtain ⟨s', hs', e'⟩ := Option.map_eq_some_iff.1 h2
    have e2 : s'.data.toList = s.data.toList := by
     simp only [DataW.lit.injEq, Lit.string.injEq] at e'
     exact e'
    have e3 := eq_of_data e2
    subst e3
    rw [h1, List.getElem?_map, hs']; rfl
   ·rw [List.getElem?_eq_none (by omega), List.getElem?_eq_none (by simp; omega)]
  ·cases h
theorem Tryz.infoU8 : (Tryz.prog.info? 5).map (fun i => (i.zero, i.size, i.bytes)) = some (some (.int .u8 0), 1, 1) := by kernel_rfl
def cellsB (l : List UInt8) : List Value := l.map fun b => Value.int .u8 b.toNat
def textB (l : List UInt8) : ByteArray := ⟨l.toArray⟩
theorem cellsB_text (l : List UInt8) : Lib.strCells (textB l) = cellsB l := by simp [Lib.strCells, textB, cellsB]
theorem textB_size (l : List UInt8) : (textB l).size = l.length := by simp [textB, ByteArray.size]
theorem cellsB_push (d : List UInt8) (b : UInt8) : cellsB d ++ [.int .u8 (b.toNat : Int)] = cellsB (d ++ [b]) := by simp [cellsB]
theorem byte_of (s : ByteArray) (i : Nat) (hi : i < s.size) : s.data.toList[i]? = some s[i] := by
 rw [Array.getElem?_toList]; exact Array.getElem?_eq_getElem hi
theorem convert_owned (w : World) (B : Nat) (v : Value) (l : List UInt8) (n : Nat) (hn : n = l.length) (ho : w.ownsRow B 5 1 v n (cellsB l)) :
  (convert 74 9 v).run Tryz.prog w = .ok (.string (textB l)) w := by
 subst hn
 rcases owns_row ho with ⟨rfl, h0, _⟩ | ⟨r, cap, cur, rfl, _⟩
 ·have hl : l = [] := List.length_eq_zero_iff.1 h0
  subst hl
  exact Lib.run_convert_nil_bytes (P := Tryz.prog) w 74 9 5 0 Tryz.underlying74 Tryz.underlying5 Tryz.underlying9
 ·have := Lib.run_convert_whole (P := Tryz.prog) w 74 5 9 Tryz.underlying74 Tryz.underlying5 Tryz.underlying9 r 0 (textB l) (fun i hi => by
   rw [Nat.zero_add, ← addr_add]
   refine ho.cells (g := r) rfl i _ ?_
   rw [← cellsB_text]
   simp only [Lib.strCells, List.getElem?_map, byte_of (textB l) i hi]; rfl) cap
  rw [textB_size] at this
  exact this
theorem text_append (a b : List UInt8) : textB a ++ textB b = textB (a ++ b) := by apply eq_of_data; simp [textB]
theorem owned_below {w w' : World} {B : Nat} {e : TypeId} {size n : Nat} {v : Value} {xs : List Value} (h : w.ownsRow B e size v n xs) (k : Below w.heap.size w w') : w'.ownsRow B e size v n xs :=
 owns_kept h (Kept.of_below k) (fun _ _ _ _ hf => hf)
theorem own_sliceD {w : World} {B n : Nat} {e : TypeId} {sz : Nat} {v : Value} {xs : List Value} (h : w.ownsRow B e sz v n xs) : ∃ A c, v = .slice A n c := by
 rcases owns_row h with ⟨rfl, h0, _⟩ | ⟨r, cap, cur, rfl, _⟩
 ·subst h0; exact ⟨none, 0, rfl⟩
 ·exact ⟨_, _, rfl⟩
def decF : Nat → Nat → List UInt8
 | 0, n => [UInt8.ofNat (48 + n % 10)]
 | f + 1, n => if n < 10 then [UInt8.ofNat (48 + n)] else decF f (n / 10) ++ [UInt8.ofNat (48 + n % 10)]
def decE (n : Nat) : List UInt8 := decF 19 n
theorem decF_length : ∀ f n, 1 ≤ (decF f n).length ∧ (decF f n).length ≤ f + 1
 | 0, n => by simp [decF]
 | f + 1, n => by
  have := decF_length f (n / 10)
  unfold decF
  split
  ·simp
  ·rw [List.length_append]; simp; omega
theorem digit_val (n : Nat) : ((UInt8.ofNat (48 + n % 10)).toNat : Int) = 48 + (n : Int) % 10 := by
 rw [UInt8.toNat_ofNat', Nat.mod_eq_of_lt (by omega)]; omega
def isDg (b : UInt8) : Prop := 48 ≤ b.toNat ∧ b.toNat ≤ 57
def valD (l : List UInt8) : Nat := l.foldl (fun n b => 10 * n + (b.toNat - 48)) 0
theorem valD_push (l : List UInt8) (b : UInt8) : valD (l ++ [b]) = 10 * valD l + (b.toNat - 48) := by simp [valD]
theorem dg_toNat {m : Nat} (h : m < 10) : (UInt8.ofNat (48 + m)).toNat = 48 + m := by rw [UInt8.toNat_ofNat', Nat.mod_eq_of_lt (by omega)]
theorem decF_dg : ∀ f n, ∀ b ∈ decF f n, isDg b
 | 0, n, b, hb => by
  simp only [decF, List.mem_singleton] at hb
  subst hb
  unfold isDg
  rw [dg_toNat (by omega)]; omega
 | f + 1, n, b, hb => by
  unfold decF at hb
  split at hb
  ·rw [List.mem_singleton] at hb; subst hb
   unfold isDg
   rw [dg_toNat (by omega)]; omega
  ·rcases List.mem_append.1 hb with h | h
   ·exact decF_dg f _ b h
   ·rw [List.mem_singleton] at h; subst h
    unfold isDg
    rw [dg_toNat (by omega)]; omega
theorem decF_val : ∀ f n, n < 10 ^ (f + 1) → valD (decF f n) = n
 | 0, n, h => by
  rw [decF, Nat.mod_eq_of_lt (by simpa using h)]
  unfold valD
  simp only [List.foldl_cons, List.foldl_nil]
  rw [dg_toNat (by simpa using h)]; omega
 | f + 1, n, h => by
  unfold decF
  split
  ·rename_i h10
   unfold valD
   simp only [List.foldl_cons, List.foldl_nil]
   rw [dg_toNat h10]; omega
  ·rw [valD_push, decF_val f (n / 10) (by rw [Nat.pow_succ] at h; omega), dg_toNat (by omega)]; omega
theorem decF_head : ∀ f n, n < 10 ^ (f + 1) → 10 ≤ n → ∃ b r, decF f n = b :: r ∧ b.toNat ≠ 48
 | 0, n, h, h2 => by simp at h; omega
 | f + 1, n, h, h2 => by
  unfold decF
  rw [if_neg (by omega)]
  by_cases h3 : n / 10 < 10
  ·refine ⟨UInt8.ofNat (48 + n / 10), [UInt8.ofNat (48 + n % 10)], ?_, ?_⟩
   ·cases f with
    | zero => rw [decF, Nat.mod_eq_of_lt h3]; rfl
    | succ f => rw [decF, if_pos h3]; rfl
   ·rw [dg_toNat h3]; omega
  ·obtain ⟨b, r, e, hb⟩ := decF_head f (n / 10) (by rw [Nat.pow_succ] at h; omega) (by omega)
   exact ⟨b, r ++ [UInt8.ofNat (48 + n % 10)], by rw [e]; rfl, hb⟩
def isNum (w : List UInt8) : Prop := w ≠ [] ∧ (∀ b ∈ w, isDg b) ∧ (1 < w.length → ∀ b, w[0]? = some b → b.toNat ≠ 48)
theorem pow19 {n : Nat} (h : n < 18446744073709551616) : n < 10 ^ (19 + 1) := Nat.lt_trans h (by decide)
theorem decE_num {n : Nat} (h : n < 18446744073709551616) : isNum (decE n) := by
 have hl := decF_length 19 n
 refine ⟨fun h => by unfold decE at h; rw [h] at hl; simp at hl, fun b hb => decF_dg 19 n b hb, fun h1 b hb => ?_⟩
 by_cases h10 : n < 10
 ·unfold decE at h1
  rw [decF, if_pos h10] at h1
  simp at h1
 ·obtain ⟨c, r, e, hc⟩ := decF_head 19 n (pow19 h) (by omega)
  unfold decE at hb
  rw [e] at hb
  simp at hb
  subst hb; exact hc
theorem decE_val {n : Nat} (h : n < 18446744073709551616) : valD (decE n) = n := decF_val 19 n (pow19 h)
theorem decE_length (n : Nat) : 1 ≤ (decE n).length ∧ (decE n).length ≤ 20 := decF_length 19 n
def joinW (c : UInt8) : List (List UInt8) → List UInt8
 | [] => []
 | [w] => w
 | w :: v :: ws => w ++ c :: joinW c (v :: ws)
theorem joinW_cons (c : UInt8) (w v : List UInt8) (ws : List (List UInt8)) : joinW c (w :: v :: ws) = w ++ c :: joinW c (v :: ws) := rfl
theorem joinW_snoc (c : UInt8) : ∀ (ws : List (List UInt8)) (w : List UInt8), ws ≠ [] → joinW c (ws ++ [w]) = joinW c ws ++ c :: w
 | [], w, h => absurd rfl h
 | [v], w, _ => rfl
 | v :: u :: ws, w, _ => by
  rw [List.cons_append, List.cons_append, joinW_cons, joinW_cons]
  have := joinW_snoc c (u :: ws) w (by simp)
  rw [List.cons_append] at this
  rw [this]; simp
theorem cut_uniq {c : UInt8} : ∀ {p p' q q' : List UInt8}, c ∉ p → c ∉ p' → p ++ c :: q = p' ++ c :: q' → p = p' ∧ q = q'
 | [], [], q, q', _, _, h => by simpa using h
 | [], b :: p', q, q', _, h2, h => by
  simp at h
  exact absurd (by simp [h.1]) h2
 | b :: p, [], q, q', h1, _, h => by
  simp at h
  exact absurd (by simp [h.1]) h1
 | b :: p, b' :: p', q, q', h1, h2, h => by
  simp only [List.cons_append, List.cons.injEq] at h
  obtain ⟨rfl, h⟩ := h
  obtain ⟨rfl, rfl⟩ := cut_uniq (fun hm => h1 (List.mem_cons_of_mem _ hm)) (fun hm => h2 (List.mem_cons_of_mem _ hm)) h
  exact ⟨rfl, rfl⟩
theorem joinW_inj {c : UInt8} : ∀ {ws vs : List (List UInt8)}, (∀ w ∈ ws, c ∉ w) → (∀ w ∈ vs, c ∉ w) → ws ≠ [] → vs ≠ [] → joinW c ws = joinW c vs → ws = vs
 | [], _, _, _, h, _, _ => absurd rfl h
 | _, [], _, _, _, h, _ => absurd rfl h
 | [w], [v], _, _, _, _, h => by rw [show w = v from h]
 | [w], v :: u :: vs, h1, h2, _, _, h => by
  rw [joinW_cons] at h
  exact absurd (by rw [show w = _ from h]; simp) (h1 w (by simp))
 | w :: x :: ws, [v], h1, h2, _, _, h => by
  rw [joinW_cons] at h
  exact absurd (by rw [← show _ = v from h]; simp) (h2 v (by simp))
 | w :: x :: ws, v :: u :: vs, h1, h2, _, _, h => by
  rw [joinW_cons, joinW_cons] at h
  obtain ⟨e1, e2⟩ := cut_uniq (h1 w (by simp)) (h2 v (by simp)) h
  rw [e1, joinW_inj (fun y hy => h1 y (List.mem_cons_of_mem _ hy)) (fun y hy => h2 y (List.mem_cons_of_mem _ hy)) (by simp) (by simp) e2]
theorem cut_drop {bs : List UInt8} {i : Nat} : (textB bs).extract i bs.length = textB (bs.drop i) := by
 apply eq_of_data
 simp [textB]
 exact List.take_of_length_le (by simp)
theorem text_byte {bs : List UInt8} {i : Nat} {c : UInt8} (h : bs[i]? = some c) : (textB bs)[i]? = some c := by
 have hl := (List.getElem?_eq_some_iff.1 h).1
 have h2 := (List.getElem?_eq_some_iff.1 h).2
 rw [getElem?_pos (textB bs) i (by rw [textB_size]; exact hl)]
 congr 1
theorem num_nil {m : Nat} : decE m ≠ [] := fun h => by have := (decE_length m).1; rw [h] at this; simp at this
theorem valD_le : ∀ (r : List UInt8) (a : Nat), a ≤ r.foldl (fun n b => 10 * n + (b.toNat - 48)) a
 | [], a => Nat.le_refl _
 | b :: r, a => Nat.le_trans (by omega) (valD_le r (10 * a + (b.toNat - 48)))
theorem text_toList (bs : List UInt8) : (textB bs).toList = bs := by rw [ByteArray.toList_eq]; simp [textB]
theorem text_empty : (textB []).toList.isEmpty = true := by rw [text_toList]; rfl
theorem text_nonempty {bs : List UInt8} (h : bs ≠ []) : (textB bs).toList.isEmpty = false := by rw [text_toList]; simpa using h
theorem text_get {bs : List UInt8} {k : Nat} {c : UInt8} (h : bs[k]? = some c) (hk : k < (textB bs).size) : ((textB bs)[k]'hk).toNat = c.toNat := by
 have := getElem?_pos (textB bs) k hk
 rw [text_byte h] at this
 injection this with this
 rw [← this]
theorem Tryz.infoStr9 : (Tryz.prog.info? 9).map (fun i => (i.zero, i.size, i.bytes)) = some (some (.string ⟨#[]⟩), 1, 16) := by kernel_rfl
def cellsW (ws : List (List UInt8)) : List Value := ws.map fun w => .string (textB w)
theorem cellsW_push (d : List (List UInt8)) (b : List UInt8) : cellsW d ++ [.string (textB b)] = cellsW (d ++ [b]) := by simp [cellsW]
structure WordsOf (c : UInt8) (bs : List UInt8) (ws : List (List UInt8)) : Prop where
 ne : ws ≠ []
 no : ∀ w ∈ ws, c ∉ w
 join : joinW c ws = bs
theorem WordsOf.length {c : UInt8} : ∀ {ws : List (List UInt8)} {bs : List UInt8}, WordsOf c bs ws → ws.length ≤ bs.length + 1
 | [], _, h => absurd rfl h.ne
 | [w], _, h => by simp
 | w :: v :: ws, bs, h => by
  have h2 : WordsOf c (joinW c (v :: ws)) (v :: ws) := ⟨by simp, fun u hu => h.no u (List.mem_cons_of_mem _ hu), rfl⟩
  have := h2.length
  have hj := h.join
  rw [joinW_cons] at hj
  rw [← hj]
  simp only [List.length_append, List.length_cons] at this ⊢
  omega
theorem words_last {c : UInt8} {bs q : List UInt8} {ws : List (List UInt8)} (hno : ∀ w ∈ ws, c ∉ w) (hq : c ∉ q) (hj : (ws = [] ∧ q = bs) ∨ (ws ≠ [] ∧ joinW c ws ++ c :: q = bs)) : WordsOf c bs (ws ++ [q]) := by
 refine ⟨by simp, fun w hw => ?_, ?_⟩
 ·rw [List.mem_append, List.mem_singleton] at hw
  rcases hw with hw | rfl
  ·exact hno w hw
  ·exact hq
 ·rcases hj with ⟨rfl, rfl⟩ | ⟨hne, rfl⟩
  ·rfl
  ·rw [joinW_snoc _ _ _ hne]
theorem words_next {c : UInt8} {bs p q : List UInt8} {ws : List (List UInt8)} (hj : (ws = [] ∧ p ++ c :: q = bs) ∨ (ws ≠ [] ∧ joinW c ws ++ c :: (p ++ c :: q) = bs)) : ws ++ [p] ≠ [] ∧ joinW c (ws ++ [p]) ++ c :: q = bs := by
 refine ⟨by simp, ?_⟩
 rcases hj with ⟨rfl, rfl⟩ | ⟨hne, rfl⟩
 ·rfl
 ·rw [joinW_snoc _ _ _ hne]; simp
theorem joinW_ge {c : UInt8} : ∀ (ws : List (List UInt8)), ws.length ≤ (joinW c ws).length + 1
 | [] => by simp
 | [w] => by simp
 | w :: v :: ws => by
  have := joinW_ge (c := c) (v :: ws)
  rw [joinW_cons]
  simp only [List.length_append, List.length_cons] at this ⊢
  omega
def SpPost (bs : List UInt8) (w : World) (e : Ending) (w' : World) : Prop :=
 ∃ v ws, e = .returned v ∧ WordsOf 32 bs ws ∧ w'.ownsRow w.heap.size 9 1 v ws.length (cellsW ws) ∧ Below w.heap.size w w'
noncomputable def numB (bs : List UInt8) : Bool := @decide (∃ m, m < 18446744073709551616 ∧ decE m = bs) (Classical.propDecidable _)
noncomputable def numV (bs : List UInt8) : Nat := if numB bs = true then valD bs else 0
theorem numB_iff {bs : List UInt8} : numB bs = true ↔ ∃ m, m < 18446744073709551616 ∧ decE m = bs := @decide_eq_true_iff _ (Classical.propDecidable _)
theorem numB_dec {m : Nat} (h : m < 18446744073709551616) : numB (decE m) = true := by
 rw [numB_iff]
 exact Exists.intro m (And.intro h (Eq.refl _))
set_option maxRecDepth 100000 in
theorem numV_dec {m : Nat} (h : m < 18446744073709551616) : numV (decE m) = m := by
 have hb := numB_dec h
 unfold numV
 split
 ·exact decE_val h
 ·rename_i hn; exact absurd hb hn
theorem dec_numV {bs : List UInt8} (h : numB bs = true) : decE (numV bs) = bs := by
 obtain ⟨m, hm, rfl⟩ := numB_iff.1 h
 rw [numV_dec hm]
theorem cell_keptN {S : Nat → Prop} {w w' : World} {b i : Nat} (k : Kept S w w') (hl : b < w.heap.size) (hn : ¬ S b) : w'.cell? ⟨b, i, none⟩ = w.cell? ⟨b, i, none⟩ := by
 have := k.at_ b hl hn
 simp only [World.cell?, this]
section
open Go.RowKit Go.Sort Go.Lib
def PowAt (w : World) : Prop := Lib.TabIs Tryz.prog w "internal/strconv.uint64pow10" .u64 Lib.pow10Tab
theorem PowAt.later {w w' : World} (h : PowAt w) (k : Below w.heap.size w w') : PowAt w' := Lib.tabBelow_of_tabIs h w' k
theorem digits_decF : ∀ f n, n < 10 ^ (f + 1) → Lib.decDigits n = decF f n
 | 0, n, h => by
  have h1 : n < 10 := by simpa using h
  rw [Lib.decDigits_one h1, decF, Nat.mod_eq_of_lt h1]
 | f + 1, n, h => by
  unfold decF
  by_cases h1 : n < 10
  ·rw [Lib.decDigits_one h1, if_pos h1]
  ·rw [if_neg h1, Lib.decDigits, dif_neg h1, digits_decF f (n / 10) (by rw [Nat.pow_succ] at h; omega)]
theorem digits_dec (n : Nat) (h : n < 18446744073709551616) : Lib.decDigits n = decE n := digits_decF 19 n (Nat.lt_trans h (by decide))
theorem lenB24 : Tryz.prog.arrayLen 125 = 24 := by kernel_rfl
theorem holds_zero0 (w : World) (T : TypeId) (nd : Nat) (hs : nd ≤ 24) : Holds (fun (b : UInt8) => Value.int .u8 (b.toNat : Int)) (w.alloc (.cells Lib.zeros24 T)) w.heap.size 0 (Array.replicate nd (0 : UInt8)) := fun j hj => by
 have hj' : j < nd := by simpa using hj
 refine ⟨?_, World.frozen?_alloc_new _ _ _ _⟩
 rw [World.cell?_alloc_new, Lib.zeros24_at _ (by omega), getElem!_pos _ j hj]
 simp
theorem below_growD (w : World) (k : Nat) (os : Array Obj) : Below w.heap.size w (grow (w.drewN k) os) := Lib.below_grow w.heap.size w (Nat.le_refl _) k os
theorem fin_zero (w : World) (o : Obj) (dk : Array UInt8) (k : Nat) : ∃ os, (putRow (fun (b : UInt8) => Value.int .u8 (b.toNat : Int)) (w.alloc o) w.heap.size 0 dk).drewN k = grow (w.drewN k) os := by
 rw [alloc_eq_grow]
 obtain ⟨os', _, e⟩ := putRow_grow_new (fun (b : UInt8) => Value.int .u8 (b.toNat : Int)) w #[o] w.heap.size 0 dk (Nat.le_refl _)
 exact ⟨os', by rw [e]; rfl⟩
set_option maxHeartbeats 6400000 in
set_option maxRecDepth 100000 in
theorem fmtUint0 (u : Nat) (w : World) (hu64 : u < 18446744073709551616) (htab : PowAt w) :
  Calls Tryz.prog 88 #[.int .u64 (u : Int), .int .i64 10] w fun e w' => e = .returned (.string ⟨(Lib.decDigits u).toArray⟩) ∧ Below w.heap.size w w' := by
 by_cases hs : u < 100
 ·have e1 : decide ((u : Int) < 100) = true := decide_eq_true (by omega)
  have hw : IntKind.i64.wrap (u : Int) = (u : Int) := by rw [IntKind.wrap_i64]; omega
  have HS := Lib.hid (Tryz.internal_strconv_small u hs w)
  go_enter Tryz.func88, Tryz.ntmps88
  go_wp2_with fail
  refine HS.out.mono ?_
  rintro e w1 ⟨rfl, rfl⟩
  go_wp2
  go_ret
  exact ⟨rfl, Below.refl _ _⟩
 have hu1 : 1 ≤ u := by omega
 have hnd20 : Lib.nDigits u ≤ 20 := by have := Lib.numDigits_eq u hu1 hu64; split at this <;> omega
 have e1 : decide ((u : Int) < 100) = false := decide_eq_false (by omega)
 have hb3 : Lib.nDigits u ≤ 24 := by omega
 have hal := lenB24
 have hsl1 : ∀ W, (Instr.sliceAt 125 (.pointer (some ⟨w.heap.size, 0, none⟩)) none (some (.int .i64 (Lib.nDigits u : Int))) none).run Tryz.prog W = .ok (.slice (some ⟨w.heap.size, 0, none⟩) (Lib.nDigits u) 24) W := fun W => by
  rw [run_sliceAt_array_h W 125 ⟨w.heap.size, 0, none⟩ (by simp [Program.arrayLen, Program.elem, Tryz.underlying125]) .i64 (Lib.nDigits u : Int) (by omega) (by rw [hal]; omega)]
  go_simp
 have hH0 := holds_zero0 w 125 (Lib.nDigits u) (by omega)
 have hfmt := Tryz.internal_strconv_formatBase10 w.heap.size 0 24 u (Array.replicate (Lib.nDigits u) 0) (w.alloc (.cells Lib.zeros24 125)) hH0 (by rw [Array.size_replicate]; exact Lib.lt_pow_nDigits u) hu64 (by rw [Array.size_replicate]; omega)
 rw [Array.size_replicate] at hfmt
 have hnum := Tryz.internal_strconv_numDigits u hu1 hu64 (w.alloc (.cells Lib.zeros24 125)) (Lib.tabIs_alloc htab _)
 have HH0 := Lib.hid hH0
 have HF := Lib.hid hfmt
 have HN := Lib.hid hnum
 clear hH0 hal hfmt hnum
 go_enter Tryz.func88, Tryz.ntmps88
 go_wp2_with fail
 refine HN.out.mono ?_
 rintro e w1 ⟨rfl, rfl⟩
 go_wp2_with fail
 refine HF.out.mono ?_
 rintro e w' ⟨rfl, k, v', dk, rfl, hF⟩
 have hcv : (convert 74 9 (.slice (some ⟨w.heap.size, 0, none⟩) (Lib.nDigits u) 24)).run Tryz.prog ((putRow (fun (b : UInt8) => Value.int .u8 (b.toNat : Int)) (w.alloc (.cells Lib.zeros24 125)) w.heap.size 0 dk).drewN k) = .ok (.string ⟨(Lib.decDigits u).toArray⟩) ((putRow (fun (b : UInt8) => Value.int .u8 (b.toNat : Int)) (w.alloc (.cells Lib.zeros24 125)) w.heap.size 0 dk).drewN k) := by
  have h := run_convert_bytes_back (P := Tryz.prog) ((putRow (fun (b : UInt8) => Value.int .u8 (b.toNat : Int)) (w.alloc (.cells Lib.zeros24 125)) w.heap.size 0 dk).drewN k) 74 9 5 ⟨w.heap.size, 0, none⟩ 24 (Lib.decDigits u) Tryz.underlying74 Tryz.underlying5 Tryz.underlying9 (fun j hj => by
   rw [Lib.row_is_numeral hF j hj, Lib.add_plain, World.cell?_drewN]
   exact cell?_putRow (fun (b : UInt8) => Value.int .u8 (b.toNat : Int)) _ w.heap.size 0 _ dk HH0.out (by rw [hF.size, Array.size_replicate]) j (by rw [hF.size]; rw [Lib.decDigits_length] at hj; exact hj))
  rw [Lib.decDigits_length] at h
  exact h
 have hfin := fin_zero w (.cells Lib.zeros24 125) dk k
 have HFIN := Lib.hid hfin
 clear hfin hF
 go_wp2
 go_ret
 obtain ⟨os, eo⟩ := HFIN.out
 exact ⟨rfl, by rw [eo]; exact below_growD w k os⟩
theorem fmtUint (u : Nat) (w : World) (hu : u < 18446744073709551616) (htab : PowAt w) :
  Calls Tryz.prog 75 #[.int .u64 (u : Int), .int .i64 10] w fun e w' => e = .returned (.string (textB (decE u))) ∧ Below w.heap.size w w' := by
 have h := fmtUint0 u w hu htab
 rw [digits_dec u hu] at h
 have H := Lib.hid h
 clear h
 go_enter Tryz.func75, Tryz.ntmps75
 go_wp2_with fail
 refine H.out.mono ?_
 rintro e w1 ⟨rfl, hb⟩
 have HB := Lib.hid hb
 clear hb
 go_wp2
 go_ret
 exact ⟨rfl, HB.out⟩
theorem itoaAny (n : Nat) (w : World) (hn : n ≤ 9223372036854775807) (htab : PowAt w) :
  Calls Tryz.prog 45 #[.int .i64 (n : Int)] w fun e w' => e = .returned (.string (textB (decE n))) ∧ Below w.heap.size w w' := by
 refine (Tryz.strconv_Itoa (n : Int) (by omega) (by omega) w htab).mono ?_
 rintro e w' ⟨rfl, k, os, rfl⟩
 refine ⟨?_, below_growD w k os⟩
 rw [Lib.itoa_nonneg, digits_dec n (by omega)]
 rfl
end
theorem parse_dg : ∀ (l : List UInt8) (a : Nat), (∀ b ∈ l, isDg b) → l.foldl (fun n b => 10 * n + (b.toNat - 48)) a ≤ 18446744073709551615 → Lib.parseUintM 18446744073709551615 a l = .ok (l.foldl (fun n b => 10 * n + (b.toNat - 48)) a)
 | [], a, _, _ => rfl
 | c :: r, a, hd, hm => by
  have hc := hd c List.mem_cons_self
  unfold isDg at hc
  rw [List.foldl_cons] at hm ⊢
  have h1 := valD_le r (10 * a + (c.toNat - 48))
  unfold Lib.parseUintM
  rw [if_pos hc, if_neg (by omega), if_neg (by omega), show a * 10 + (c.toNat - 48) = 10 * a + (c.toNat - 48) by omega]
  exact parse_dg r _ (fun b hb => hd b (List.mem_cons_of_mem _ hb)) hm
theorem parse_dec {m : Nat} (h : m < 18446744073709551616) : Lib.parseUintB 64 (decE m) = .ok m := by
 unfold Lib.parseUintB
 rw [if_neg num_nil]
 have hv := decE_val h
 unfold valD at hv
 have := parse_dg (decE m) 0 (decF_dg 19 m) (by rw [hv]; omega)
 rw [hv] at this
 exact this
theorem num_parse {bs : List UInt8} {u : Nat} (h : Lib.parseUintB 64 bs = .ok u) : (numB bs = decide (decE u = bs)) ∧ (decE u = bs → numV bs = u) := by
 have hu : u < 18446744073709551616 := by
  unfold Lib.parseUintB at h
  split at h
  ·cases h
  ·have := Lib.parseUintM_le _ bs 0 u (Nat.zero_le _) h
   have e : 2 ^ 64 - 1 = 18446744073709551615 := by decide
   omega
 refine ⟨?_, fun e => by rw [← e, numV_dec hu]⟩
 by_cases e : decE u = bs
 ·rw [decide_eq_true e, ← e, numB_dec hu]
 ·rw [decide_eq_false e]
  cases hb : numB bs with
  | false => rfl
  | true =>
   obtain ⟨m, hm, e2⟩ := numB_iff.1 hb
   rw [← e2, parse_dec hm] at h
   injection h with h
   subst h
   exact absurd e2 e
theorem num_unparse {bs : List UInt8} (h : ∀ u, Lib.parseUintB 64 bs ≠ .ok u) : numB bs = false ∧ numV bs = 0 := by
 have hb : numB bs = false := by
  cases hb : numB bs with
  | false => rfl
  | true =>
   obtain ⟨m, hm, e2⟩ := numB_iff.1 hb
   exact absurd (by rw [← e2]; exact parse_dec hm) (h m)
 refine ⟨hb, ?_⟩
 unfold numV
 rw [hb, if_neg (by decide)]
def ErrAt (w : World) : Prop := (∃ t p, w.cell? ⟨3, 0, none⟩ = some (.iface t p)) ∧ ∃ t p, w.cell? ⟨4, 0, none⟩ = some (.iface t p)
theorem ErrAt.later {w w' : World} (h : ErrAt w) (k : Below w.heap.size w w') : ErrAt w' := by
 obtain ⟨⟨t, p, h1⟩, t2, p2, h2⟩ := h
 exact ⟨⟨t, p, cell_later h1 k⟩, t2, p2, cell_later h2 k⟩
def PuPost (bs : List UInt8) (w : World) (e : Ending) (w' : World) : Prop :=
 Below w.heap.size w w' ∧ ((∃ u, u < 18446744073709551616 ∧ e = .returned (.tuple #[.int .u64 ((u : Nat) : Int), .nilIface]) ∧ numB bs = decide (decE u = bs) ∧ (decE u = bs → numV bs = u)) ∨
  ∃ u t p, e = .returned (.tuple #[.int .u64 u, .iface t p]) ∧ numB bs = false ∧ numV bs = 0)
theorem parse_any (bs : List UInt8) (w : World) (hbs : bs.length ≤ 140737488355328) (hE : ErrAt w) : Calls Tryz.prog 89 #[.string (textB bs), .int .i64 10, .int .i64 64] w (PuPost bs w) := by
 have hl : (textB bs).data.toList = bs := List.toList_toArray
 have hz := textB_size bs
 obtain ⟨⟨t1, p1, h1⟩, t2, p2, h2⟩ := hE
 cases hp : Lib.parseUintB 64 bs with
 | ok u =>
  refine (Tryz.strconv_ParseUint_10_at64_ok (textB bs) (by omega) u (by rw [hl]; exact hp) w).mono ?_
  rintro e w' ⟨rfl, hw⟩
  have hu : u < 18446744073709551616 := by
   unfold Lib.parseUintB at hp
   split at hp
   ·cases hp
   ·have := Lib.parseUintM_le _ bs 0 u (Nat.zero_le _) hp
    have e : 2 ^ 64 - 1 = 18446744073709551615 := by decide
    omega
  refine ⟨?_, .inl ⟨u, hu, rfl, num_parse hp⟩⟩
  rcases hw with rfl | rfl
  ·exact Below.refl _ _
  ·exact ⟨rfl, rfl, rfl, by rw [Lib.bytesWorld_size]; omega, fun k hk => Lib.bytesWorld_at_old w _ _ k (by omega)⟩
 | range =>
  refine (Tryz.strconv_ParseUint_10_at64_range (textB bs) (by omega) (by rw [hl]; exact hp) _ w h2 (.inr ⟨_, _, rfl⟩)).mono ?_
  rintro e w' ⟨N, rfl, _, _, hb⟩
  exact ⟨hb, .inr ⟨_, _, _, rfl, num_unparse (fun u hu => by rw [hp] at hu; cases hu)⟩⟩
 | _ =>
  refine (Tryz.strconv_ParseUint_10_at64_syntax (textB bs) (by omega) (by rw [hl]; exact hp) _ w h1 (.inr ⟨_, _, rfl⟩)).mono ?_
  rintro e w' ⟨N, rfl, _, _, hb⟩
  exact ⟨hb, .inr ⟨_, _, _, rfl, num_unparse (fun u hu => by rw [hp] at hu; cases hu)⟩⟩
def DmPost (bs : List UInt8) (w : World) (e : Ending) (w' : World) : Prop := e = .returned (.tuple #[.int .u64 ((numV bs : Nat) : Int), .bool (numB bs)]) ∧ Below w.heap.size w w'
set_option maxHeartbeats 4000000 in
theorem decimal_any (bs : List UInt8) (w : World) (hbs : bs.length ≤ 140737488355328) (hE : ErrAt w) (hp : PowAt w) : Calls Tryz.prog 77 #[.string (textB bs)] w (DmPost bs w) := by
 have H := Lib.hid (parse_any bs w hbs hE)
 have HP := Lib.hid hp
 clear hE hp
 go_enter Tryz.func77, Tryz.ntmps77
 go_wp2_with fail
 refine H.out.mono ?_
 rintro e w1 ⟨hb1, ⟨u, hu, rfl, hnb, hnv⟩ | ⟨u, t, p, rfl, hnb, hnv⟩⟩
 ·have HB1 := Lib.hid hb1
  have HF := Lib.hid (fmtUint u w1 hu (HP.out.later hb1))
  have HNB := Lib.hid hnb
  have HNV := Lib.hid hnv
  clear hb1 H hnb hnv
  go_wp2_with fail
  refine HF.out.mono ?_
  rintro e w2 ⟨rfl, hb2⟩
  have HB2 := Lib.hid (HB1.out.trans (hb2.mono HB1.out.size))
  clear hb2 HF HB1
  by_cases he : decE u = bs
  ·have HE : Hid (numB bs = true ∧ numV bs = u) := ⟨HNB.out.trans (decide_eq_true he), HNV.out he⟩
   subst he
   go_wp2
   go_ret2
   exact ⟨by rw [HE.out.1, HE.out.2]; rfl, HB2.out⟩
  ·have hf : numB bs = false := HNB.out.trans (decide_eq_false he)
   have HE : Hid (numB bs = false ∧ numV bs = 0) := ⟨hf, by unfold numV; rw [hf, if_neg (by decide)]⟩
   have hne : ((textB (decE u)).toList == (textB bs).toList) = false := by
    refine text_ne fun h => he ?_
    have := congrArg (fun b => b.data.toList) h
    simpa [textB] using this
   clear hf he
   go_wp2
   go_ret2
   exact ⟨by rw [HE.out.1, HE.out.2]; rfl, HB2.out⟩
 ·have HE : Hid (numB bs = false ∧ numV bs = 0) := ⟨hnb, hnv⟩
  have HB1 := Lib.hid hb1
  clear hnb hnv hb1 H
  go_wp2
  go_ret2
  exact ⟨by rw [HE.out.1, HE.out.2]; rfl, HB1.out⟩
section
open Go.ChangeShapes Go.WideShapes Go.ChangeAt Go.RowKit
abbrev LAID : List (String × DataW Unit) := Rows.listingPrintsRow.laid
theorem gNames : Tryz.prog.globalNamed "rondeau/code.names" = some 0 := by kernel_rfl
theorem gNamesT : (Tryz.prog.globals[0]?).map (·.type) = some 91 := by kernel_rfl
theorem cellsNames : Tryz.prog.cellsOf 91 = 26 := by kernel_rfl
theorem cellsStr : Tryz.prog.cellsOf 9 = 1 := by kernel_rfl
theorem gPow : Tryz.prog.globalNamed "internal/strconv.uint64pow10" = some 2 := by kernel_rfl
theorem gPowT : (Tryz.prog.globals[2]?).map (·.type) = some 138 := by kernel_rfl
theorem cellsPow : Tryz.prog.cellsOf 138 = 20 := by kernel_rfl
theorem cellsU64 : Tryz.prog.cellsOf 26 = 1 := by kernel_rfl
theorem names_of_reads {W : World} (h : Lib.VarReads Tryz.prog W "rondeau/code.names" (strData nmL)) : NamesAt W := by
 obtain ⟨g', t', cs, fuel, p, hg', ht', hvar, hd⟩ := h
 obtain rfl := Option.some.inj (gNames.symm.trans hg')
 obtain rfl := Option.some.inj (gNamesT.symm.trans ht')
 have hc := cells_of_strs Tryz.underlying91 Tryz.underlying9 cellsStr cellsNames hd
 intro i b hb
 have h1 : cs[i]? = some (.string b) := by
  rw [← Array.getElem?_toList, hc, List.getElem?_map, hb]; rfl
 have := World.var?_cell gNames hvar i
 rw [h1] at this
 exact this
theorem pow_of_reads {W : World} (h : Lib.VarReads Tryz.prog W "internal/strconv.uint64pow10" (Lib.tabData .u64 Lib.pow10Tab)) : PowAt W := by
 obtain ⟨g', t', cs, fuel, p, hg', ht', hvar, hd⟩ := h
 obtain rfl := Option.some.inj (gPow.symm.trans hg')
 obtain rfl := Option.some.inj (gPowT.symm.trans ht')
 show Lib.TabIs _ _ _ _ _
 unfold Lib.TabIs
 rw [hvar, ← Lib.cells_of_tab Tryz.underlying138 Tryz.underlying26 cellsU64 cellsPow hd]
theorem err_of_reads {W : World} {name nm : String} {g : Nat} {d : DataW Unit} {t : TypeId} {ms : Array (String × TypeId)} (hg : Tryz.prog.globalNamed name = some g) (ht : (Tryz.prog.globals[g]?).map (·.type) = some t) (hi : Tryz.prog.underlying t = some (.interface ms)) (h : Lib.VarReads Tryz.prog W name (.iface nm d)) : ∃ u v, W.cell? ⟨g, 0, none⟩ = some (.iface u v) := by
 obtain ⟨g', t', cs, fuel, p, hg', ht', hvar, hd⟩ := h
 obtain rfl := Option.some.inj (hg.symm.trans hg')
 obtain rfl := Option.some.inj (ht.symm.trans ht')
 obtain ⟨f2, u, v, hc, _⟩ := iface_of_trod hi hd
 refine ⟨u, v, ?_⟩
 have h1 : cs[0]? = some (.iface u v) := by rw [← Array.getElem?_toList, hc]; rfl
 have := World.var?_cell hg hvar 0
 rw [h1] at this
 exact this
theorem gSyn : Tryz.prog.globalNamed "strconv.ErrSyntax" = some 3 := by kernel_rfl
theorem gRan : Tryz.prog.globalNamed "strconv.ErrRange" = some 4 := by kernel_rfl
theorem gSynT : (Tryz.prog.globals[3]?).map (·.type) = some 85 := by kernel_rfl
theorem gRanT : (Tryz.prog.globals[4]?).map (·.type) = some 85 := by kernel_rfl
theorem pow_datum : (Rows.laid_internal_strconv_uint64pow10 : DataW Unit) = Lib.tabData .u64 Lib.pow10Tab := by kernel_rfl
theorem names_datum : (Rows.laid_rondeau_code_names : DataW Unit) = strData nmL := rfl
structure Laid10 (W : World) : Prop where
 names : NamesAt W
 pow : PowAt W
 err : ErrAt W
 max : ∃ m, W.cell? ⟨1, 0, none⟩ = some (.int .i64 m)
theorem laid_parts {W : World} (h0 : laidMetH Tryz.prog LAID W) (hS : W.ShapedOpen Tryz.prog) : Laid10 W := by
 have h : laidMet Tryz.prog LAID W := h0
 refine ⟨names_of_reads (by rw [← names_datum]; exact Lib.laidMet.reads h (by simp [LAID, Rows.listingPrintsRow])), pow_of_reads (by rw [← pow_datum]; exact Lib.laidMet.reads h (by simp [LAID, Rows.listingPrintsRow])), ⟨?_, ?_⟩, ?_⟩
 ·exact err_of_reads gSyn gSynT Tryz.underlying85 (Lib.laidMet.reads h (n := "strconv.ErrSyntax") (d := Rows.laid_strconv_ErrSyntax) (by simp [LAID, Rows.listingPrintsRow]))
 ·exact err_of_reads gRan gRanT Tryz.underlying85 (Lib.laidMet.reads h (n := "strconv.ErrRange") (d := Rows.laid_strconv_ErrRange) (by simp [LAID, Rows.listingPrintsRow]))
 ·exact cell_of_shapedOpen_int (t := 3) (zero := #[.int .i64 0]) hS (of_decide_eq_true (by kernel_rfl)) (by kernel_rfl) rfl (by kernel_rfl) (by kernel_rfl) Tryz.underlying3
end
def odL (op : Int) : List Nat :=
 if op = 1 then [65, 75] else if op = 2 ∨ op = 23 then [65, 66] else if 3 ≤ op ∧ op ≤ 14 then [65, 66, 82] else if op = 15 then [75] else
 if op = 16 ∨ op = 17 then [65, 75] else if op = 18 then [65, 66, 67, 68] else if op = 19 then [65, 66, 67, 68, 75] else if op = 20 then [67] else
 if op = 21 ∨ op = 22 ∨ op = 24 then [65] else []
def wtB (d : Int) : List UInt8 := if d = 0 then [116, 114, 121] else if d = 1 then [119, 97, 105, 116] else [116, 105, 109, 101, 100]
def wrO (x : In) (o : Nat) : List UInt8 :=
 if o = 65 then 114 :: decE x.a.toNat else if o = 66 then 114 :: decE x.b.toNat else if o = 82 then 114 :: decE x.c.toNat else
 if o = 67 then decE x.c.toNat else if o = 68 then wtB x.d else decE x.k
def nmT (op : Int) : List UInt8 := (nmB op).data.toList
def wdO (x : In) (l : List Nat) : List UInt8 := l.flatMap fun o => 32 :: wrO x o
def lnI (x : In) : List UInt8 := nmT x.op ++ wdO x (odL x.op)
def rilOk (r : Ri) : Bool := (decide (0 ≤ r.c) && (decide (r.c ≤ 255) && (decide (0 ≤ r.r) && decide (r.r ≤ 255)))) && ((r.k == 1 && r.r == 1) || r.k == 2)
def lnR (r : Ri) : List UInt8 := if r.k = 1 then [113, 117, 101, 117, 101, 32] ++ decE r.c.toNat else [99, 97, 115, 116, 32] ++ (decE r.c.toNat ++ (32 :: decE r.r.toNat))
def thrW : List UInt8 := [116, 104, 114, 101, 97, 100, 10]
def prRs (l : List Ri) : List UInt8 := l.flatMap fun r => lnR r ++ [10]
def prIs (l : List In) : List UInt8 := l.flatMap fun x => lnI x ++ [10]
def prTs (l : List (List In)) : List UInt8 := l.flatMap fun t => thrW ++ prIs t
def prL (p : Pg) : List UInt8 := prRs p.rs ++ prTs p.ts
theorem gL_le (op : Int) : 0 ≤ (gL op).1 ∧ (gL op).1 ≤ 7 ∧ 0 ≤ (gL op).2.1 ∧ (gL op).2.1 ≤ 7 ∧ 0 ≤ (gL op).2.2.1 ∧ (gL op).2.2.1 ≤ 7 ∧ 0 ≤ (gL op).2.2.2 ∧ (gL op).2.2.2 ≤ 2 := by
 by_cases h : opB op = true
 ·rcases op_lit h with e | e | e | e | e | e | e | e | e | e | e | e | e | e | e | e | e | e | e | e | e | e | e | e | e
  all_goals rw [e]; decide
 ·have h2 : ¬ (1 ≤ op ∧ op ≤ 25) := by unfold opB at h; simpa using h
  have : gL op = (7, 7, 7, 0) := by
   unfold gL
   rw [if_neg (by omega), if_neg (by omega), if_neg (by omega), if_neg (by omega), if_neg (by omega), if_neg (by omega), if_neg (by omega), if_neg (by omega), if_neg (by omega), if_neg (by omega), if_neg (by omega), if_neg (by omega), if_neg (by omega)]
  rw [this]; decide
theorem right_in10 {x : In} (h : rightB x = true) : (1 ≤ x.op ∧ x.op ≤ 25) ∧ (0 ≤ x.a ∧ x.a ≤ 7) ∧ (0 ≤ x.b ∧ x.b ≤ 7) ∧ (0 ≤ x.c ∧ x.c ≤ 7) ∧ (0 ≤ x.d ∧ x.d ≤ 2) ∧ x.k < 18446744073709551616 := by
 unfold rightB opB wB kB at h
 simp only [Bool.and_eq_true, decide_eq_true_eq] at h
 obtain ⟨h0, ⟨h1, h2⟩, ⟨h3, h4⟩, ⟨h5, h6⟩, ⟨h7, h8⟩, h9⟩ := h
 have hg := gL_le x.op
 have hk := gK_wf x.op
 omega
theorem odL_length (op : Int) : (odL op).length ≤ 5 := by
 unfold odL
 repeat' split
 all_goals decide
theorem odL_mem (op : Int) : ∀ o ∈ odL op, o = 65 ∨ o = 66 ∨ o = 82 ∨ o = 67 ∨ o = 68 ∨ o = 75 := by
 unfold odL
 repeat' split
 all_goals decide
theorem decE_len {n : Nat} : (decE n).length ≤ 20 := (decF_length 19 n).2
theorem wrO_len (x : In) (o : Nat) : (wrO x o).length ≤ 21 := by
 unfold wrO wtB
 have h1 := @decE_len x.a.toNat
 have h2 := @decE_len x.b.toNat
 have h3 := @decE_len x.c.toNat
 have h4 := @decE_len x.k
 repeat' split
 all_goals first
  | omega
  | (simp only [List.length_cons, List.length_nil]; omega)
theorem wtB_len (d : Int) : (wtB d).length ≤ 20 := by
 unfold wtB
 split
 ·decide
 ·split <;> decide
theorem wdO_len (x : In) : ∀ l : List Nat, (wdO x l).length ≤ 22 * l.length
 | [] => by simp [wdO]
 | o :: l => by
  have h1 := wdO_len x l
  have h2 := wrO_len x o
  show (List.flatMap _ (o :: l)).length ≤ _
  rw [List.flatMap_cons, List.length_append, List.length_cons, List.length_cons]
  show _ + (wdO x l).length ≤ _
  omega
theorem nmB_size (op : Int) : (nmB op).size ≤ 10 := by
 unfold nmB
 split
 ·rename_i h
  rcases op_lit h with e | e | e | e | e | e | e | e | e | e | e | e | e | e | e | e | e | e | e | e | e | e | e | e | e
  all_goals rw [e]; decide
 ·decide
theorem nmT_len (op : Int) : (nmT op).length ≤ 10 := by
 have := nmB_size op
 unfold nmT
 rw [Array.length_toList]; exact this
theorem lnI_len (x : In) : (lnI x).length ≤ 200 := by
 unfold lnI
 have h1 := nmT_len x.op
 have h2 := wdO_len x (odL x.op)
 have h3 := odL_length x.op
 rw [List.length_append]; omega
theorem wdO_snoc (x : In) (l : List Nat) (o : Nat) : wdO x (l ++ [o]) = wdO x l ++ 32 :: wrO x o := by
 unfold wdO
 rw [List.flatMap_append, List.flatMap_cons, List.flatMap_nil, List.append_nil]
theorem nm_text (op : Int) : nmB op = textB (nmT op) := rfl
abbrev fnV (n : Nat) : Value := .func (.func n) #[] #[]
abbrev capV (n g : Nat) : Value := .func (.func n) #[] #[.pointer (some ⟨g, 0, none⟩)]
def fldF (o : Nat) : Nat := if o = 65 then 54 else if o = 66 then 55 else 56
def fldN (o : Nat) : Nat := if o = 65 then 1 else if o = 66 then 2 else 3
def fldZ (x : In) (o : Nat) : Int := if o = 65 then x.a else if o = 66 then x.b else x.c
def opV (o g : Nat) : List Value :=
 if o = 67 then [fnV 78, fnV 79] else if o = 75 then [fnV 74, fnV 76] else
 if o = 68 then [capV 80 g, capV 81 g] else [capV 71 g, capV 72 g]
def OdAt (w : World) (o g : Nat) : Prop :=
 if o = 67 ∨ o = 75 then True else if o = 68 then Lies w g 110 #[.string ⟨#[116, 114, 121]⟩, .string ⟨#[119, 97, 105, 116]⟩, .string ⟨#[116, 105, 109, 101, 100]⟩] else Lies w g 95 #[fnV (fldF o)]
theorem OdAt.below {w w' : World} {o g : Nat} (h : OdAt w o g) (hb : Below w.heap.size w w') : OdAt w' o g := by
 unfold OdAt at *
 split
 ·trivial
 ·rename_i h1
  rw [if_neg h1] at h
  split
  ·rename_i h2
   rw [if_pos h2] at h
   exact h.below hb h.lt
  ·rename_i h2
   rw [if_neg h2] at h
   exact h.below hb h.lt
theorem enterW1 (a : Array Value) (wx : World) : (callFunc 54 a).run Tryz.prog wx = .ok (.enter 54 a) wx := by kernel_rfl
theorem enterW2 (a : Array Value) (wx : World) : (callFunc 55 a).run Tryz.prog wx = .ok (.enter 55 a) wx := by kernel_rfl
theorem enterW3 (a : Array Value) (wx : World) : (callFunc 56 a).run Tryz.prog wx = .ok (.enter 56 a) wx := by kernel_rfl
theorem enterFl (o : Nat) (a : Array Value) (wx : World) : (callFunc (fldF o) a).run Tryz.prog wx = .ok (.enter (fldF o) a) wx := by
 unfold fldF
 split
 ·exact enterW1 a wx
 ·split
  ·exact enterW2 a wx
  ·exact enterW3 a wx
theorem fldP (o b i : Nat) (w : World) : Calls Tryz.prog (fldF o) #[.pointer (some ⟨b, i, none⟩)] w fun e w' => e = .returned (.pointer (some ⟨b, i + fldN o, none⟩)) ∧ w = w' := by
 unfold fldF fldN
 split
 ·
  go_enter Tryz.func54, Tryz.ntmps54
  go_wp2
  go_ret
  exact ⟨rfl, rfl⟩
 ·split
  ·go_enter Tryz.func55, Tryz.ntmps55
   go_wp2
   go_ret
   exact ⟨rfl, rfl⟩
  ·go_enter Tryz.func56, Tryz.ntmps56
   go_wp2
   go_ret
   exact ⟨rfl, rfl⟩
def InIn (x : In) : Prop := (1 ≤ x.op ∧ x.op ≤ 25) ∧ (0 ≤ x.a ∧ x.a ≤ 7) ∧ (0 ≤ x.b ∧ x.b ≤ 7) ∧ (0 ≤ x.c ∧ x.c ≤ 7) ∧ (0 ≤ x.d ∧ x.d ≤ 2) ∧ x.k < 18446744073709551616
theorem fld_cell {w : World} {g : Nat} {x : In} (h : Lies w g 28 (inC x)) (o : Nat) : w.cell? ⟨g, 0 + fldN o, none⟩ = some (.int .i64 (fldZ x o)) := by
 rw [Nat.zero_add]
 unfold fldN fldZ
 split
 ·exact (h.cell 1).trans (show _ = some (Value.int .i64 x.a) from rfl)
 ·split
  ·exact (h.cell 2).trans (show _ = some (Value.int .i64 x.b) from rfl)
  ·exact (h.cell 3).trans (show _ = some (Value.int .i64 x.c) from rfl)
theorem fldZ_in {x : In} (h : InIn x) (o : Nat) : 0 ≤ fldZ x o ∧ fldZ x o ≤ 7 := by
 obtain ⟨_, h1, h2, h3, _⟩ := h
 unfold fldZ
 split
 ·exact h1
 ·split
  ·exact h2
  ·exact h3
theorem r_text (l : List UInt8) : (⟨#[114]⟩ : ByteArray) ++ textB l = textB (114 :: l) := by rw [show (⟨#[114]⟩ : ByteArray) = textB [114] from rfl, text_append]; rfl
set_option maxHeartbeats 4000000 in
theorem regWrite (o g : Nat) (x : In) (w : World) (hx : InIn x) (hc : Lies w g 95 #[fnV (fldF o)]) (hp : PowAt w) :
  Calls Tryz.prog 71 #[.agg (inC x), .pointer (some ⟨g, 0, none⟩)] w fun e w' => e = .returned (.string (textB (114 :: decE (fldZ x o).toNat))) ∧ Below w.heap.size w w' := by
 have hb0 := (Below.refl w.heap.size w).alloc (Nat.le_refl _) (.cells (inC x) 28)
 have HL := Lib.hid (Lies.made w 28 (inC x))
 have HB := Lib.hid hb0
 have HP := Lib.hid (hp.later hb0)
 have HC := Lib.hid (hc.below hb0 hc.lt)
 have hz := fldZ_in hx o
 obtain ⟨n, hn⟩ : ∃ n : Nat, fldZ x o = (n : Int) := ⟨(fldZ x o).toNat, by omega⟩
 rw [hn, Int.toNat_natCast]
 have hn7 : n ≤ 7 := by omega
 obtain ⟨q, hq⟩ : ∃ q, q = w.heap.size := ⟨_, rfl⟩
 have HQ := Lib.hid hq
 rw [← hq] at HL
 have hf0 := fld_cell HL.out o
 rw [hn] at hf0
 have hf1 : (w.alloc (.cells (inC x) 28)).cell? ⟨q, fldN o, none⟩ = some (.int .i64 (n : Int)) := by rw [Nat.zero_add] at hf0; exact hf0
 have HF0 := Lib.hid hf0
 have HF1 := Lib.hid hf1
 clear hc hp hb0 hz hn hf0 hf1 hq
 go_enter Tryz.func71, Tryz.ntmps71
 go_upto_region 1 with (fail)
 try rw [← HQ.out]
 have hen := enterFl o
 have hfp := fldP o q 0
 generalize w.alloc (.cells (inC x) 28) = w1 at *
 have c0 := (HC.out.cell 0).trans (show _ = some (fnV (fldF o)) from rfl)
 have gl := HC.out.lt
 have HE := Lib.hid hen
 have HFP := Lib.hid hfp
 clear hen hfp
 generalize hF : fldF o = F at *
 have hen := HE.out
 go_wp2_with fail
 refine (HFP.out w1).mono ?_
 rintro e w2 ⟨rfl, rfl⟩
 clear hen c0 gl HFP HE hF
 have ql := HL.out.lt
 have c1 := HF0.out
 have c2 := HF1.out
 have HI := Lib.hid (itoaAny n w1 (by omega) HP.out)
 have hdl := @decE_len n
 obtain ⟨T, hT⟩ : ∃ T, T = textB (decE n) := ⟨_, rfl⟩
 have HJ := Lib.hid (show (⟨#[114]⟩ : ByteArray) ++ T = textB (114 :: decE n) by rw [hT]; exact r_text _)
 have hts : T.size ≤ 20 := by rw [hT, textB_size]; exact hdl
 rw [← hT] at HI
 clear hT hdl
 have z1 : ¬ 9223372036854775807 < 1 + T.size := by omega
 go_wp2_with fail
 refine HI.out.mono ?_
 rintro e w3 ⟨rfl, hb3⟩
 have HB3 := Lib.hid (HB.out.trans (hb3.mono HB.out.size))
 clear hb3 HI ql c1 c2
 go_wp2
 go_ret
 exact ⟨by rw [HJ.out]; rfl, HB3.out⟩
set_option maxHeartbeats 2000000 in
theorem ringWrite (x : In) (w : World) (hx : InIn x) (hp : PowAt w) :
  Calls Tryz.prog 78 #[.agg (inC x)] w fun e w' => e = .returned (.string (textB (decE x.c.toNat))) ∧ Below w.heap.size w w' := by
 have hb0 := (Below.refl w.heap.size w).alloc (Nat.le_refl _) (.cells (inC x) 28)
 have hz := hx.2.2.2.1
 obtain ⟨n, hn⟩ : ∃ n : Nat, x.c = (n : Int) := ⟨x.c.toNat, by omega⟩
 have HL := Lib.hid (Lies.made w 28 (inC x))
 have HB := Lib.hid hb0
 have HI := Lib.hid (fun (q : World) (hq : Below w.heap.size w q) => itoaAny n q (by omega) (hp.later hq))
 rw [hn, Int.toNat_natCast]
 have c3 := (HL.out.cell 3).trans (show _ = some (Value.int .i64 x.c) from rfl)
 rw [hn] at c3
 clear hb0 hz hn
 go_enter Tryz.func78, Tryz.ntmps78
 go_wp2_with fail
 refine (HI.out _ HB.out).mono ?_
 rintro e w3 ⟨rfl, hb3⟩
 have HB3 := Lib.hid (HB.out.trans (hb3.mono HB.out.size))
 clear hb3 HI
 go_wp2
 go_ret
 exact ⟨rfl, HB3.out⟩
set_option maxHeartbeats 2000000 in
theorem numWrite (x : In) (w : World) (hx : InIn x) (hp : PowAt w) :
  Calls Tryz.prog 74 #[.agg (inC x)] w fun e w' => e = .returned (.string (textB (decE x.k))) ∧ Below w.heap.size w w' := by
 have hb0 := (Below.refl w.heap.size w).alloc (Nat.le_refl _) (.cells (inC x) 28)
 have HL := Lib.hid (Lies.made w 28 (inC x))
 have HB := Lib.hid hb0
 have HI := Lib.hid (fun (q : World) (hq : Below w.heap.size w q) => fmtUint x.k q hx.2.2.2.2.2 (hp.later hq))
 have c5 := (HL.out.cell 5).trans (show _ = some (Value.int .u64 (x.k : Int)) from rfl)
 clear hb0
 go_enter Tryz.func74, Tryz.ntmps74
 go_wp2_with fail
 refine (HI.out _ HB.out).mono ?_
 rintro e w3 ⟨rfl, hb3⟩
 have HB3 := Lib.hid (HB.out.trans (hb3.mono HB.out.size))
 clear hb3 HI
 go_wp2
 go_ret
 exact ⟨rfl, HB3.out⟩
set_option maxHeartbeats 2000000 in
theorem modeWrite (g : Nat) (x : In) (w : World) (hx : InIn x) (hc : Lies w g 110 #[.string ⟨#[116, 114, 121]⟩, .string ⟨#[119, 97, 105, 116]⟩, .string ⟨#[116, 105, 109, 101, 100]⟩]) :
  Calls Tryz.prog 80 #[.agg (inC x), .pointer (some ⟨g, 0, none⟩)] w fun e w' => e = .returned (.string (textB (wtB x.d))) ∧ Below w.heap.size w w' := by
 have hb0 := (Below.refl w.heap.size w).alloc (Nat.le_refl _) (.cells (inC x) 28)
 have HL := Lib.hid (Lies.made w 28 (inC x))
 have HB := Lib.hid hb0
 have HC := Lib.hid (hc.below hb0 hc.lt)
 have c4 := (HL.out.cell 4).trans (show _ = some (Value.int .i64 x.d) from rfl)
 have k0 := (HC.out.cell 0).trans (show _ = some (Value.string ⟨#[116, 114, 121]⟩) from rfl)
 have k1 := (HC.out.cell 1).trans (show _ = some (Value.string ⟨#[119, 97, 105, 116]⟩) from rfl)
 have k2 := (HC.out.cell 2).trans (show _ = some (Value.string ⟨#[116, 105, 109, 101, 100]⟩) from rfl)
 have gl := HC.out.lt
 have hd := hx.2.2.2.2.1
 clear hb0 hc
 generalize hdz : x.d = d at *
 clear hdz
 rcases (show d = 0 ∨ d = 1 ∨ d = 2 by omega) with rfl | rfl | rfl
 all_goals
  go_enter Tryz.func80, Tryz.ntmps80
  go_wp2
  go_ret
  exact ⟨rfl, HB.out⟩
theorem storeFn (a : Addr) (f : Fn) (x y : Array Value) (m : Mode) (W : World) : (store a (.func f x y) m).run Tryz.prog W = stored Tryz.prog W a (.func f x y) m := run_store Tryz.prog W a (.func f x y) m rfl
set_option maxHeartbeats 2000000 in
theorem ringMake (w : World) : Calls Tryz.prog 58 #[] w fun e w' => e = .returned (.agg #[fnV 78, fnV 79]) ∧ Below w.heap.size w w' := by
 have hst := storeFn
 go_enter Tryz.func58, Tryz.ntmps58
 go_wp2_with fail
 refine bodyPost_ret (v := .agg #[fnV 78, fnV 79]) (by simp [results, Tryz.results58, go_sem]) rfl ?_
 exact ⟨rfl, (Below.refl w.heap.size w).alloc (Nat.le_refl _) _⟩
set_option maxHeartbeats 2000000 in
theorem numMake (w : World) : Calls Tryz.prog 57 #[] w fun e w' => e = .returned (.agg #[fnV 74, fnV 76]) ∧ Below w.heap.size w w' := by
 have hst := storeFn
 go_enter Tryz.func57, Tryz.ntmps57
 go_wp2_with fail
 refine bodyPost_ret (v := .agg #[fnV 74, fnV 76]) (by simp [results, Tryz.results57, go_sem]) rfl ?_
 exact ⟨rfl, (Below.refl w.heap.size w).alloc (Nat.le_refl _) _⟩
set_option maxHeartbeats 2000000 in
theorem regMake (n : Nat) (w : World) : Calls Tryz.prog 53 #[fnV n] w fun e w' => ∃ g, e = .returned (.agg #[capV 71 g, capV 72 g]) ∧ Lies w' g 95 #[fnV n] ∧ Below w.heap.size w w' := by
 have hst := storeFn
 go_enter Tryz.func53, Tryz.ntmps53
 go_wp2_with fail
 refine bodyPost_ret (v := .agg #[capV 71 w.heap.size, capV 72 w.heap.size]) (by simp [results, Tryz.results53, go_sem]) rfl ?_
 exact ⟨_, rfl, (Lies.made w _ _).alloc _, ((Below.refl w.heap.size w).alloc (Nat.le_refl _) _).alloc (by simp) _⟩
theorem Lies.of_eq {w : World} {g g' : Nat} {t : TypeId} {cs : Array Value} (h : Lies w g t cs) (e : g = g') : Lies w g' t cs := e ▸ h
abbrev mdC : Array Value := #[.string ⟨#[116, 114, 121]⟩, .string ⟨#[119, 97, 105, 116]⟩, .string ⟨#[116, 105, 109, 101, 100]⟩]
set_option maxHeartbeats 4000000 in
theorem modeMake (w : World) : Calls Tryz.prog 59 #[] w fun e w' => ∃ g, e = .returned (.agg #[capV 80 g, capV 81 g]) ∧ Lies w' g 110 mdC ∧ Below w.heap.size w w' := by
 have hst := storeFn
 go_enter Tryz.func59, Tryz.ntmps59
 go_wp2_with fail
 refine bodyPost_ret (v := .agg #[capV 80 (w.heap.size + 1), capV 81 (w.heap.size + 1)]) (by simp [results, Tryz.results59, go_sem]) rfl ?_
 exact ⟨_, rfl, Lies.of_eq (Lies.made _ _ _) (by simp), ((Below.refl w.heap.size w).alloc (Nat.le_refl _) _).alloc (by simp) _⟩
abbrev rgC (g : Nat) : Array Value := #[capV 71 g, capV 72 g]
def OpsS (w q : World) (pa pb pc ga gb gc : Nat) : Prop := Below w.heap.size w q ∧ (Lies q pa 61 (rgC ga) ∧ Lies q pb 61 (rgC gb) ∧ Lies q pc 61 (rgC gc)) ∧
 Lies q ga 95 #[fnV (fldF 65)] ∧ Lies q gb 95 #[fnV (fldF 66)] ∧ Lies q gc 95 #[fnV (fldF 82)]
theorem OpsS.later {w q q' : World} {pa pb pc ga gb gc : Nat} (h : OpsS w q pa pb pc ga gb gc) (hb : Below q.heap.size q q') : OpsS w q' pa pb pc ga gb gc := by
 obtain ⟨h1, ⟨h2, h3, h4⟩, h5, h6, h7⟩ := h
 exact ⟨h1.trans (hb.mono h1.size), ⟨h2.below hb h2.lt, h3.below hb h3.lt, h4.below hb h4.lt⟩, h5.below hb h5.lt, h6.below hb h6.lt, h7.below hb h7.lt⟩
theorem OpsS.drew {w q : World} {pa pb pc ga gb gc : Nat} (h : OpsS w q pa pb pc ga gb gc) : OpsS w q.drew pa pb pc ga gb gc := h.later (below_drewN (Below.refl _ _) 1)
def opsL : List Nat → List Nat → List Value
 | o :: os, g :: gs => opV o g ++ opsL os gs
 | _, _ => []
theorem opV_two (o g : Nat) : (opV o g).length = 2 := by
 unfold opV
 repeat' split
 all_goals rfl
theorem opsL_get : ∀ {os gs : List Nat} {i o g j : Nat}, os[i]? = some o → gs[i]? = some g → j < 2 → (opsL os gs)[i * 2 + j]? = (opV o g)[j]?
 | [], _, i, o, g, j, h, _, _ => by simp at h
 | _ :: _, [], i, o, g, j, _, h, _ => by simp at h
 | a :: os, b :: gs, 0, o, g, j, h1, h2, hj => by
  simp only [List.getElem?_cons_zero, Option.some.injEq] at h1 h2
  subst h1; subst h2
  show (opV a b ++ opsL os gs)[0 * 2 + j]? = _
  rw [List.getElem?_append_left (by rw [opV_two]; omega)]
  simp
 | a :: os, b :: gs, i + 1, o, g, j, h1, h2, hj => by
  simp only [List.getElem?_cons_succ] at h1 h2
  show (opV a b ++ opsL os gs)[(i + 1) * 2 + j]? = _
  rw [List.getElem?_append_right (by rw [opV_two]; omega), opV_two, show (i + 1) * 2 + j - 2 = i * 2 + j by omega]
  exact opsL_get h1 h2 hj
theorem opsL_len : ∀ {os gs : List Nat}, gs.length = os.length → (opsL os gs).length = os.length * 2
 | [], _, _ => by cases ‹List Nat› <;> simp [opsL]
 | _ :: _, [], h => by simp at h
 | a :: os, b :: gs, h => by
  show (opV a b ++ opsL os gs).length = _
  rw [List.length_append, opV_two, opsL_len (by simpa using h), List.length_cons]; omega
def OpG (q : World) (B : Nat) (os gs : List Nat) (v : Value) : Prop := q.ownsRow B 61 2 v os.length (opsL os gs) ∧ ∀ (i o g : Nat), os[i]? = some o → gs[i]? = some g → OdAt q o g
theorem OpG.later {q q' : World} {B : Nat} {os gs : List Nat} {v : Value} (h : OpG q B os gs v) (hb : Below q.heap.size q q') : OpG q' B os gs v := ⟨owned_below h.1 hb, fun i o g a b => OdAt.below (h.2 i o g a b) hb⟩
theorem OdAt.grown {q q' : World} {B n : Nat} {o g : Nat} {u : Value} {xs : List Value} {ob : Obj} (h : OdAt q o g) (ho : q.ownsRow B 9 1 u n xs) (hg : (q.alloc ob).grownBy q' u.ownBlock) : OdAt q' o g := by
 unfold OdAt at *
 split
 ·trivial
 ·rename_i h1
  rw [if_neg h1] at h
  split
  ·rename_i h2
   rw [if_pos h2] at h
   exact h.kept (kept_grown hg) (own_ne ho h (by decide))
  ·rename_i h2
   rw [if_neg h2] at h
   exact h.kept (kept_grown hg) (own_ne ho h (by decide))
theorem OpG.grown {q q' : World} {B B' n : Nat} {os gs : List Nat} {v u : Value} {xs : List Value} {ob : Obj} (h : OpG q B os gs v) (ho : q.ownsRow B' 9 1 u n xs) (hg : (q.alloc ob).grownBy q' u.ownBlock) : OpG q' B os gs v :=
 ⟨owns_kept h.1 (kept_grown hg) (fun r cur _ hl e => own_ne ho hl (by decide) e), fun i o g a b => OdAt.grown (h.2 i o g a b) ho hg⟩
def OpsAt (q : World) (B : Nat) (os : List Nat) (v : Value) : Prop := ∃ gs : List Nat, gs.length = os.length ∧ OpG q B os gs v
def odG (op : Int) : List Nat := if op = 0 then [65, 66, 82] else odL op
def allOd (q : World) : List Nat → List Nat → Prop
 | o :: os, g :: gs => OdAt q o g ∧ allOd q os gs
 | _, _ => True
theorem allOd.get {q : World} : ∀ {os gs : List Nat}, allOd q os gs → ∀ (i o g : Nat), os[i]? = some o → gs[i]? = some g → OdAt q o g
 | [], _, _, i, o, g, h, _ => by simp at h
 | _ :: _, [], _, i, o, g, _, h => by simp at h
 | a :: os, b :: gs, h, 0, o, g, h1, h2 => by
  simp only [List.getElem?_cons_zero, Option.some.injEq] at h1 h2
  subst h1; subst h2; exact h.1
 | a :: os, b :: gs, h, i + 1, o, g, h1, h2 => by
  simp only [List.getElem?_cons_succ] at h1 h2
  exact allOd.get h.2 i o g h1 h2
theorem OdAt.ra {q : World} {g : Nat} (h : Lies q g 95 #[fnV (fldF 65)]) : OdAt q 65 g := by unfold OdAt; rw [if_neg (by decide), if_neg (by decide)]; exact h
theorem OdAt.rb {q : World} {g : Nat} (h : Lies q g 95 #[fnV (fldF 66)]) : OdAt q 66 g := by unfold OdAt; rw [if_neg (by decide), if_neg (by decide)]; exact h
theorem OdAt.rc {q : World} {g : Nat} (h : Lies q g 95 #[fnV (fldF 82)]) : OdAt q 82 g := by unfold OdAt; rw [if_neg (by decide), if_neg (by decide)]; exact h
theorem OdAt.c (q : World) (g : Nat) : OdAt q 67 g := by unfold OdAt; rw [if_pos (by decide)]; trivial
theorem OdAt.k (q : World) (g : Nat) : OdAt q 75 g := by unfold OdAt; rw [if_pos (by decide)]; trivial
theorem OdAt.d {q : World} {g : Nat} (h : Lies q g 110 mdC) : OdAt q 68 g := by unfold OdAt; rw [if_neg (by decide), if_pos rfl]; exact h
theorem ops_done {w q : World} {O : List Nat} (os gs : List Nat) (cs : Array Value) (hb : Below w.heap.size w q) (hO : O = os) (hl : gs.length = os.length) (hc : cs.toList = opsL os gs) (hn : os.length ≤ 5) (ho : allOd q os gs) :
  OpsAt (q.alloc (.cells cs 61)) w.heap.size O (.slice (some ⟨q.heap.size, 0, none⟩) os.length os.length) ∧ Below w.heap.size w (q.alloc (.cells cs 61)) := by
 subst hO
 have hz : cs.size = O.length * 2 := by rw [← opsL_len hl, ← hc]; simp
 refine ⟨⟨gs, hl, ?_, fun i o g a b => OdAt.below (ho.get i o g a b) ((Below.refl _ _).alloc (Nat.le_refl _) _)⟩, hb.alloc hb.size _⟩
 rw [← hc]
 exact World.ownsRow_lit q cs O.length hb.size (by unfold maxLen; omega) hz
set_option maxHeartbeats 8000000 in
theorem opsPre (op : Int) (w : World) (h : 0 ≤ op ∧ op ≤ 25) : Calls Tryz.prog 27 #[.int .i64 op] w fun e w' => ∃ v, e = .returned v ∧ OpsAt w' w.heap.size (odG op) v ∧ Below w.heap.size w w' := by
 have hst := storeFn
 have HRM := Lib.hid regMake
 have HCM := Lib.hid ringMake
 have HDM := Lib.hid modeMake
 have HKM := Lib.hid numMake
 go_enter Tryz.func27, Tryz.ntmps27
 go_wp2_with fail
 refine (HRM.out _ w).mono ?_
 rintro e w1 ⟨ga, rfl, ha1, hb1⟩
 have hN1 := hb1.size
 have HB1 := Lib.hid (hb1.alloc hb1.size (.cells (rgC ga) 61))
 have HA1 := Lib.hid (ha1.alloc (.cells (rgC ga) 61))
 have HP1 := Lib.hid (Lies.made w1 61 (rgC ga))
 clear ha1 hb1
 go_wp2_with fail
 obtain ⟨pa, hpa⟩ : ∃ p, p = w1.heap.size := ⟨_, rfl⟩
 rw [← hpa] at HP1 hN1
 simp only [← hpa]
 have HPA := Lib.hid hpa
 generalize w1.alloc (.cells _ 61) = w2 at *
 refine (HRM.out _ w2).mono ?_
 rintro e w3 ⟨gb, rfl, hg3, hb3⟩
 have HB3 := Lib.hid ((HB1.out.trans (hb3.mono HB1.out.size)).alloc (Nat.le_trans HB1.out.size hb3.size) (.cells (rgC gb) 61))
 have HA3 := Lib.hid ((HA1.out.below hb3 HA1.out.lt).alloc (.cells (rgC gb) 61))
 have HPA3 := Lib.hid ((HP1.out.below hb3 HP1.out.lt).alloc (.cells (rgC gb) 61))
 have HG3 := Lib.hid (hg3.alloc (.cells (rgC gb) 61))
 have HPB3 := Lib.hid (Lies.made w3 61 (rgC gb))
 clear hg3 hb3 HB1 HA1 HP1
 go_wp2_with fail
 obtain ⟨pb, hpb⟩ : ∃ p, p = w3.heap.size := ⟨_, rfl⟩
 rw [← hpb] at HPB3
 simp only [← hpb]
 generalize w3.alloc (.cells _ 61) = w4 at *
 refine (HRM.out _ w4).mono ?_
 rintro e w5 ⟨gc, rfl, hg5, hb5⟩
 have HS := Lib.hid (show OpsS w (w5.alloc (.cells (rgC gc) 61)) pa pb w5.heap.size ga gb gc from
  ⟨(HB3.out.trans (hb5.mono HB3.out.size)).alloc (Nat.le_trans HB3.out.size hb5.size) _, ⟨(HPA3.out.below hb5 HPA3.out.lt).alloc _, (HPB3.out.below hb5 HPB3.out.lt).alloc _, Lies.made _ _ _⟩,
   (HA3.out.below hb5 HA3.out.lt).alloc _, (HG3.out.below hb5 HG3.out.lt).alloc _, hg5.alloc _⟩)
 clear hg5 hb5 HB3 HA3 HPA3 HG3 HPB3 HRM hN1 hpa hpb
 go_upto_region 4 with (fail)
 obtain ⟨pc, hpc⟩ : ∃ p, p = w5.heap.size := ⟨_, rfl⟩
 rw [← hpc] at HS
 simp only [← hpc, ← HPA.out]
 clear HPA
 generalize w5.alloc (.cells _ 61) = w6 at *
 have la := HS.out.2.1.1.lt
 have lb := HS.out.2.1.2.1.lt
 have lc := HS.out.2.1.2.2.lt
 have a0 := (HS.out.2.1.1.cell 0).trans (show _ = some (capV 71 ga) from rfl)
 have a1 := (HS.out.2.1.1.cell 1).trans (show _ = some (capV 72 ga) from rfl)
 have b0 := (HS.out.2.1.2.1.cell 0).trans (show _ = some (capV 71 gb) from rfl)
 have b1 := (HS.out.2.1.2.1.cell 1).trans (show _ = some (capV 72 gb) from rfl)
 have c0 := (HS.out.2.1.2.2.cell 0).trans (show _ = some (capV 71 gc) from rfl)
 have c1 := (HS.out.2.1.2.2.cell 1).trans (show _ = some (capV 72 gc) from rfl)
 clear hpc
 by_cases h4 : op = 1 ∨ op = 16 ∨ op = 17
 ·rcases h4 with rfl | rfl | rfl
  all_goals
   go_wp2_with fail
   refine wp_region_held_drew (S := fun x => OpsS w x pa pb pc ga gb gc) (by kernel_rfl) HS.out.drew (fun hHeld => ?_)
   clear HS la lb lc a0 a1 b0 b1 c0 c1
   try simp only [Act.put, List.setIfInBounds_toArray, List.set_cons_zero, List.set_cons_succ]
   refine wpAnyH_take (i := 0) (v := (.agg (rgC ga))) rfl (by kernel_rfl) (by kernel_rfl) (by kernel_rfl) (fun _ _ _ h => h) (Or.inl ⟨by rfl, fun w h => by (simp only [List.getElem_toArray, List.getElem_cons_succ, List.getElem_cons_zero]; have h0 := (h.2.1.1).cell 0; have h1 := (h.2.1.1).cell 1; have h2 := (h.2.1.1).lt; simp at h0 h1; clear h; go_simp)⟩) (by assumption) ?_
   simp only [Act.put, List.getElem_toArray, List.getElem_cons_succ, List.getElem_cons_zero, List.setIfInBounds_toArray, List.set_cons_zero, List.set_cons_succ]
   refine wpAnyH_ready (rs := [1]) (by kernel_rfl) (by simp) ?_
   refine AllReadyH.cons rfl (fun K hK => ?_) AllReadyH.nil
   rw [if_pos (by rfl)]
   go_wp2_with fail
   refine (HKM.out _).mono ?_
   rintro e q ⟨rfl,hb⟩
   dsimp only
   refine hK.out _ _ (hHeld.later hb) (fun hHeld1 => ?_)
   clear hK K hHeld
   have hHeld := hHeld1
   clear hHeld1
   try simp only [Act.put, List.setIfInBounds_toArray, List.set_cons_zero, List.set_cons_succ]
   refine wpAnyH_ready (rs := [2]) (by kernel_rfl) (by simp) ?_
   refine AllReadyH.cons rfl (fun K hK => ?_) AllReadyH.nil
   rw [if_pos (by rfl)]
   go_wp2_with fail
   refine hK.out _ _ (hHeld.later ((Below.refl _ _).alloc (Nat.le_refl _) _)) (fun hHeld1 => ?_)
   clear hK K
   try simp only [Act.put, List.setIfInBounds_toArray, List.set_cons_zero, List.set_cons_succ]
   refine wpAnyH_take (i := 3) (v := (.slice (some ⟨q.heap.size, 0, none⟩) 2 2)) rfl (by kernel_rfl) (by kernel_rfl) (by kernel_rfl) (fun _ _ _ h => h) (Or.inl ⟨by rfl, fun w h => by (simp only [List.getElem_toArray, List.getElem_cons_succ, List.getElem_cons_zero]; clear h; go_simp)⟩) (by assumption) ?_
   simp only [Act.put, List.getElem_toArray, List.getElem_cons_succ, List.getElem_cons_zero, List.setIfInBounds_toArray, List.set_cons_zero, List.set_cons_succ]
   refine wpAnyH_done (by kernel_rfl) ?_ _
   go_wp2
   go_ret
   exact ⟨_, rfl, ops_done [65, 75] [ga, 0] _ hHeld.1 (by rfl) rfl rfl (by decide) ⟨OdAt.ra hHeld.2.2.1, OdAt.k _ _, trivial⟩⟩
 by_cases h4 : op = 2 ∨ op = 23
 ·rcases h4 with rfl | rfl
  all_goals
   go_wp2_with fail
   go_ret
   exact ⟨_, rfl, ops_done [65, 66] [ga, gb] _ HS.out.1 (by rfl) rfl rfl (by decide) ⟨OdAt.ra HS.out.2.2.1, OdAt.rb HS.out.2.2.2.1, trivial⟩⟩
 by_cases h4 : op = 21 ∨ op = 22 ∨ op = 24
 ·rcases h4 with rfl | rfl | rfl
  all_goals
   go_wp2_with fail
   go_ret
   exact ⟨_, rfl, ops_done [65] [ga] _ HS.out.1 (by rfl) rfl rfl (by decide) ⟨OdAt.ra HS.out.2.2.1, trivial⟩⟩
 by_cases h4 : op = 25
 ·rcases h4 with rfl
  all_goals
   go_wp2_with fail
   go_ret
   exact ⟨_, rfl, ⟨[], rfl, World.ownsRow_nil _ _ _ _, fun i o g h => by simp [odG, odL] at h⟩, HS.out.1⟩
 by_cases h4 : op = 15
 ·rcases h4 with rfl
  all_goals
   go_wp2_with fail
   refine (HKM.out _).mono ?_
   rintro e q ⟨rfl, hb⟩
   have HH := Lib.hid (HS.out.later hb)
   clear HS la lb lc a0 a1 b0 b1 c0 c1
   go_wp2_with fail
   go_ret
   exact ⟨_, rfl, ops_done [75] [0] _ HH.out.1 (by rfl) rfl rfl (by decide) ⟨OdAt.k _ _, trivial⟩⟩
 by_cases h4 : op = 20
 ·rcases h4 with rfl
  all_goals
   go_wp2_with fail
   refine (HCM.out _).mono ?_
   rintro e q ⟨rfl, hb⟩
   have HH := Lib.hid (HS.out.later hb)
   clear HS la lb lc a0 a1 b0 b1 c0 c1
   go_wp2_with fail
   go_ret
   exact ⟨_, rfl, ops_done [67] [0] _ HH.out.1 (by rfl) rfl rfl (by decide) ⟨OdAt.c _ _, trivial⟩⟩
 by_cases h4 : op = 18
 ·rcases h4 with rfl
  all_goals
   go_wp2_with fail
   refine wp_region_held_drew (S := fun x => OpsS w x pa pb pc ga gb gc) (by kernel_rfl) HS.out.drew (fun hHeld => ?_)
   clear HS la lb lc a0 a1 b0 b1 c0 c1
   try simp only [Act.put, List.setIfInBounds_toArray, List.set_cons_zero, List.set_cons_succ]
   refine wpAnyH_take (i := 0) (v := (.agg (rgC ga))) rfl (by kernel_rfl) (by kernel_rfl) (by kernel_rfl) (fun _ _ _ h => h) (Or.inl ⟨by rfl, fun w h => by (simp only [List.getElem_toArray, List.getElem_cons_succ, List.getElem_cons_zero]; have h0 := (h.2.1.1).cell 0; have h1 := (h.2.1.1).cell 1; have h2 := (h.2.1.1).lt; simp at h0 h1; clear h; go_simp)⟩) (by assumption) ?_
   simp only [Act.put, List.getElem_toArray, List.getElem_cons_succ, List.getElem_cons_zero, List.setIfInBounds_toArray, List.set_cons_zero, List.set_cons_succ]
   refine wpAnyH_take (i := 1) (v := (.agg (rgC gb))) rfl (by kernel_rfl) (by kernel_rfl) (by kernel_rfl) (fun _ _ _ h => h) (Or.inl ⟨by rfl, fun w h => by (simp only [List.getElem_toArray, List.getElem_cons_succ, List.getElem_cons_zero]; have h0 := (h.2.1.2.1).cell 0; have h1 := (h.2.1.2.1).cell 1; have h2 := (h.2.1.2.1).lt; simp at h0 h1; clear h; go_simp)⟩) (by assumption) ?_
   simp only [Act.put, List.getElem_toArray, List.getElem_cons_succ, List.getElem_cons_zero, List.setIfInBounds_toArray, List.set_cons_zero, List.set_cons_succ]
   refine wpAnyH_ready (rs := [2]) (by kernel_rfl) (by simp) ?_
   refine AllReadyH.cons rfl (fun K hK => ?_) AllReadyH.nil
   rw [if_pos (by rfl)]
   go_wp2_with fail
   refine (HCM.out _).mono ?_
   rintro e q ⟨rfl,hb⟩
   dsimp only
   refine hK.out _ _ (hHeld.later hb) (fun hHeld1 => ?_)
   clear hK K hHeld
   have hHeld := hHeld1
   clear hHeld1
   try simp only [Act.put, List.setIfInBounds_toArray, List.set_cons_zero, List.set_cons_succ]
   clear hb
   refine wpAnyH_ready (rs := [3]) (by kernel_rfl) (by simp) ?_
   refine AllReadyH.cons rfl (fun K hK => ?_) AllReadyH.nil
   rw [if_pos (by rfl)]
   go_wp2_with fail
   refine (HDM.out _).mono ?_
   rintro e q ⟨gm,rfl,hm,hb⟩
   dsimp only
   refine hK.out _ _ (hHeld.later hb) (fun hHeld1 => ?_)
   clear hK K hHeld
   have hHeld := hHeld1
   clear hHeld1
   try simp only [Act.put, List.setIfInBounds_toArray, List.set_cons_zero, List.set_cons_succ]
   clear hb
   refine wpAnyH_ready (rs := [4]) (by kernel_rfl) (by simp) ?_
   refine AllReadyH.cons rfl (fun K hK => ?_) AllReadyH.nil
   rw [if_pos (by rfl)]
   go_wp2_with fail
   refine hK.out _ _ (hHeld.later ((Below.refl _ _).alloc (Nat.le_refl _) _)) (fun hHeld1 => ?_)
   clear hK K
   try simp only [Act.put, List.setIfInBounds_toArray, List.set_cons_zero, List.set_cons_succ]
   refine wpAnyH_take (i := 5) (v := (.slice (some ⟨q.heap.size, 0, none⟩) 4 4)) rfl (by kernel_rfl) (by kernel_rfl) (by kernel_rfl) (fun _ _ _ h => h) (Or.inl ⟨by rfl, fun w h => by (simp only [List.getElem_toArray, List.getElem_cons_succ, List.getElem_cons_zero]; clear h; go_simp)⟩) (by assumption) ?_
   simp only [Act.put, List.getElem_toArray, List.getElem_cons_succ, List.getElem_cons_zero, List.setIfInBounds_toArray, List.set_cons_zero, List.set_cons_succ]
   refine wpAnyH_done (by kernel_rfl) ?_ _
   go_wp2
   go_ret
   exact ⟨_, rfl, ops_done [65, 66, 67, 68] [ga, gb, 0, gm] _ hHeld.1 (by rfl) rfl rfl (by decide) ⟨OdAt.ra hHeld.2.2.1, OdAt.rb hHeld.2.2.2.1, OdAt.c _ _, OdAt.d hm, trivial⟩⟩
 by_cases h4 : op = 19
 ·rcases h4 with rfl
  all_goals
   go_wp2_with fail
   refine wp_region_held_drew (S := fun x => OpsS w x pa pb pc ga gb gc) (by kernel_rfl) HS.out.drew (fun hHeld => ?_)
   clear HS la lb lc a0 a1 b0 b1 c0 c1
   try simp only [Act.put, List.setIfInBounds_toArray, List.set_cons_zero, List.set_cons_succ]
   refine wpAnyH_take (i := 0) (v := (.agg (rgC ga))) rfl (by kernel_rfl) (by kernel_rfl) (by kernel_rfl) (fun _ _ _ h => h) (Or.inl ⟨by rfl, fun w h => by (simp only [List.getElem_toArray, List.getElem_cons_succ, List.getElem_cons_zero]; have h0 := (h.2.1.1).cell 0; have h1 := (h.2.1.1).cell 1; have h2 := (h.2.1.1).lt; simp at h0 h1; clear h; go_simp)⟩) (by assumption) ?_
   simp only [Act.put, List.getElem_toArray, List.getElem_cons_succ, List.getElem_cons_zero, List.setIfInBounds_toArray, List.set_cons_zero, List.set_cons_succ]
   refine wpAnyH_take (i := 1) (v := (.agg (rgC gb))) rfl (by kernel_rfl) (by kernel_rfl) (by kernel_rfl) (fun _ _ _ h => h) (Or.inl ⟨by rfl, fun w h => by (simp only [List.getElem_toArray, List.getElem_cons_succ, List.getElem_cons_zero]; have h0 := (h.2.1.2.1).cell 0; have h1 := (h.2.1.2.1).cell 1; have h2 := (h.2.1.2.1).lt; simp at h0 h1; clear h; go_simp)⟩) (by assumption) ?_
   simp only [Act.put, List.getElem_toArray, List.getElem_cons_succ, List.getElem_cons_zero, List.setIfInBounds_toArray, List.set_cons_zero, List.set_cons_succ]
   refine wpAnyH_ready (rs := [2]) (by kernel_rfl) (by simp) ?_
   refine AllReadyH.cons rfl (fun K hK => ?_) AllReadyH.nil
   rw [if_pos (by rfl)]
   go_wp2_with fail
   refine (HCM.out _).mono ?_
   rintro e q ⟨rfl,hb⟩
   dsimp only
   refine hK.out _ _ (hHeld.later hb) (fun hHeld1 => ?_)
   clear hK K hHeld
   have hHeld := hHeld1
   clear hHeld1
   try simp only [Act.put, List.setIfInBounds_toArray, List.set_cons_zero, List.set_cons_succ]
   clear hb
   refine wpAnyH_ready (rs := [3]) (by kernel_rfl) (by simp) ?_
   refine AllReadyH.cons rfl (fun K hK => ?_) AllReadyH.nil
   rw [if_pos (by rfl)]
   go_wp2_with fail
   refine (HDM.out _).mono ?_
   rintro e q ⟨gm,rfl,hm,hb⟩
   dsimp only
   refine hK.out _ _ (hHeld.later hb) (fun hHeld1 => ?_)
   clear hK K hHeld
   have hHeld := hHeld1
   clear hHeld1
   try simp only [Act.put, List.setIfInBounds_toArray, List.set_cons_zero, List.set_cons_succ]
   clear hb
   refine wpAnyH_ready (rs := [4]) (by kernel_rfl) (by simp) ?_
   refine AllReadyH.cons rfl (fun K hK => ?_) AllReadyH.nil
   rw [if_pos (by rfl)]
   go_wp2_with fail
   refine (HKM.out _).mono ?_
   rintro e q ⟨rfl,hb⟩
   dsimp only
   refine hK.out _ _ (hHeld.later hb) (fun hHeld1 => ?_)
   clear hK K hHeld
   have hHeld := hHeld1
   clear hHeld1
   try simp only [Act.put, List.setIfInBounds_toArray, List.set_cons_zero, List.set_cons_succ]
   have hm := hm.below hb hm.lt
   clear hb
   refine wpAnyH_ready (rs := [5]) (by kernel_rfl) (by simp) ?_
   refine AllReadyH.cons rfl (fun K hK => ?_) AllReadyH.nil
   rw [if_pos (by rfl)]
   go_wp2_with fail
   refine hK.out _ _ (hHeld.later ((Below.refl _ _).alloc (Nat.le_refl _) _)) (fun hHeld1 => ?_)
   clear hK K
   try simp only [Act.put, List.setIfInBounds_toArray, List.set_cons_zero, List.set_cons_succ]
   refine wpAnyH_take (i := 6) (v := (.slice (some ⟨q.heap.size, 0, none⟩) 5 5)) rfl (by kernel_rfl) (by kernel_rfl) (by kernel_rfl) (fun _ _ _ h => h) (Or.inl ⟨by rfl, fun w h => by (simp only [List.getElem_toArray, List.getElem_cons_succ, List.getElem_cons_zero]; clear h; go_simp)⟩) (by assumption) ?_
   simp only [Act.put, List.getElem_toArray, List.getElem_cons_succ, List.getElem_cons_zero, List.setIfInBounds_toArray, List.set_cons_zero, List.set_cons_succ]
   refine wpAnyH_done (by kernel_rfl) ?_ _
   go_wp2
   go_ret
   exact ⟨_, rfl, ops_done [65, 66, 67, 68, 75] [ga, gb, 0, gm, 0] _ hHeld.1 (by rfl) rfl rfl (by decide) ⟨OdAt.ra hHeld.2.2.1, OdAt.rb hHeld.2.2.2.1, OdAt.c _ _, OdAt.d hm, OdAt.k _ _, trivial⟩⟩
 rcases (show op = 0 ∨ op = 3 ∨ op = 4 ∨ op = 5 ∨ op = 6 ∨ op = 7 ∨ op = 8 ∨ op = 9 ∨ op = 10 ∨ op = 11 ∨ op = 12 ∨ op = 13 ∨ op = 14 by omega) with rfl | rfl | rfl | rfl | rfl | rfl | rfl | rfl | rfl | rfl | rfl | rfl | rfl
 all_goals
  go_wp2_with fail
  go_ret
  exact ⟨_, rfl, ops_done [65, 66, 82] [ga, gb, gc] _ HS.out.1 (by rfl) rfl rfl (by decide) ⟨OdAt.ra HS.out.2.2.1, OdAt.rb HS.out.2.2.2.1, OdAt.rc HS.out.2.2.2.2, trivial⟩⟩
noncomputable def riB (bs : List UInt8) : Bool := numB bs && decide (numV bs ≤ 9)
def InW (w w' : World) (g : Nat) (x : In) : Prop := Lies w' g 28 (inC x) ∧ Kept (oneRow g) w w'
theorem InW.of_below {w w' : World} {g : Nat} {x : In} (h : Lies w g 28 (inC x)) (hb : Below w.heap.size w w') : InW w w' g x :=
 ⟨h.below hb h.lt, (Kept.of_below hb).mono (fun _ _ h => h.elim)⟩
theorem InW.put {w w' : World} {g : Nat} {x x' : In} (h : InW w w' g x) (i : Nat) (u : Value) (hx : (inC x).setIfInBounds i u = inC x') : InW w (w'.setCell ⟨g, i, none⟩ u) g x' :=
 ⟨by rw [← hx]; exact h.1.put i u, h.2.trans (Kept.put w' g i u) (fun _ _ h => h)⟩
def setO (x : In) (o : Nat) (z : Int) : In := if o = 65 then { x with a := z } else if o = 66 then { x with b := z } else { x with c := z }
theorem set_fld (x : In) (o : Nat) (z : Int) : (inC x).setIfInBounds (fldN o) (.int .i64 z) = inC (setO x o z) := by
 unfold fldN setO
 split
 ·rfl
 ·split <;> rfl
noncomputable def riO (x : In) (o : Nat) (bs : List UInt8) : In := if riB bs = true then setO x o (numV bs : Int) else x
def RiPost (o g : Nat) (x : In) (bs : List UInt8) (w : World) (e : Ending) (w' : World) : Prop := e = .returned (.bool (riB bs)) ∧ InW w w' g (riO x o bs)
theorem riO_no {x : In} {o : Nat} {bs : List UInt8} (h : riB bs = false) : riO x o bs = x := by unfold riO; rw [h, if_neg (by decide)]
theorem riO_yes {x : In} {o : Nat} {bs : List UInt8} (h : riB bs = true) : riO x o bs = setO x o (numV bs : Int) := if_pos h
set_option maxHeartbeats 4000000 in
theorem readInt_any (o g : Nat) (x : In) (bs : List UInt8) (w : World) (hL : Lies w g 28 (inC x)) (hbs : bs.length ≤ 140737488355328) (hE : ErrAt w) (hp : PowAt w) :
  Calls Tryz.prog 73 #[.pointer (some ⟨g, fldN o, none⟩), .string (textB bs)] w (RiPost o g x bs w) := by
 have H := Lib.hid (decimal_any bs w hbs hE hp)
 have HL := Lib.hid hL
 clear hE hp hL
 go_enter Tryz.func73, Tryz.ntmps73
 go_wp2_with fail
 refine H.out.mono ?_
 rintro e w1 ⟨rfl, hb1⟩
 have HB1 := Lib.hid hb1
 clear hb1 H
 have HW := Lib.hid (InW.of_below HL.out HB1.out)
 obtain ⟨n, hn⟩ : ∃ n, n = numV bs := ⟨_, rfl⟩
 have HRI : Hid (riB bs = (numB bs && decide (n ≤ 9))) := by rw [hn]; rfl
 have HNV := Lib.hid hn
 rw [← hn]
 clear hn
 cases hnb : numB bs
 ·have HE : Hid (riB bs = false) := by show _ = _; rw [HRI.out, hnb]; rfl
  clear hnb
  go_wp2
  go_ret
  exact ⟨by rw [HE.out]; rfl, by rw [riO_no HE.out]; exact HW.out⟩
 ·by_cases h9 : n ≤ 9
  ·have HE : Hid (riB bs = true) := by show _ = _; rw [HRI.out, hnb, decide_eq_true h9]; rfl
   have g9 : decide ((n : Int) > 9) = false := decide_eq_false (by omega)
   have g8 : decide (9 < (n : Int)) = false := decide_eq_false (by omega)
   have hw : IntKind.i64.wrap (n : Int) = (n : Int) := by rw [IntKind.wrap_i64]; omega
   have gl := HW.out.1.lt
   have fr := HW.out.1.free (fldN o)
   obtain ⟨z, hz⟩ : ∃ z : Int, w1.cell? ⟨g, fldN o, none⟩ = some (.int .i64 z) := by
    refine ⟨fldZ x o, (HW.out.1.cell (fldN o)).trans ?_⟩
    unfold fldN fldZ
    split
    ·rfl
    ·split <;> rfl
   clear hnb h9
   generalize hF : fldN o = F at *
   have HF := Lib.hid hF
   clear hF
   go_wp2
   go_ret
   exact ⟨by rw [HE.out]; rfl, by rw [riO_yes HE.out, ← HNV.out, ← HF.out]; exact HW.out.put (fldN o) _ (set_fld x o _)⟩
  ·have HE : Hid (riB bs = false) := by show _ = _; rw [HRI.out, hnb, decide_eq_false h9]; rfl
   have g9 : decide ((n : Int) > 9) = true := decide_eq_true (by omega)
   have g8 : decide (9 < (n : Int)) = true := decide_eq_true (by omega)
   clear hnb h9
   go_wp2
   go_ret
   exact ⟨by rw [HE.out]; rfl, by rw [riO_no HE.out]; exact HW.out⟩
end Go.Proofs.YtcpgneimagmknaaGreatDoor
