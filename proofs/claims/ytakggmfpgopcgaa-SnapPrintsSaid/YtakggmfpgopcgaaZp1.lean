import Derived.WalkKit
import Derived.ProofKit
import Derived.Lib.Hide
import Derived.Lib.AppendStr
import Derived.Lib.SlBytesRow
import Derived.Laws.AppendOwnNone
import Derived.Deep.AppendLies
import Derived.Deep.Draws
import Derived.BigQuiet
import Derived.Deep.QuietTactic
import Derived.Deep.RegionWith
import Derived.OpenShut
import Derived.Outline
import Derived.Deep.Slices
import Derived.ChangeSame
import Derived.Laws.IdiomStrings
import Derived.SliceStrings
import Derived.Laws.DeepStrings4
import Derived.SizedLaws
import Derived.Laws.OwnMore
import Derived.Test.YtakggmfpgopcgaaRows
import Derived.Deep.DeepCutAuto
import Derived.Deep.OwnRows
import Derived.IntWalk
import Derived.Lib.BufferRead
import Derived.Laws.BitsAllLaws
import Derived.Laws.Bits64
import Derived.Laws.Bits64b
import Derived.Lib.SliceRun
import Derived.Deep.RegionHeld
import Derived.Great.BuildSlice
import Derived.Deep.MidRow
import Derived.Laws.StructEq
import Derived.StillTailTactics
import Derived.RegionTactic
import Derived.ChangeKeysEq
import Derived.ShutString
import Derived.ChangeOld
import Derived.Below
import Derived.Test.YtakggmfpgopcgaaZz8
namespace Go.Proofs.Ytakggmfpgopcgaa
open Go.RowKit
set_option linter.unusedVariables false
set_option linter.unusedSimpArgs false
def ArgRow (w : World) (a : Option Addr) (xs : List Value) : Prop := ∀ k v, xs[k]? = some v → ∃ b off, a = some ⟨b, off, none⟩ ∧ b < w.heap.size ∧ w.cell? ⟨b, off + k, none⟩ = some v
def ArgInts (k : IntKind) (w : World) (a : Option Addr) (len cap : Nat) (zs : List Int) : Prop := (a = none → len = 0 ∧ cap = 0) ∧ len ≤ cap ∧ cap ≤ maxLen ∧ zs.length = len ∧ ArgRow w a (zs.map (Value.int k)) ∧ ∀ n ∈ zs, (Lit.int k n).wf = true
theorem add_cell {x : Addr} {w : World} {k : Nat} {v v0 : Value} (h0 : w.cell? (x.add 0) = some v0) (h : w.cell? (x.add k) = some v) : ∃ b off, x = ⟨b, off, none⟩ ∧ b < w.heap.size ∧ w.cell? ⟨b, off + k, none⟩ = some v := by
 obtain ⟨b, off, spot⟩ := x
 have hl := World.block_lt_of_cell? w _ h0
 have hs := World.cell?_spot h0
 simp [Addr.add] at hl hs
 subst hs
 rw [addr_plus] at h
 exact ⟨b, off, rfl, hl, h⟩
section
variable {P : Program} {W : World} {H : Type} {enc : TypeId × Value → H}
theorem argInts_of {k : IntKind} {t e : TypeId} {a : Option Addr} {len cap : Nat} {d : DataW H} {p : List MemPlace} (ht : P.underlying t = some (.slice e)) (he : P.underlying e = some (.int k)) (hc : P.cellsOf e = 1)
  (h : DataW.Trod enc P W 0 (fun _ => true) true t (.slice a len cap) d p) : ∃ zs, ArgInts k W a len cap zs := by
 obtain ⟨fuel, hf⟩ := h
 rcases ChangeShapes.open_ints ht he hc hf with ⟨hcs, _⟩ | ⟨x, l, c, zs, hcs, _, hl, hm, hz, _, hcell, hwz⟩
 ·simp [Value.cells] at hcs
  obtain ⟨rfl, rfl, rfl⟩ := hcs
  exact ⟨[], fun _ => ⟨rfl, rfl⟩, by omega, by unfold maxLen; omega, rfl, fun k v hv => by simp at hv, fun n hn => by simp at hn⟩
 ·simp [Value.cells] at hcs
  obtain ⟨rfl, rfl, rfl⟩ := hcs
  simp at hz
  refine ⟨zs.take len, (fun h => by cases h), hl, hm, (by simp; omega), fun k v hv => ?_, fun n hn => hwz n (List.mem_of_mem_take hn)⟩
  rw [List.getElem?_map, List.getElem?_take] at hv
  split at hv
  ·obtain ⟨n, hn, rfl⟩ := Option.map_eq_some_iff.1 hv
   have := hcell k (by omega)
   rw [List.getD_eq_getElem?_getD, hn] at this
   obtain ⟨b, off, rfl, h1, h2⟩ := add_cell (hcell 0 (by omega)) this
   exact ⟨b, off, rfl, h1, h2⟩
  ·simp at hv
theorem argSlice_of {t e : TypeId} {a : Option Addr} {len cap sz : Nat} {d : DataW H} {p : List MemPlace} (ht : P.underlying t = some (.slice e)) (hc : P.cellsOf e = sz) (hsz : 0 < sz)
  (h : DataW.Trod enc P W 0 (fun _ => true) true t (.slice a len cap) d p) :
  len ≤ cap ∧ cap ≤ maxLen ∧ ∃ rows : Nat → List Value, ∀ i, i < len → (rows i).length = sz ∧ (∃ n y, DataW.trod enc P W 0 (fun _ => true) true n e (rows i) = some y) ∧
   ∃ b off, a = some ⟨b, off, none⟩ ∧ b < W.heap.size ∧ ∀ j, j < sz → W.cell? ⟨b, off + i * sz + j, none⟩ = (rows i)[j]? := by
 obtain ⟨fuel, hf⟩ := h
 rcases Deep.open_slice ht hf with ⟨hcs, _⟩ | ⟨x, l, c, m, n, D, Pl, hcs, _, hl, hm, hmm, _, hx⟩
 ·simp [Value.cells] at hcs
  obtain ⟨rfl, rfl, rfl⟩ := hcs
  exact ⟨by omega, by unfold maxLen; omega, fun _ => [], fun i hi => by omega⟩
 ·simp [Value.cells] at hcs
  obtain ⟨rfl, rfl, rfl⟩ := hcs
  simp at hmm
  subst hmm
  refine ⟨hl, hm, ?_⟩
  obtain ⟨rows, hr⟩ := Deep.choose_lt (α := List Value) (n := len) (p := fun i cs => W.cells? 0 (x.add (i * P.cellsOf e)) (P.cellsOf e) = some cs ∧ DataW.trod enc P W 0 (fun _ => true) true n e cs = some (D i, Pl i)) (fun i hi => hx i (by omega))
  refine ⟨rows, fun i hi => ?_⟩
  obtain ⟨h1, h2⟩ := hr i hi
  obtain ⟨h01, _⟩ := hr 0 (by omega)
  rw [hc] at h1 h01
  obtain ⟨_, g2, g3⟩ := World.cells?_some h1
  obtain ⟨_, g02, g03⟩ := World.cells?_some h01
  have z := g03 0 hsz
  rw [List.getElem?_eq_getElem (by omega), Nat.zero_mul] at z
  obtain ⟨b, off, spot⟩ := x
  have hlt := World.block_lt_of_cell? W _ z
  have hs := World.cell?_spot z
  simp [Addr.add] at hlt hs
  subst hs
  refine ⟨g2, ⟨n, _, h2⟩, b, off, rfl, hlt, fun j hj => ?_⟩
  have := g3 j hj
  rwa [addr_plus, addr_plus] at this
end
theorem SeqAt.later_ {w w' : World} {v : Value} {xs : List Value} (h : SeqAt w v xs) (hb : Below w.heap.size w w') : SeqAt w' v xs := by
 obtain ⟨A, c, e, h1, h2, h3⟩ := h
 refine ⟨A, c, e, h1, h2, fun k u hu => ?_⟩
 obtain ⟨b, off, e2, hc⟩ := h3 k u hu
 exact ⟨b, off, e2, cell_later hc hb⟩
theorem flat_length {rows : Nat → List Value} {sz : Nat} : ∀ n, (∀ i, i < n → (rows i).length = sz) → ((List.range n).flatMap rows).length = n * sz
 | 0, _ => by simp
 | n + 1, h => by
  rw [List.range_succ, List.flatMap_append, List.length_append, flat_length n (fun i hi => h i (by omega))]
  simp [h n (by omega), Nat.add_mul]
theorem flat_get {rows : Nat → List Value} {sz : Nat} : ∀ n, (∀ i, i < n → (rows i).length = sz) → ∀ i j, i < n → j < sz → ((List.range n).flatMap rows)[i * sz + j]? = (rows i)[j]?
 | 0, _, i, j, hi, _ => by omega
 | n + 1, h, i, j, hi, hj => by
  have hl := flat_length n (fun i hi => h i (by omega))
  rw [List.range_succ, List.flatMap_append]
  by_cases e : i = n
  ·subst e
   rw [List.getElem?_append_right (by omega), hl, Nat.add_sub_cancel_left]
   simp
  ·have hm : i * sz + sz ≤ n * sz := by
    have := Nat.mul_le_mul_right sz (show i + 1 ≤ n by omega)
    rw [Nat.add_mul] at this; omega
   rw [List.getElem?_append_left (by omega)]
   exact flat_get n (fun i hi => h i (by omega)) i j (by omega) hj
section
variable {P : Program} {W : World} {H : Type} {enc : TypeId × Value → H}
theorem argRows {t e : TypeId} {a : Option Addr} {len cap sz : Nat} {d : DataW H} {p : List MemPlace} (ht : P.underlying t = some (.slice e)) (hc : P.cellsOf e = sz) (hsz : 0 < sz)
  (h : DataW.Trod enc P W 0 (fun _ => true) true t (.slice a len cap) d p) :
  (a = none → len = 0 ∧ cap = 0) ∧ ∃ rows : Nat → List Value, (∀ i, i < len → (rows i).length = sz ∧ ∃ n y, DataW.trod enc P W 0 (fun _ => true) true n e (rows i) = some y) ∧ SeqS W sz (.slice a len cap) len ((List.range len).flatMap rows) := by
 have hn : a = none → len = 0 ∧ cap = 0 := by
  obtain ⟨fuel, hf⟩ := h
  rcases Deep.open_slice ht hf with ⟨hcs, _⟩ | ⟨x, l, c, m, n, D, Pl, hcs, _⟩
  ·simp [Value.cells] at hcs
   exact fun _ => hcs.2
  ·simp [Value.cells] at hcs
   intro ha; rw [ha] at hcs; exact absurd hcs.1 (by simp)
 obtain ⟨h1, h2, rows, hr⟩ := argSlice_of ht hc hsz h
 refine ⟨hn, rows, fun i hi => ⟨(hr i hi).1, (hr i hi).2.1⟩, ?_⟩
 have hl := flat_length (rows := rows) (sz := sz) len (fun i hi => (hr i hi).1)
 refine ⟨hl, a, cap, rfl, h1, h2, fun ha => (hn ha).2, fun k u hu => ?_⟩
 have hk : k < len * sz := by rw [← hl]; exact (List.getElem?_eq_some_iff.1 hu).1
 have hi : k / sz < len := (Nat.div_lt_iff_lt_mul hsz).2 hk
 have hj : k % sz < sz := Nat.mod_lt _ hsz
 have hkk : k / sz * sz + k % sz = k := by rw [Nat.mul_comm]; exact Nat.div_add_mod k sz
 have hg := flat_get (rows := rows) (sz := sz) len (fun i hi => (hr i hi).1) (k / sz) (k % sz) hi hj
 rw [hkk, hu] at hg
 obtain ⟨_, _, b, off, ea, _, hc⟩ := hr (k / sz) hi
 refine ⟨b, off, ea, ?_⟩
 have := hc (k % sz) hj
 rw [Nat.add_assoc, hkk] at this
 rw [this, ← hg]
end
theorem flatMap_congr_range {α : Type} {f g : Nat → List α} : ∀ n, (∀ i, i < n → f i = g i) → (List.range n).flatMap f = (List.range n).flatMap g
 | 0, _ => rfl
 | n + 1, h => by
  rw [List.range_succ, List.flatMap_append, List.flatMap_append, flatMap_congr_range n (fun i hi => h i (by omega))]
  simp [h n (by omega)]
section
variable {α : Type} {f : α → List Value} {sz : Nat}
theorem SeqS.len_ {w : World} {v : Value} {n : Nat} {l : List α} (hf : ∀ x, (f x).length = sz) (hs : 0 < sz) (h : SeqS w sz v n (rowsOf f l)) : l.length = n := by
 have h1 := h.1
 rw [rowsOf_length hf] at h1
 exact Nat.eq_of_mul_eq_mul_right hs h1
theorem range_rows (g : Nat → α) (n : Nat) : (List.range n).flatMap (fun i => f (g i)) = rowsOf f ((List.range n).map g) := by unfold rowsOf; rw [List.flatMap_map]
end
section
variable {P : Program} {W : World} {H : Type} {enc : TypeId × Value → H}
def IntField (P : Program) (k : IntKind) (i : Nat) (f : Field) : Prop := P.underlying f.type = some (.int k) ∧ f.offset = i ∧ P.cellsOf f.type = 1
theorem int_field {e : TypeId} {fs : Array Field} {n : Nat} {cs : List Value} {y : DataW H × List MemPlace} (he : P.underlying e = some (.struct fs)) (h : DataW.trod enc P W 0 (fun _ => true) true n e cs = some y)
  {i : Nat} {f : Field} {k : IntKind} (hf : fs[i]? = some f) (hk : IntField P k i f) : ∃ z, cs[i]? = some (.int k z) ∧ (Lit.int k z).wf = true := by
 obtain ⟨xs, m, _, _, hl, hn, hx⟩ := DataW.trod_struct he h
 obtain ⟨k1, k2, k3⟩ := hk
 have := hx i f hf
 rw [k2, k3] at this
 have hi : i < xs.length := by rw [hn]; exact (Array.getElem?_eq_some_iff.1 hf).1
 rw [List.getElem?_eq_getElem hi] at this
 obtain ⟨z, e1, _, e2⟩ := DataW.trod_int k1 this
 refine ⟨z, ?_, e2⟩
 have e3 : ((cs.drop i).take 1)[0]? = some (.int k z) := by rw [e1]; rfl
 rw [List.getElem?_take, if_pos (by decide), List.getElem?_drop] at e3
 exact e3
def ArgOf {α : Type} (f : α → List Value) (sz : Nat) (ok : α → Prop) (w : World) (a : Option Addr) (len cap : Nat) (l : List α) : Prop :=
 (a = none → len = 0 ∧ cap = 0) ∧ l.length = len ∧ SeqS w sz (.slice a len cap) len (rowsOf f l) ∧ ∀ x ∈ l, ok x
theorem argOf {α : Type} [Inhabited α] {f : α → List Value} {sz : Nat} {ok : α → Prop} {t e : TypeId} {a : Option Addr} {len cap : Nat} {d : DataW H} {p : List MemPlace} (ht : P.underlying t = some (.slice e)) (hc : P.cellsOf e = sz) (hsz : 0 < sz)
  (hopen : ∀ n cs y, cs.length = sz → DataW.trod enc P W 0 (fun _ => true) true n e cs = some y → ∃ x, cs = f x ∧ ok x)
  (h : DataW.Trod enc P W 0 (fun _ => true) true t (.slice a len cap) d p) : ∃ l, ArgOf f sz ok W a len cap l := by
 obtain ⟨h1, rows, h2, h3⟩ := argRows (sz := sz) ht hc hsz h
 obtain ⟨z, hz⟩ := Deep.choose_lt (α := α) (n := len) (p := fun i q => rows i = f q ∧ ok q) (fun i hi => by
  obtain ⟨g1, n, y, g2⟩ := h2 i hi
  exact hopen n _ y g1 g2)
 have he : (List.range len).flatMap rows = rowsOf f ((List.range len).map z) := by
  rw [← range_rows]
  exact flatMap_congr_range len (fun i hi => (hz i hi).1)
 rw [he] at h3
 refine ⟨(List.range len).map z, h1, by simp, h3, fun q hq => ?_⟩
 obtain ⟨i, hi, rfl⟩ := List.mem_map.1 hq
 exact (hz i (List.mem_range.1 hi)).2
end
section
variable {P : Program} {W : World} {H : Type} {enc : TypeId × Value → H}
theorem trod_slice22 {t e : TypeId} {n : Nat} {cs : List Value} {y : DataW H × List MemPlace} (ht : P.underlying t = some (.slice e)) (h : DataW.trod enc P W 0 (fun _ => true) true n t cs = some y) :
  ∃ A len cap, cs = [.slice A len cap] ∧ DataW.Trod enc P W 0 (fun _ => true) true t (.slice A len cap) y.1 y.2 := by
 rcases Deep.open_slice ht h with ⟨hcs, _⟩ | ⟨a, len, cap, m, n, D, Pl, hcs, _⟩
 ·subst hcs; exact ⟨none, 0, 0, rfl, n, h⟩
 ·subst hcs; exact ⟨some a, len, cap, rfl, _, h⟩
theorem ints22 {e a el : TypeId} {fs : Array Field} {n N : Nat} {cs : List Value} {y : DataW H × List MemPlace} (he : P.underlying e = some (.struct fs)) (h : DataW.trod enc P W 0 (fun _ => true) true n e cs = some y)
  {i : Nat} {f : Field} {k : IntKind} (hf : fs[i]? = some f) (ht : P.underlying f.type = some (.array N el)) (hu : P.underlying el = some (.int k)) (hc : P.cellsOf el = 1) (hcN : P.cellsOf f.type = N) :
  ∀ j, j < N → ∃ z, cs[f.offset + j]? = some (.int k z) ∧ (Lit.int k z).wf = true := by
 intro j hj
 obtain ⟨xs, m, _, _, hl, hn, hx⟩ := DataW.trod_struct he h
 have h1 := hx i f hf
 have hi : i < xs.length := by rw [hn]; exact (Array.getElem?_eq_some_iff.1 hf).1
 rw [List.getElem?_eq_getElem hi] at h1
 obtain ⟨ys, m2, _, _, hl2, hn2, hx2⟩ := DataW.trod_array ht h1
 have h2 := hx2 j hj
 rw [hc, Nat.mul_one, List.getElem?_eq_getElem (by omega)] at h2
 obtain ⟨z, e1, _, e2⟩ := DataW.trod_int hu h2
 refine ⟨z, ?_, e2⟩
 have e3 : ((((cs.drop f.offset).take (P.cellsOf f.type)).drop j).take 1)[0]? = some (.int k z) := by rw [e1]; rfl
 rw [List.getElem?_take, if_pos (by decide), List.getElem?_drop, List.getElem?_take, hcN, if_pos (by omega), List.getElem?_drop, Nat.add_zero] at e3
 exact e3
theorem list14x {l : List Value} (h : l.length = 14) : ∃ a b c d e f g i j k m n o p, l = [a, b, c, d, e, f, g, i, j, k, m, n, o, p] := by
 match l, h with
 | [a, b, c, d, e, f, g, i, j, k, m, n, o, p], _ => exact ⟨a, b, c, d, e, f, g, i, j, k, m, n, o, p, rfl⟩
theorem list3x {l : List Value} (h : l.length = 3) : ∃ a b c, l = [a, b, c] := by
 match l, h with
 | [a, b, c], _ => exact ⟨a, b, c, rfl⟩
theorem list4x {l : List Value} (h : l.length = 4) : ∃ a b c d, l = [a, b, c, d] := by
 match l, h with
 | [a, b, c, d], _ => exact ⟨a, b, c, d, rfl⟩
theorem list5x {l : List Value} (h : l.length = 5) : ∃ a b c d e, l = [a, b, c, d, e] := by
 match l, h with
 | [a, b, c, d, e], _ => exact ⟨a, b, c, d, e, rfl⟩
theorem seq22 {w : World} {a : Option Addr} {len cap : Nat} {zs : List Int} (h : ArgInts .u64 w a len cap zs) : ∃ l : List Nat, l.length = len ∧ SeqS w 1 (.slice a len cap) len (cells64 l) ∧ ∀ n ∈ l, n ≤ 18446744073709551615 := by
 obtain ⟨h1, h2, h3, h4, h5, h6⟩ := h
 refine ⟨zs.map Int.toNat, by simpa using h4, ⟨by simp [cells64]; omega, a, cap, rfl, h2, h3, fun e => (h1 e).2, ?_⟩, ?_⟩
 ·intro k v hv
  have hv2 : (zs.map (Value.int .u64))[k]? = some v := by
   unfold cells64 at hv
   rw [List.getElem?_map, List.getElem?_map] at hv
   rw [List.getElem?_map]
   cases hz : zs[k]? with
   | none => rw [hz] at hv; cases hv
   | some z =>
    rw [hz] at hv
    have hb := Go.bounds_u64 (h6 z (List.mem_of_getElem? hz))
    simp only [Option.map_some, Option.some.injEq] at hv ⊢
    rw [← hv]
    congr 1
    omega
  obtain ⟨b, off, e1, _, e2⟩ := h5 k v hv2
  exact ⟨b, off, e1, e2⟩
 ·intro n hn
  obtain ⟨z, hz, rfl⟩ := List.mem_map.1 hn
  have hb := Go.bounds_u64 (h6 z hz)
  omega
end
section
variable {W : World} {H : Type} {enc : TypeId × Value → H}
theorem nums_open {a : Option Addr} {len cap : Nat} {d : DataW H} {p : List MemPlace} (h : DataW.Trod enc Try.prog W 0 (fun _ => true) true 38 (.slice a len cap) d p) : ∃ l : List Nat, l.length = len ∧ SeqS W 1 (.slice a len cap) len (cells64 l) ∧ ∀ n ∈ l, n ≤ 18446744073709551615 := by
 obtain ⟨zs, hzs⟩ := argInts_of (k := .u64) Try.underlying38 Try.underlying24 (by kernel_rfl) h
 exact seq22 hzs
def thQ (W : World) (q : Th × Value) : Prop := thOk q.1 ∧ SeqS W 1 q.2 q.1.sn.length (cells64 q.1.sn)
def rgQ (W : World) (q : Rs × Value × Value) : Prop := rsB q.1 ∧ SeqS W 1 q.2.1 q.1.hs.length (cells64 q.1.hs) ∧ SeqS W 3 q.2.2 q.1.sl.length (rowsOf slF q.1.sl)
set_option maxRecDepth 100000 in
set_option maxHeartbeats 2000000 in
theorem th_open22 {n : Nat} {cs : List Value} {y : DataW H × List MemPlace} (hl : cs.length = 14) (h : DataW.trod enc Try.prog W 0 (fun _ => true) true n 40 cs = some y) : ∃ q : Th × Value, cs = thP q ∧ thQ W q := by
 obtain ⟨z0, g0, b0⟩ := int_field (i := 0) (k := .i64) Try.underlying40 h rfl ⟨Try.underlying3, rfl, by kernel_rfl⟩
 obtain ⟨z1, g1, b1⟩ := int_field (i := 1) (k := .i64) Try.underlying40 h rfl ⟨Try.underlying3, rfl, by kernel_rfl⟩
 obtain ⟨z2, g2, b2⟩ := int_field (i := 2) (k := .i64) Try.underlying40 h rfl ⟨Try.underlying3, rfl, by kernel_rfl⟩
 obtain ⟨z3, g3, b3⟩ := int_field (i := 3) (k := .i64) Try.underlying40 h rfl ⟨Try.underlying3, rfl, by kernel_rfl⟩
 obtain ⟨z4, g4, b4⟩ := int_field (i := 4) (k := .u64) Try.underlying40 h rfl ⟨Try.underlying24, rfl, by kernel_rfl⟩
 have hreg := ints22 (a := 0) (i := 5) (k := .u64) Try.underlying40 h rfl Try.underlying37 Try.underlying24 (by kernel_rfl) (by kernel_rfl)
 obtain ⟨q0, r0, s0⟩ := hreg 0 (by decide)
 obtain ⟨q1, r1, s1⟩ := hreg 1 (by decide)
 obtain ⟨q2, r2, s2⟩ := hreg 2 (by decide)
 obtain ⟨q3, r3, s3⟩ := hreg 3 (by decide)
 obtain ⟨q4, r4, s4⟩ := hreg 4 (by decide)
 obtain ⟨q5, r5, s5⟩ := hreg 5 (by decide)
 obtain ⟨q6, r6, s6⟩ := hreg 6 (by decide)
 obtain ⟨q7, r7, s7⟩ := hreg 7 (by decide)
 obtain ⟨xs, m, _, _, hlx, hn, hx⟩ := DataW.trod_struct Try.underlying40 h
 have h6 := hx 6 _ rfl
 have hx7 : xs.length = 7 := by rw [hn]; kernel_rfl
 rw [List.getElem?_eq_getElem (by omega)] at h6
 obtain ⟨A, n1, c, e1, t1⟩ := trod_slice22 Try.underlying38 h6
 obtain ⟨l, hll, hls, hlb⟩ := nums_open t1
 have b4 := Go.bounds_u64 b4
 have s0 := Go.bounds_u64 s0
 have s1 := Go.bounds_u64 s1
 have s2 := Go.bounds_u64 s2
 have s3 := Go.bounds_u64 s3
 have s4 := Go.bounds_u64 s4
 have s5 := Go.bounds_u64 s5
 have s6 := Go.bounds_u64 s6
 have s7 := Go.bounds_u64 s7
 obtain ⟨y0, y1, y2, y3, y4, y5, y6, y7, y8, y9, y10, y11, y12, y13, hy⟩ := list14x hl
 have E6 : [y13] = [Value.slice A n1 c] := by
  have e2 := e1
  rw [hy] at e2
  exact e2
 rw [hy] at g0 g1 g2 g3 g4 r0 r1 r2 r3 r4 r5 r6 r7
 replace r0 : some y5 = _ := r0
 replace r1 : some y6 = _ := r1
 replace r2 : some y7 = _ := r2
 replace r3 : some y8 = _ := r3
 replace r4 : some y9 = _ := r4
 replace r5 : some y10 = _ := r5
 replace r6 : some y11 = _ := r6
 replace r7 : some y12 = _ := r7
 simp only [List.getElem?_cons_zero, List.getElem?_cons_succ, Option.some.injEq] at g0 g1 g2 g3 g4 r0 r1 r2 r3 r4 r5 r6 r7
 simp only [List.cons.injEq, and_true] at E6
 subst g0 g1 g2 g3 g4 r0 r1 r2 r3 r4 r5 r6 r7 E6 hll
 refine ⟨(⟨z0, z1, z2, z3, z4.toNat, fun j => if j = 0 then q0.toNat else if j = 1 then q1.toNat else if j = 2 then q2.toNat else if j = 3 then q3.toNat else if j = 4 then q4.toNat else if j = 5 then q5.toNat else if j = 6 then q6.toNat else if j = 7 then q7.toNat else 0, l⟩, .slice A l.length c), ?_, ⟨Go.bounds_i64 b0, Go.bounds_i64 b1, Go.bounds_i64 b2, Go.bounds_i64 b3, ?_, ?_, hlb⟩, hls⟩
 ·rw [hy]
  simp [thP, thC]
  omega
 ·simp only; omega
 ·intro j
  simp only
  repeat' split
  all_goals omega
set_option maxRecDepth 100000 in
theorem sl_open22 {n : Nat} {cs : List Value} {y : DataW H × List MemPlace} (hl : cs.length = 3) (h : DataW.trod enc Try.prog W 0 (fun _ => true) true n 64 cs = some y) : ∃ x : Sl, cs = slF x ∧ slB x := by
 obtain ⟨z0, g0, b0⟩ := int_field (i := 0) (k := .u64) Try.underlying64 h rfl ⟨Try.underlying24, rfl, by kernel_rfl⟩
 obtain ⟨z1, g1, b1⟩ := int_field (i := 1) (k := .u64) Try.underlying64 h rfl ⟨Try.underlying24, rfl, by kernel_rfl⟩
 obtain ⟨z2, g2, b2⟩ := int_field (i := 2) (k := .i64) Try.underlying64 h rfl ⟨Try.underlying3, rfl, by kernel_rfl⟩
 have b0 := Go.bounds_u64 b0
 have b1 := Go.bounds_u64 b1
 have b2 := Go.bounds_i64 b2
 obtain ⟨x0, x1, x2, rfl⟩ := list3x hl
 simp at g0 g1 g2
 subst g0 g1 g2
 refine ⟨⟨z0.toNat, z1.toNat, z2⟩, ?_, ?_⟩
 ·unfold slF; simp only
  rw [show ((z0.toNat : Nat) : Int) = z0 by omega, show ((z1.toNat : Nat) : Int) = z1 by omega]
 ·unfold slB M64; simp only; omega
set_option maxRecDepth 100000 in
theorem rg_open22 {n : Nat} {cs : List Value} {y : DataW H × List MemPlace} (hl : cs.length = 4) (h : DataW.trod enc Try.prog W 0 (fun _ => true) true n 54 cs = some y) : ∃ q : Rs × Value × Value, cs = rgP q ∧ rgQ W q := by
 obtain ⟨z0, g0, b0⟩ := int_field (i := 0) (k := .u64) Try.underlying54 h rfl ⟨Try.underlying24, rfl, by kernel_rfl⟩
 obtain ⟨xs, m, _, _, hlx, hn, hx⟩ := DataW.trod_struct Try.underlying54 h
 have hx4 : xs.length = 4 := by rw [hn]; kernel_rfl
 have h1 := hx 1 _ rfl
 have h2 := hx 2 _ rfl
 have h3 := hx 3 _ rfl
 rw [List.getElem?_eq_getElem (by omega)] at h1 h2 h3
 obtain ⟨A, n1, c, e1, t1⟩ := trod_slice22 Try.underlying38 h1
 obtain ⟨bb, e2, _⟩ := DataW.trod_bool Try.underlying4 h2
 obtain ⟨B, n2, d, e3, t3⟩ := trod_slice22 Try.underlying52 h3
 obtain ⟨l, hll, hls, hlb⟩ := nums_open t1
 obtain ⟨L, _, hL1, hL2, hL3⟩ := argOf (f := slF) (sz := 3) (ok := slB) Try.underlying52 (by kernel_rfl) (by omega) (fun n cs y hl h => sl_open22 hl h) t3
 have b0 := Go.bounds_u64 b0
 obtain ⟨y0, y1, y2, y3, rfl⟩ := list4x hl
 have E1 : [y1] = [Value.slice A n1 c] := e1
 have E2 : [y2] = [Value.bool bb] := e2
 have E3 : [y3] = [Value.slice B n2 d] := e3
 simp only [List.getElem?_cons_zero, Option.some.injEq] at g0
 simp only [List.cons.injEq, and_true] at E1 E2 E3
 subst g0 E1 E2 E3 hll hL1
 refine ⟨(⟨z0.toNat, l, bb, L⟩, .slice A l.length c, .slice B L.length d), ?_, ⟨?_, fun n hn => ?_, hL3⟩, hls, hL2⟩
 ·simp only [rgP]; rw [show ((z0.toNat : Nat) : Int) = z0 by omega]
 ·unfold M64; simp only; omega
 ·have := hlb n hn; unfold M64; omega
structure Sb where
 A : Option Addr
 c : Nat
 B : Option Addr
 d : Nat
 S : Sta
def SbAt (W : World) (z : Sb) : Prop := ThsR W (.slice z.A z.S.th.length z.c) z.S.th ∧ RgsR W (.slice z.B z.S.rg.length z.d) z.S.rg ∧ StOk z.S
set_option maxRecDepth 100000 in
theorem opened26 {base : Nat} {v : Value} {d : DataW H} {p : List MemPlace}
  (hok : Value.okWide Try.prog W .any base 26 v) (h : DataW.Trod enc Try.prog W 0 (fun _ => true) true 26 v d p) :
  ∃ z : Sb, v = .agg (stC (.slice z.A z.S.th.length z.c) (.slice z.B z.S.rg.length z.d) z.S.now z.S.rds z.S.en) ∧ SbAt W z := by
 obtain ⟨cs, rfl, hl⟩ := WideShapes.okWide_struct Try.underlying26 hok
 obtain ⟨n, h⟩ := h
 have h : DataW.trod enc Try.prog W 0 (fun _ => true) true n 26 cs.toList = some (d, p) := h
 obtain ⟨z2, g2, b2⟩ := int_field (i := 2) (k := .u64) Try.underlying26 h rfl ⟨Try.underlying24, rfl, by kernel_rfl⟩
 obtain ⟨z3, g3, b3⟩ := int_field (i := 3) (k := .u64) Try.underlying26 h rfl ⟨Try.underlying24, rfl, by kernel_rfl⟩
 obtain ⟨xs, m, _, _, hlx, hn, hx⟩ := DataW.trod_struct Try.underlying26 h
 have hx5 : xs.length = 5 := by rw [hn]; kernel_rfl
 have h0 := hx 0 _ rfl
 have h1 := hx 1 _ rfl
 have h4 := hx 4 _ rfl
 rw [List.getElem?_eq_getElem (by omega)] at h0 h1 h4
 obtain ⟨A, n1, c, e0, t0⟩ := trod_slice22 Try.underlying22 h0
 obtain ⟨B, n2, dd, e1, t1⟩ := trod_slice22 Try.underlying23 h1
 obtain ⟨bb, e4, _⟩ := DataW.trod_bool Try.underlying4 h4
 obtain ⟨ts, _, a1, a2, a3⟩ := argOf (f := thP) (sz := 14) (ok := thQ W) Try.underlying22 (by kernel_rfl) (by omega) (fun n cs y hl h => th_open22 hl h) t0
 obtain ⟨rs, _, r1, r2, r3⟩ := argOf (f := rgP) (sz := 4) (ok := rgQ W) Try.underlying23 (by kernel_rfl) (by omega) (fun n cs y hl h => rg_open22 hl h) t1
 have b2 := Go.bounds_u64 b2
 have b3 := Go.bounds_u64 b3
 have hl5 : cs.toList.length = 5 := by rw [Array.length_toList, hl]; kernel_rfl
 obtain ⟨y0, y1, y2, y3, y4, hy⟩ := list5x hl5
 have hcs : cs = #[y0, y1, y2, y3, y4] := Array.toList_inj.1 hy
 subst hcs
 have E0 : [y0] = [Value.slice A n1 c] := e0
 have E1 : [y1] = [Value.slice B n2 dd] := e1
 have E4 : [y4] = [Value.bool bb] := e4
 simp at g2 g3
 simp only [List.cons.injEq, and_true] at E0 E1 E4
 subst g2 g3 E0 E1 E4 a1 r1
 refine ⟨⟨A, c, B, dd, ⟨ts.map (·.1), rs.map (·.1), z2.toNat, z3.toNat, bb⟩⟩, ?_, ⟨ts, rfl, ?_, fun q hq => (a3 q hq).2⟩, ⟨rs, rfl, ?_, fun q hq => (r3 q hq).2⟩, ⟨fun x hx => ?_, fun x hx => ?_, ?_, ?_⟩⟩
 ·have e2 : ((z2.toNat : Nat) : Int) = z2 := by omega
  have e3 : ((z3.toNat : Nat) : Int) = z3 := by omega
  simp only [List.length_map, stC, e2, e3]
 ·simp only [List.length_map]; exact a2
 ·simp only [List.length_map]; exact r2
 ·obtain ⟨q, hq, rfl⟩ := List.mem_map.1 hx; exact (a3 q hq).1
 ·obtain ⟨q, hq, rfl⟩ := List.mem_map.1 hx; exact (r3 q hq).1
 ·unfold M64; simp only; omega
 ·unfold M64; simp only; omega
end
instance : DecidableEq Sl := fun a b => if h : a.s = b.s ∧ a.v = b.v ∧ a.l = b.l then isTrue (by cases a; cases b; simp_all) else isFalse (fun e => h (by rw [e]; simp))
theorem slotHeld : Try.prog.stoodInHeld 64 = false := by kernel_rfl
theorem slotGuard : Try.prog.eqGuardType Try.prog.depth 64 = false := by kernel_rfl
theorem slotNeq (x y : Sl) (w : World) : (binOp .neq 64 (.agg #[.int .u64 (x.s : Int), .int .u64 (x.v : Int), .int .i64 x.l]) (.agg #[.int .u64 (y.s : Int), .int .u64 (y.v : Int), .int .i64 y.l])).run Try.prog w = .ok (.bool (!(decide (x = y)))) w := by
 have h1 := slotHeld
 rw [run_neq_struct, run_equalIn_agg w 9999 _ _ _ (by simp only [Program.fieldsOf, Try.underlying64]) h1]
 simp only [Program.fieldsOf, Try.underlying64]
 obtain ⟨a, b, c⟩ := x
 obtain ⟨a', b', c'⟩ := y
 simp [go_sem]
 by_cases e1 : a = a'
 ·by_cases e2 : b = b'
  ·by_cases e3 : c = c' <;> simp [e1, e2, e3]
  ·simp [e1, e2]; try omega
 ·simp [e1]; try omega
set_option maxHeartbeats 1000000 in
set_option maxRecDepth 100000 in
theorem ref12Same (v1 v2 : Value) (L M : List Sl) (n1 n2 : Nat) (w : World) (h1 : SeqS w 3 v1 n1 (rowsOf slF L)) (h2 : SeqS w 3 v2 n2 (rowsOf slF M)) :
  Calls Try.prog 56 #[v1, v2] w fun e w' => e = .returned (.bool (decide (L = M))) ∧ ∃ n, w' = w.drewN n := by
 have hl1 := h1.len_ slF_length (by decide)
 have hl2 := h2.len_ slF_length (by decide)
 obtain ⟨A1, c1, rfl, q1, q2, _⟩ := h1.form
 obtain ⟨A2, c2, rfl, q3, q4, _⟩ := h2.form
 subst hl1 hl2
 unfold maxLen at q2 q4
 by_cases hne : L.length = M.length
 ·have e0 : (L.length == M.length) = true := by rw [beq_iff_eq]; exact hne
  have H1 := Lib.hid h1
  have H2 := Lib.hid h2
  have hnei : (L.length : Int) = (M.length : Int) := by omega
  clear h1 h2
  go_enter Try.func56, Try.ntmps56
  go_wp2
  go_loopw [5] (fun u wr => ∃ k : Nat, k ≤ L.length ∧ u = .int .i64 k ∧ L.take k = M.take k ∧ ∃ n, wr = w.drewN n) (fun u _ => L.length - (intOf u).toNat)
  case atStart => exact ⟨0, by omega, rfl, rfl, 0, rfl⟩
  case round =>
   obtain ⟨k, hk, rfl, htk, nd, rfl⟩ := hrel
   by_cases hlt : k < L.length
   ·have hd : decide (k < L.length) = true := by simpa using hlt
    have hd2 : (k : Int) < (M.length : Int) := by omega
    have hd3 : (k : Int) < (L.length : Int) := by omega
    obtain ⟨x, hx⟩ : ∃ x, L[k]? = some x := ⟨_, List.getElem?_eq_getElem hlt⟩
    obtain ⟨y, hy⟩ : ∃ y, M[k]? = some y := ⟨_, List.getElem?_eq_getElem (by omega)⟩
    obtain ⟨b1, o1, rfl, _, g1⟩ := SeqS.at_ slF_length (by decide) H1.out hx
    obtain ⟨b2, o2, rfl, _, g2⟩ := SeqS.at_ slF_length (by decide) H2.out hy
    have c0 := g1 0 _ (by decide) rfl
    have c1 := g1 1 _ (by decide) rfl
    have c2 := g1 2 _ (by decide) rfl
    have d0 := g2 0 _ (by decide) rfl
    have d1 := g2 1 _ (by decide) rfl
    have d2 := g2 2 _ (by decide) rfl
    rw [Nat.add_zero] at c0 d0
    have HX := Lib.hid hx
    have HY := Lib.hid hy
    have HT := Lib.hid htk
    clear g1 g2 hx hy htk
    have hg := slotGuard
    have hq := slotNeq x y
    have HTK := fun (e : x = y) => Lib.hid (show L.take (k + 1) = M.take (k + 1) by rw [List.take_add_one, List.take_add_one, HT.out, HX.out, HY.out, e])
    have HNE := fun (e : ¬ x = y) => Lib.hid (show decide (L = M) = false by
     rw [decide_eq_false_iff_not]; intro e2
     have h1 := HX.out
     rw [e2, HY.out] at h1
     exact e (Option.some.inj h1).symm)
    by_cases hxy : x = y
    ·have HTK2 := HTK hxy
     rw [decide_eq_true hxy] at hq
     clear HTK HNE hxy
     go_wp2
     go_quiet (fail)
     go_wp2
     go_roundw
     case rel => exact ⟨k + 1, by omega, by go_num, HTK2.out, _, rfl⟩
     case measure => simp [intOf]; omega
    ·have HNE2 := HNE hxy
     rw [decide_eq_false hxy] at hq
     clear HTK HNE hxy
     go_wp2
     go_quiet (fail)
     go_wp2
     go_ret
     exact ⟨ret_bool (by rw [HNE2.out]), _, by rw [World.drewN_drewN]⟩
   ·obtain rfl : k = L.length := by omega
    have hd : decide (L.length < L.length) = false := by simp
    rw [List.take_of_length_le (Nat.le_refl _), List.take_of_length_le (by omega)] at htk
    have HE := Lib.hid (show decide (L = M) = true from decide_eq_true htk)
    clear htk
    go_wp2
    go_ret
    exact ⟨ret_bool (by rw [HE.out]), _, rfl⟩
 ·have e0 : (L.length == M.length) = false := by rw [beq_eq_false_iff_ne]; exact hne
  have HE := Lib.hid (show decide (L = M) = false by rw [decide_eq_false_iff_not]; exact fun e => hne (by rw [e]))
  clear h1 h2 hne
  go_enter Try.func56, Try.ntmps56
  go_wp2
  go_ret
  exact ⟨ret_bool (by rw [HE.out]), 0, rfl⟩
set_option maxHeartbeats 1000000 in
set_option maxRecDepth 100000 in
theorem eqSlot (v1 v2 : Value) (L M : List Sl) (n1 n2 : Nat) (w : World) (h1 : SeqS w 3 v1 n1 (rowsOf slF L)) (h2 : SeqS w 3 v2 n2 (rowsOf slF M)) :
  Calls Try.prog 38 #[v1, v2] w fun e w' => e = .returned (.bool (decide (L = M))) ∧ ∃ n, w' = w.drewN n := by
 have hl1 := h1.len_ slF_length (by decide)
 have hl2 := h2.len_ slF_length (by decide)
 obtain ⟨A1, c1, rfl, q1, q2, _⟩ := h1.form
 obtain ⟨A2, c2, rfl, q3, q4, _⟩ := h2.form
 subst hl1 hl2
 unfold maxLen at q2 q4
 by_cases hne : L.length = M.length
 ·have e0 : (L.length != M.length) = false := by simp [hne]
  have H1 := Lib.hid h1
  have H2 := Lib.hid h2
  have hnei : (L.length : Int) = (M.length : Int) := by omega
  clear h1 h2
  go_enter Try.func38, Try.ntmps38
  go_wp2
  go_loopw [13] (fun u wr => ∃ k : Nat, k ≤ L.length ∧ u = .int .i64 k ∧ L.take k = M.take k ∧ ∃ n, wr = w.drewN n) (fun u _ => L.length - (intOf u).toNat)
  case atStart => exact ⟨0, by omega, rfl, rfl, 0, rfl⟩
  case round =>
   obtain ⟨k, hk, rfl, htk, nd, rfl⟩ := hrel
   by_cases hlt : k < L.length
   ·have hd : decide (k < L.length) = true := by simpa using hlt
    have hd2 : (k : Int) < (M.length : Int) := by omega
    have hd3 : (k : Int) < (L.length : Int) := by omega
    obtain ⟨x, hx⟩ : ∃ x, L[k]? = some x := ⟨_, List.getElem?_eq_getElem hlt⟩
    obtain ⟨y, hy⟩ : ∃ y, M[k]? = some y := ⟨_, List.getElem?_eq_getElem (by omega)⟩
    obtain ⟨b1, o1, rfl, _, g1⟩ := SeqS.at_ slF_length (by decide) H1.out hx
    obtain ⟨b2, o2, rfl, _, g2⟩ := SeqS.at_ slF_length (by decide) H2.out hy
    have c0 := g1 0 _ (by decide) rfl
    have c1 := g1 1 _ (by decide) rfl
    have c2 := g1 2 _ (by decide) rfl
    have d0 := g2 0 _ (by decide) rfl
    have d1 := g2 1 _ (by decide) rfl
    have d2 := g2 2 _ (by decide) rfl
    rw [Nat.add_zero] at c0 d0
    have HX := Lib.hid hx
    have HY := Lib.hid hy
    have HT := Lib.hid htk
    clear g1 g2 hx hy htk
    have hg := slotGuard
    have hq := slotNeq x y
    have HTK := fun (e : x = y) => Lib.hid (show L.take (k + 1) = M.take (k + 1) by rw [List.take_add_one, List.take_add_one, HT.out, HX.out, HY.out, e])
    have HNE := fun (e : ¬ x = y) => Lib.hid (show decide (L = M) = false by
     rw [decide_eq_false_iff_not]; intro e2
     have h1 := HX.out
     rw [e2, HY.out] at h1
     exact e (Option.some.inj h1).symm)
    by_cases hxy : x = y
    ·have HTK2 := HTK hxy
     rw [decide_eq_true hxy] at hq
     clear HTK HNE hxy
     go_wp2
     go_quiet (fail)
     go_wp2
     go_roundw
     case rel => exact ⟨k + 1, by omega, by go_num, HTK2.out, _, rfl⟩
     case measure => simp [intOf]; omega
    ·have HNE2 := HNE hxy
     rw [decide_eq_false hxy] at hq
     clear HTK HNE hxy
     go_wp2
     go_quiet (fail)
     go_wp2
     go_ret
     exact ⟨ret_bool (by rw [HNE2.out]), _, by rw [World.drewN_drewN]⟩
   ·obtain rfl : k = L.length := by omega
    have hd : decide (L.length < L.length) = false := by simp
    rw [List.take_of_length_le (Nat.le_refl _), List.take_of_length_le (by omega)] at htk
    have HE := Lib.hid (show decide (L = M) = true from decide_eq_true htk)
    clear htk
    go_wp2
    go_ret
    exact ⟨ret_bool (by rw [HE.out]), _, rfl⟩
 ·have e0 : (L.length == M.length) = false := by rw [beq_eq_false_iff_ne]; exact hne
  have HE := Lib.hid (show decide (L = M) = false by rw [decide_eq_false_iff_not]; exact fun e => hne (by rw [e]))
  clear h1 h2 hne
  go_enter Try.func38, Try.ntmps38
  go_wp2
  go_ret
  exact ⟨ret_bool (by rw [HE.out]), 0, rfl⟩
def regB (x y : Nat → Nat) : Bool := (x 0 == y 0) && ((x 1 == y 1) && ((x 2 == y 2) && ((x 3 == y 3) && ((x 4 == y 4) && ((x 5 == y 5) && ((x 6 == y 6) && (x 7 == y 7)))))))
abbrev regC (x : Nat → Nat) : Array Value := #[.int .u64 (x 0 : Int), .int .u64 (x 1 : Int), .int .u64 (x 2 : Int), .int .u64 (x 3 : Int), .int .u64 (x 4 : Int), .int .u64 (x 5 : Int), .int .u64 (x 6 : Int), .int .u64 (x 7 : Int)]
theorem under8 : Try.prog.underlying 37 = some (.array 8 24) := by kernel_rfl
theorem cells1 : Try.prog.cellsOf 24 = 1 := by kernel_rfl
theorem intEqN (a b : Nat) : ((a : Int) == (b : Int)) = (a == b) := by rw [Bool.eq_iff_iff, beq_iff_eq, beq_iff_eq]; omega
set_option maxHeartbeats 2000000 in
theorem regsEql (x y : Nat → Nat) (w : World) : (binOp .eql 37 (.agg (regC x)) (.agg (regC y))).run Try.prog w = .ok (.bool (regB x y)) w := by
 obtain ⟨i0, hi, _, _, _⟩ := info_parts Try.info64
 rw [run_eql_struct, run_equalIn_array w 9999 _ _ under8 hi, cells1]
 rw [show List.range 8 = [0, 1, 2, 3, 4, 5, 6, 7] from rfl]
 have hp : ∀ (l : Array Value) (k : Nat) (a : Int) (q : World), l[k]? = some (.int .u64 a) → (part 24 l (k * 1)).run Try.prog q = .ok (.int .u64 a) q := by
  intro l k a q h
  have hu : Try.prog.underlying 24 = some (.int .u64) := by kernel_rfl
  simp [part, isAgg, run_underlying hu, h]
 have hu : Try.prog.underlying 24 = some (.int .u64) := by kernel_rfl
 have a0 := fun q => hp (regC x) 0 (x 0) q rfl
 have a1 := fun q => hp (regC x) 1 (x 1) q rfl
 have a2 := fun q => hp (regC x) 2 (x 2) q rfl
 have a3 := fun q => hp (regC x) 3 (x 3) q rfl
 have a4 := fun q => hp (regC x) 4 (x 4) q rfl
 have a5 := fun q => hp (regC x) 5 (x 5) q rfl
 have a6 := fun q => hp (regC x) 6 (x 6) q rfl
 have a7 := fun q => hp (regC x) 7 (x 7) q rfl
 have b0 := fun q => hp (regC y) 0 (y 0) q rfl
 have b1 := fun q => hp (regC y) 1 (y 1) q rfl
 have b2 := fun q => hp (regC y) 2 (y 2) q rfl
 have b3 := fun q => hp (regC y) 3 (y 3) q rfl
 have b4 := fun q => hp (regC y) 4 (y 4) q rfl
 have b5 := fun q => hp (regC y) 5 (y 5) q rfl
 have b6 := fun q => hp (regC y) 6 (y 6) q rfl
 have b7 := fun q => hp (regC y) 7 (y 7) q rfl
 have he : ∀ (a b : Nat) (q : World), (Op.equalIn 9999 24 (.int .u64 (a : Int)) (.int .u64 (b : Int))).run Try.prog q = .ok (a == b) q := fun a b q => by
  rw [run_equalIn_int q 9998 24 .u64 .u64 _ _ hu, intEqN]
 generalize regC x = X at *
 generalize regC y = Y at *
 simp only [Op.eqItems, Sem.run_bind, a0, a1, a2, a3, a4, a5, a6, a7, b0, b1, b2, b3, b4, b5, b6, b7, he, Result.andThen_ok, Sem.run_ite, Sem.run_pure]
 unfold regB
 cases (x 0 == y 0) <;> try rfl
 cases (x 1 == y 1) <;> try rfl
 cases (x 2 == y 2) <;> try rfl
 cases (x 3 == y 3) <;> try rfl
 cases (x 4 == y 4) <;> try rfl
 cases (x 5 == y 5) <;> try rfl
 cases (x 6 == y 6) <;> try rfl
 cases (x 7 == y 7) <;> rfl
def vals (l : List Int) : List Value := l.map (Value.int .u64)
set_option maxHeartbeats 1000000 in
theorem refSame (v1 v2 : Value) (xs ys : List Int) (w : World) (h1 : SeqAt w v1 (vals xs)) (h2 : SeqAt w v2 (vals ys)) :
  Calls Try.prog 55 #[v1, v2] w fun e w' => e = .returned (.bool (decide (xs = ys))) ∧ ∃ n, w' = w.drewN n := by
 obtain ⟨A, c, rfl, a1, a2, a3⟩ := h1
 obtain ⟨B, d, rfl, b1, b2, b3⟩ := h2
 have e1 : (vals xs).length = xs.length := by simp [vals]
 have e2 : (vals ys).length = ys.length := by simp [vals]
 rw [e1, e2]
 have a1' : xs.length ≤ c := by rw [← e1]; exact a1
 have b1' : ys.length ≤ d := by rw [← e2]; exact b1
 clear a1 b1
 unfold maxLen at a2 b2
 have A3 := Lib.hid a3
 have B3 := Lib.hid b3
 clear a3 b3 e1 e2
 by_cases hl : xs.length = ys.length
 ·have q1 : (xs.length != ys.length) = false := by simp [hl]
  go_enter Try.func55, Try.ntmps55
  have HL := Lib.hid hl
  clear hl
  go_wp2
  go_loopw [5] (fun i wr => ∃ k n : Nat, k ≤ xs.length ∧ i = .int .i64 k ∧ wr = w.drewN n ∧ Hid (xs.take k = ys.take k)) (fun i _ => xs.length - (intOf i).toNat)
  case atStart => exact ⟨0, 0, by omega, rfl, rfl, by unfold Hid; simp⟩
  case round =>
   obtain ⟨k, n, hk, rfl, rfl, ht⟩ := hrel
   by_cases hlt : k < xs.length
   ·obtain ⟨x, hx⟩ : ∃ x, xs[k]? = some x := ⟨_, List.getElem?_eq_getElem hlt⟩
    obtain ⟨y, hy⟩ : ∃ y, ys[k]? = some y := ⟨_, List.getElem?_eq_getElem (by rw [← HL.out]; exact hlt)⟩
    obtain ⟨ba, oa, he, ca⟩ := A3.out k (.int .u64 x) (by simp [vals, hx])
    subst he
    obtain ⟨bb, ob, he, cb⟩ := B3.out k (.int .u64 y) (by simp [vals, hy])
    subst he
    have hk2 : (k : Int) < (xs.length : Int) := by omega
    have hk3 : (k : Int) < (ys.length : Int) := by rw [← HL.out]; exact hk2
    have HX := Lib.hid hx
    have HY := Lib.hid hy
    clear hx hy
    go_wp2_with fail
    go_quiet (fail)
    by_cases hxy : x = y
    ·subst hxy
     go_wp2
     go_roundw
     case rel => exact ⟨k + 1, _, by omega, by go_num, (by first | rfl | exact World.drewN_drewN _ _ _), by
      have e1 : xs.take (k + 1) = xs.take k ++ [x] := by rw [List.take_add_one, HX.out]; rfl
      have e2 : ys.take (k + 1) = ys.take k ++ [x] := by rw [List.take_add_one, HY.out]; rfl
      unfold Hid; rw [e1, e2, ht.out]⟩
     case measure => simp [intOf]; omega
    ·have q2 : (x != y) = true := by simpa using hxy
     go_wp2
     go_ret
     refine ⟨ret_bool ?_, _, by first | rfl | exact World.drewN_drewN _ _ _⟩
     have : xs ≠ ys := by
      intro h; subst h
      have h1 := HX.out; rw [HY.out] at h1; exact hxy (Option.some.inj h1).symm
     simp [this]
   ·obtain rfl : k = xs.length := by omega
    go_wp2
    go_ret
    refine ⟨ret_bool ?_, _, by first | rfl | exact World.drewN_drewN _ _ _⟩
    have h := ht.out
    rw [List.take_of_length_le (Nat.le_refl _), List.take_of_length_le (by rw [HL.out]; exact Nat.le_refl _)] at h
    simp [h]
 ·have q1 : (xs.length != ys.length) = true := by simpa using hl
  have HL := Lib.hid hl
  clear hl
  go_enter Try.func55, Try.ntmps55
  go_wp2
  go_ret
  refine ⟨ret_bool ?_, 0, rfl⟩
  have : xs ≠ ys := fun h => HL.out (by rw [h])
  simp [this]
theorem vals_nat (l : List Nat) : vals (l.map fun (n : Nat) => (n : Int)) = cells64 l := by simp [vals, cells64]
theorem refSameNat (v1 v2 : Value) (xs ys : List Nat) (w : World) (h1 : SeqAt w v1 (cells64 xs)) (h2 : SeqAt w v2 (cells64 ys)) :
  Calls Try.prog 55 #[v1, v2] w fun e w' => e = .returned (.bool (decide (xs = ys))) ∧ ∃ n, w' = w.drewN n := by
 have := refSame v1 v2 (xs.map fun (n : Nat) => (n : Int)) (ys.map fun (n : Nat) => (n : Int)) w (by rw [vals_nat]; exact h1) (by rw [vals_nat]; exact h2)
 have e : decide ((xs.map fun (n : Nat) => (n : Int)) = (ys.map fun (n : Nat) => (n : Int))) = decide (xs = ys) := by
  congr 1
  apply propext
  constructor
  ·intro h
   exact (List.map_inj_right (fun a b h => by omega)).1 h
  ·intro h; rw [h]
 rw [e] at this
 exact this
set_option maxHeartbeats 1000000 in
theorem eq64 (v1 v2 : Value) (xs ys : List Int) (w : World) (h1 : SeqAt w v1 (vals xs)) (h2 : SeqAt w v2 (vals ys)) :
  Calls Try.prog 37 #[v1, v2] w fun e w' => e = .returned (.bool (decide (xs = ys))) ∧ ∃ n, w' = w.drewN n := by
 obtain ⟨A, c, rfl, a1, a2, a3⟩ := h1
 obtain ⟨B, d, rfl, b1, b2, b3⟩ := h2
 have e1 : (vals xs).length = xs.length := by simp [vals]
 have e2 : (vals ys).length = ys.length := by simp [vals]
 rw [e1, e2]
 have a1' : xs.length ≤ c := by rw [← e1]; exact a1
 have b1' : ys.length ≤ d := by rw [← e2]; exact b1
 clear a1 b1
 unfold maxLen at a2 b2
 have A3 := Lib.hid a3
 have B3 := Lib.hid b3
 clear a3 b3 e1 e2
 by_cases hl : xs.length = ys.length
 ·have q1 : (xs.length != ys.length) = false := by simp [hl]
  go_enter Try.func37, Try.ntmps37
  have HL := Lib.hid hl
  clear hl
  go_wp2
  go_loopw [13] (fun i wr => ∃ k n : Nat, k ≤ xs.length ∧ i = .int .i64 k ∧ wr = w.drewN n ∧ Hid (xs.take k = ys.take k)) (fun i _ => xs.length - (intOf i).toNat)
  case atStart => exact ⟨0, 0, by omega, rfl, rfl, by unfold Hid; simp⟩
  case round =>
   obtain ⟨k, n, hk, rfl, rfl, ht⟩ := hrel
   by_cases hlt : k < xs.length
   ·obtain ⟨x, hx⟩ : ∃ x, xs[k]? = some x := ⟨_, List.getElem?_eq_getElem hlt⟩
    obtain ⟨y, hy⟩ : ∃ y, ys[k]? = some y := ⟨_, List.getElem?_eq_getElem (by rw [← HL.out]; exact hlt)⟩
    obtain ⟨ba, oa, he, ca⟩ := A3.out k (.int .u64 x) (by simp [vals, hx])
    subst he
    obtain ⟨bb, ob, he, cb⟩ := B3.out k (.int .u64 y) (by simp [vals, hy])
    subst he
    have hk2 : (k : Int) < (xs.length : Int) := by omega
    have hk3 : (k : Int) < (ys.length : Int) := by rw [← HL.out]; exact hk2
    have HX := Lib.hid hx
    have HY := Lib.hid hy
    clear hx hy
    go_wp2_with fail
    go_quiet (fail)
    by_cases hxy : x = y
    ·subst hxy
     go_wp2
     go_roundw
     case rel => exact ⟨k + 1, _, by omega, by go_num, (by first | rfl | exact World.drewN_drewN _ _ _), by
      have e1 : xs.take (k + 1) = xs.take k ++ [x] := by rw [List.take_add_one, HX.out]; rfl
      have e2 : ys.take (k + 1) = ys.take k ++ [x] := by rw [List.take_add_one, HY.out]; rfl
      unfold Hid; rw [e1, e2, ht.out]⟩
     case measure => simp [intOf]; omega
    ·have q2 : (x != y) = true := by simpa using hxy
     go_wp2
     go_ret
     refine ⟨ret_bool ?_, _, by first | rfl | exact World.drewN_drewN _ _ _⟩
     have : xs ≠ ys := by
      intro h; subst h
      have h1 := HX.out; rw [HY.out] at h1; exact hxy (Option.some.inj h1).symm
     simp [this]
   ·obtain rfl : k = xs.length := by omega
    go_wp2
    go_ret
    refine ⟨ret_bool ?_, _, by first | rfl | exact World.drewN_drewN _ _ _⟩
    have h := ht.out
    rw [List.take_of_length_le (Nat.le_refl _), List.take_of_length_le (by rw [HL.out]; exact Nat.le_refl _)] at h
    simp [h]
 ·have q1 : (xs.length != ys.length) = true := by simpa using hl
  have HL := Lib.hid hl
  clear hl
  go_enter Try.func37, Try.ntmps37
  go_wp2
  go_ret
  refine ⟨ret_bool ?_, 0, rfl⟩
  have : xs ≠ ys := fun h => HL.out (by rw [h])
  simp [this]
theorem eq64Nat (v1 v2 : Value) (xs ys : List Nat) (w : World) (h1 : SeqAt w v1 (cells64 xs)) (h2 : SeqAt w v2 (cells64 ys)) :
  Calls Try.prog 37 #[v1, v2] w fun e w' => e = .returned (.bool (decide (xs = ys))) ∧ ∃ n, w' = w.drewN n := by
 have := eq64 v1 v2 (xs.map fun (n : Nat) => (n : Int)) (ys.map fun (n : Nat) => (n : Int)) w (by rw [vals_nat]; exact h1) (by rw [vals_nat]; exact h2)
 have e : decide ((xs.map fun (n : Nat) => (n : Int)) = (ys.map fun (n : Nat) => (n : Int))) = decide (xs = ys) := by
  congr 1
  apply propext
  constructor
  ·intro h
   exact (List.map_inj_right (fun a b h => by omega)).1 h
  ·intro h; rw [h]
 rw [e] at this
 exact this
def samT (x y : Th) : Bool := (x.at_ == y.at_) && ((x.ph == y.ph) && ((x.rg == y.rg) && ((x.st == y.st) && ((x.tk == y.tk) && (regB x.r y.r && decide (x.sn = y.sn))))))
set_option maxHeartbeats 4000000 in
set_option maxRecDepth 100000 in
theorem thSame (x y : Th) (A : Option Addr) (c : Nat) (B : Option Addr) (d : Nat) (w : World) (h : SeqAt w (.slice A x.sn.length c) (cells64 x.sn)) (k : SeqAt w (.slice B y.sn.length d) (cells64 y.sn)) :
  Calls Try.prog 21 #[.agg (thC x (.slice A x.sn.length c)), .agg (thC y (.slice B y.sn.length d))] w fun e w' => e = .returned (.bool (samT x y)) ∧ Below w.heap.size w w' := by
 have hb := (((Below.refl w.heap.size w).alloc (Nat.le_refl _) (.cells (thC x (.slice A x.sn.length c)) 40))).alloc (by simp) (.cells (thC y (.slice B y.sn.length d)) 40)
 have HB := Lib.hid hb
 have HCA := Lib.hid (fun q (hq : Below w.heap.size w q) => eq64Nat _ _ x.sn y.sn q (SeqAt.later_ h hq) (SeqAt.later_ k hq))
 have HD : Hid (samT x y = ((x.at_ == y.at_) && ((x.ph == y.ph) && ((x.rg == y.rg) && ((x.st == y.st) && ((x.tk == y.tk) && (regB x.r y.r && decide (x.sn = y.sn)))))))) := rfl
 have hge : Try.prog.eqGuardType Try.prog.depth 37 = false := by kernel_rfl
 have hre := fun q => regsEql x.r y.r q
 dsimp only [regC] at hre
 clear hb h k
 obtain ⟨b1, hb1⟩ : ∃ b, (x.at_ == y.at_) = b := ⟨_, rfl⟩
 obtain ⟨b2, hb2⟩ : ∃ b, (x.ph == y.ph) = b := ⟨_, rfl⟩
 obtain ⟨b3, hb3⟩ : ∃ b, (x.rg == y.rg) = b := ⟨_, rfl⟩
 obtain ⟨b4, hb4⟩ : ∃ b, (x.st == y.st) = b := ⟨_, rfl⟩
 obtain ⟨b5, hb5⟩ : ∃ b, (x.tk == y.tk) = b := ⟨_, rfl⟩
 obtain ⟨b6, hb6⟩ : ∃ b, regB x.r y.r = b := ⟨_, rfl⟩
 have ib5 : ((x.tk : Int) == (y.tk : Int)) = b5 := by rw [← hb5, intEqN]
 rw [hb1, hb2, hb3, hb4, hb5, hb6] at HD
 rw [hb6] at hre
 clear hb6
 have hc : (b1 = false) ∨ (b1 = true ∧ b2 = false) ∨ (b1 = true ∧ b2 = true ∧ b3 = false) ∨ (b1 = true ∧ b2 = true ∧ b3 = true ∧ b4 = false) ∨ (b1 = true ∧ b2 = true ∧ b3 = true ∧ b4 = true ∧ b5 = false) ∨ (b1 = true ∧ b2 = true ∧ b3 = true ∧ b4 = true ∧ b5 = true ∧ b6 = false) ∨ (b1 = true ∧ b2 = true ∧ b3 = true ∧ b4 = true ∧ b5 = true ∧ b6 = true) := by
  cases b1 <;> cases b2 <;> cases b3 <;> cases b4 <;> cases b5 <;> cases b6 <;> simp
 rcases hc with rfl | ⟨rfl, rfl⟩ | ⟨rfl, rfl, rfl⟩ | ⟨rfl, rfl, rfl, rfl⟩ | ⟨rfl, rfl, rfl, rfl, rfl⟩ | ⟨rfl, rfl, rfl, rfl, rfl, rfl⟩ | ⟨rfl, rfl, rfl, rfl, rfl, rfl⟩
 all_goals
  have HE := HD.out
  simp only [Bool.true_and, Bool.false_and] at HE
  have HE2 := Lib.hid HE
  clear HE HD
  go_enter Try.func21, Try.ntmps21
  first
   | (go_wp2
      go_ret
      exact ⟨ret_bool HE2.out.symm, HB.out⟩)
   | (go_wp2_with fail
      refine (HCA.out _ HB.out).mono ?_
      rintro e w' ⟨rfl, n, rfl⟩
      go_wp2
      go_ret
      exact ⟨ret_bool HE2.out.symm, below_drewN HB.out n⟩)
set_option maxHeartbeats 4000000 in
set_option maxRecDepth 100000 in
theorem rfThSame (x y : Th) (A : Option Addr) (c : Nat) (B : Option Addr) (d : Nat) (w : World) (h : SeqAt w (.slice A x.sn.length c) (cells64 x.sn)) (k : SeqAt w (.slice B y.sn.length d) (cells64 y.sn)) :
  Calls Try.prog 39 #[.agg (thC x (.slice A x.sn.length c)), .agg (thC y (.slice B y.sn.length d))] w fun e w' => e = .returned (.bool (samT x y)) ∧ Below w.heap.size w w' := by
 have hb := (((Below.refl w.heap.size w).alloc (Nat.le_refl _) (.cells (thC x (.slice A x.sn.length c)) 40))).alloc (by simp) (.cells (thC y (.slice B y.sn.length d)) 40)
 have HB := Lib.hid hb
 have HCA := Lib.hid (fun q (hq : Below w.heap.size w q) => refSameNat _ _ x.sn y.sn q (SeqAt.later_ h hq) (SeqAt.later_ k hq))
 have HD : Hid (samT x y = ((x.at_ == y.at_) && ((x.ph == y.ph) && ((x.rg == y.rg) && ((x.st == y.st) && ((x.tk == y.tk) && (regB x.r y.r && decide (x.sn = y.sn)))))))) := rfl
 have hge : Try.prog.eqGuardType Try.prog.depth 37 = false := by kernel_rfl
 have hre := fun q => regsEql x.r y.r q
 dsimp only [regC] at hre
 clear hb h k
 obtain ⟨b1, hb1⟩ : ∃ b, (x.at_ == y.at_) = b := ⟨_, rfl⟩
 obtain ⟨b2, hb2⟩ : ∃ b, (x.ph == y.ph) = b := ⟨_, rfl⟩
 obtain ⟨b3, hb3⟩ : ∃ b, (x.rg == y.rg) = b := ⟨_, rfl⟩
 obtain ⟨b4, hb4⟩ : ∃ b, (x.st == y.st) = b := ⟨_, rfl⟩
 obtain ⟨b5, hb5⟩ : ∃ b, (x.tk == y.tk) = b := ⟨_, rfl⟩
 obtain ⟨b6, hb6⟩ : ∃ b, regB x.r y.r = b := ⟨_, rfl⟩
 have ib5 : ((x.tk : Int) == (y.tk : Int)) = b5 := by rw [← hb5, intEqN]
 rw [hb1, hb2, hb3, hb4, hb5, hb6] at HD
 rw [hb6] at hre
 clear hb6
 have hc : (b1 = false) ∨ (b1 = true ∧ b2 = false) ∨ (b1 = true ∧ b2 = true ∧ b3 = false) ∨ (b1 = true ∧ b2 = true ∧ b3 = true ∧ b4 = false) ∨ (b1 = true ∧ b2 = true ∧ b3 = true ∧ b4 = true ∧ b5 = false) ∨ (b1 = true ∧ b2 = true ∧ b3 = true ∧ b4 = true ∧ b5 = true ∧ b6 = false) ∨ (b1 = true ∧ b2 = true ∧ b3 = true ∧ b4 = true ∧ b5 = true ∧ b6 = true) := by
  cases b1 <;> cases b2 <;> cases b3 <;> cases b4 <;> cases b5 <;> cases b6 <;> simp
 rcases hc with rfl | ⟨rfl, rfl⟩ | ⟨rfl, rfl, rfl⟩ | ⟨rfl, rfl, rfl, rfl⟩ | ⟨rfl, rfl, rfl, rfl, rfl⟩ | ⟨rfl, rfl, rfl, rfl, rfl, rfl⟩ | ⟨rfl, rfl, rfl, rfl, rfl, rfl⟩
 all_goals
  have HE := HD.out
  simp only [Bool.true_and, Bool.false_and] at HE
  have HE2 := Lib.hid HE
  clear HE HD
  go_enter Try.func39, Try.ntmps39
  first
   | (go_wp2
      go_ret
      exact ⟨ret_bool HE2.out.symm, HB.out⟩)
   | (go_wp2_with fail
      refine (HCA.out _ HB.out).mono ?_
      rintro e w' ⟨rfl, n, rfl⟩
      go_wp2
      go_ret
      exact ⟨ret_bool HE2.out.symm, below_drewN HB.out n⟩)
def samR (x y : Rs) : Bool := (x.tl == y.tl) && (decide (x.hs = y.hs) && ((x.cl == y.cl) && decide (x.sl = y.sl)))
theorem seqAt64 {w : World} {v : Value} {xs : List Nat} {n : Nat} (h : SeqS w 1 v n (cells64 xs)) : SeqAt w v (cells64 xs) := by
 obtain ⟨h1, A, c, h2, h3, h4, h5, h6⟩ := h
 have hl : (cells64 xs).length = n := by rw [h1, Nat.mul_one]
 exact ⟨A, c, by rw [hl]; exact h2, by rw [hl]; exact h3, h4, h6⟩
set_option maxHeartbeats 4000000 in
set_option maxRecDepth 100000 in
theorem rgSame2 (x y : Rs) (A : Option Addr) (c : Nat) (B : Option Addr) (d : Nat) (A2 : Option Addr) (c2 : Nat) (B2 : Option Addr) (d2 : Nat) (w : World) (h : SeqS w 1 (.slice A x.hs.length c) x.hs.length (cells64 x.hs)) (k : SeqS w 1 (.slice B y.hs.length d) y.hs.length (cells64 y.hs))
  (h2 : SeqS w 3 (.slice A2 x.sl.length c2) x.sl.length (rowsOf slF x.sl)) (k2 : SeqS w 3 (.slice B2 y.sl.length d2) y.sl.length (rowsOf slF y.sl)) :
  Calls Try.prog 23 #[.agg (rgC2 x.tl (.slice A x.hs.length c) x.cl (.slice A2 x.sl.length c2)), .agg (rgC2 y.tl (.slice B y.hs.length d) y.cl (.slice B2 y.sl.length d2))] w fun e w' => e = .returned (.bool (samR x y)) ∧ Below w.heap.size w w' := by
 have hb := (((Below.refl w.heap.size w).alloc (Nat.le_refl _) (.cells (rgC2 x.tl (.slice A x.hs.length c) x.cl (.slice A2 x.sl.length c2)) 54))).alloc (by simp) (.cells (rgC2 y.tl (.slice B y.hs.length d) y.cl (.slice B2 y.sl.length d2)) 54)
 have HB := Lib.hid hb
 have l0 := (Lies.made w 54 (rgC2 x.tl (.slice A x.hs.length c) x.cl (.slice A2 x.sl.length c2))).alloc (.cells (rgC2 y.tl (.slice B y.hs.length d) y.cl (.slice B2 y.sl.length d2)) 54)
 have l1 := Lies.made (w.alloc (.cells (rgC2 x.tl (.slice A x.hs.length c) x.cl (.slice A2 x.sl.length c2)) 54)) 54 (rgC2 y.tl (.slice B y.hs.length d) y.cl (.slice B2 y.sl.length d2))
 rw [World.size_alloc] at l1
 have HL0 := Lib.hid l0
 have HL1 := Lib.hid l1
 have HC1 := Lib.hid (fun q (hq : Below w.heap.size w q) => eq64Nat _ _ x.hs y.hs q (seqAt64 (h.later hq)) (seqAt64 (k.later hq)))
 have HC2 := Lib.hid (fun q (hq : Below w.heap.size w q) => eqSlot _ _ x.sl y.sl _ _ q (h2.later hq) (k2.later hq))
 have HD : Hid (samR x y = ((x.tl == y.tl) && (decide (x.hs = y.hs) && ((x.cl == y.cl) && decide (x.sl = y.sl))))) := rfl
 clear hb h k h2 k2 l0 l1
 obtain ⟨b1, hb1⟩ : ∃ b, (x.tl == y.tl) = b := ⟨_, rfl⟩
 obtain ⟨b2, hb2⟩ : ∃ b, decide (x.hs = y.hs) = b := ⟨_, rfl⟩
 obtain ⟨b3, hb3⟩ : ∃ b, (x.cl == y.cl) = b := ⟨_, rfl⟩
 obtain ⟨b4, hb4⟩ : ∃ b, decide (x.sl = y.sl) = b := ⟨_, rfl⟩
 have ib1 : ((x.tl : Int) == (y.tl : Int)) = b1 := by rw [← hb1, intEqN]
 rw [hb1, hb2, hb3, hb4] at HD
 rw [hb2] at HC1
 rw [hb4] at HC2
 clear hb1 hb2 hb4
 go_enter Try.func23, Try.ntmps23
 go_upto_region 1 with (fail)
 generalize (w.alloc (.cells (rgC2 x.tl (.slice A x.hs.length c) x.cl (.slice A2 x.sl.length c2)) 54)).alloc (.cells (rgC2 y.tl (.slice B y.hs.length d) y.cl (.slice B2 y.sl.length d2)) 54) = w1 at *
 have cc0 := (HL0.out.cell 0).trans (show _ = some (Value.int .u64 (x.tl : Int)) from rfl)
 have cc1 := (HL0.out.cell 1).trans (show _ = some (Value.slice A x.hs.length c) from rfl)
 have ccl := HL0.out.lt
 have dd0 := (HL1.out.cell 0).trans (show _ = some (Value.int .u64 (y.tl : Int)) from rfl)
 have dd1 := (HL1.out.cell 1).trans (show _ = some (Value.slice B y.hs.length d) from rfl)
 have ddl := HL1.out.lt
 cases b1
 ·have HE := HD.out
  simp only [Bool.false_and] at HE
  have HE2 := Lib.hid HE
  clear HE HD
  go_wp2_with fail
  go_ret
  exact ⟨ret_bool HE2.out.symm, HB.out⟩
 ·go_wp2_with fail
  refine (HC1.out _ HB.out).mono ?_
  rintro e w2 ⟨rfl, n, hw2⟩
  replace HB : Hid (Below w.heap.size w w2) := by rw [hw2]; exact below_drewN HB.out n
  replace HL0 : Hid (Lies w2 w.heap.size 54 (rgC2 x.tl (.slice A x.hs.length c) x.cl (.slice A2 x.sl.length c2))) := by rw [hw2]; exact HL0.out.drewN n
  replace HL1 : Hid (Lies w2 (w.heap.size + 1) 54 (rgC2 y.tl (.slice B y.hs.length d) y.cl (.slice B2 y.sl.length d2))) := by rw [hw2]; exact HL1.out.drewN n
  clear hw2 cc0 cc1 ccl dd0 dd1 ddl HC1
  have cc2 := (HL0.out.cell 2).trans (show _ = some (Value.bool x.cl) from rfl)
  have cc3 := (HL0.out.cell 3).trans (show _ = some (Value.slice A2 x.sl.length c2) from rfl)
  have ccl := HL0.out.lt
  have dd2 := (HL1.out.cell 2).trans (show _ = some (Value.bool y.cl) from rfl)
  have dd3 := (HL1.out.cell 3).trans (show _ = some (Value.slice B2 y.sl.length d2) from rfl)
  have ddl := HL1.out.lt
  clear HL0 HL1
  cases b2
  ·have HE := HD.out
   simp only [Bool.true_and, Bool.false_and] at HE
   have HE2 := Lib.hid HE
   clear HE HD
   go_wp2_with fail
   go_ret
   exact ⟨ret_bool HE2.out.symm, HB.out⟩
  ·cases b3
   ·have HE := HD.out
    simp only [Bool.true_and, Bool.false_and] at HE
    have HE2 := Lib.hid HE
    clear HE HD
    go_wp2_with fail
    go_ret
    exact ⟨ret_bool HE2.out.symm, HB.out⟩
   ·have HE := HD.out
    simp only [Bool.true_and] at HE
    have HE2 := Lib.hid HE
    clear HE HD
    go_wp2_with fail
    refine (HC2.out _ HB.out).mono ?_
    rintro e w3 ⟨rfl, n, rfl⟩
    go_wp2_with fail
    go_ret
    exact ⟨ret_bool HE2.out.symm, below_drewN HB.out n⟩
theorem pairs_at {w : World} {n c i : Nat} {A : Option Addr} {l : List Th} {x : Th} (h : ThsR w (.slice A n c) l) (hx : l[i]? = some x) : ∃ T o S d, A = some ⟨T, o, none⟩ ∧ (loadVar 40 ⟨T, o + i * 14, none⟩).run Try.prog w = .ok (.agg (thC x (.slice S x.sn.length d))) w ∧ T < w.heap.size ∧ SeqAt w (.slice S x.sn.length d) (cells64 x.sn) := by
 obtain ⟨T, o, S, d, e, h1, h2, h3, _⟩ := h.at_ hx
 exact ⟨T, o, S, d, e, th_load2 h2, h1, seqAt64 h3⟩
theorem pairsR_at {w : World} {n c i : Nat} {A : Option Addr} {l : List Rs} {x : Rs} (h : RgsR w (.slice A n c) l) (hx : l[i]? = some x) : ∃ T o S d S2 d2, A = some ⟨T, o, none⟩ ∧ (loadVar 54 ⟨T, o + i * 4, none⟩).run Try.prog w = .ok (.agg (rgC2 x.tl (.slice S x.hs.length d) x.cl (.slice S2 x.sl.length d2))) w ∧ T < w.heap.size ∧ SeqS w 1 (.slice S x.hs.length d) x.hs.length (cells64 x.hs) ∧ SeqS w 3 (.slice S2 x.sl.length d2) x.sl.length (rowsOf slF x.sl) := by
 obtain ⟨T, o, S, d, S2, d2, e, h1, h2, h3, h4, _⟩ := h.at_ hx
 exact ⟨T, o, S, d, S2, d2, e, rg_load2 h2, h1, h3.1, h4⟩
def zipB {α : Type} (f : α → α → Bool) (a b : List α) : Bool := decide (a.length = b.length) && (List.zip a b).all (fun p => f p.1 p.2)
section
variable {α : Type} {f : α → α → Bool} {a b : List α} {i : Nat} {x y : α}
theorem zipB_yes (hl : a.length = b.length) (h : ∀ (i : Nat) (x y : α), i < a.length → a[i]? = some x → b[i]? = some y → f x y = true) : zipB f a b = true := by
 unfold zipB
 rw [decide_eq_true hl, Bool.true_and, List.all_eq_true]
 rintro ⟨x, y⟩ hp
 obtain ⟨i, hi⟩ := List.mem_iff_getElem?.1 hp
 obtain ⟨h1, h2⟩ := List.getElem?_zip_eq_some.1 hi
 exact h i x y (List.getElem?_eq_some_iff.1 h1).1 h1 h2
theorem zipB_no (hx : a[i]? = some x) (hy : b[i]? = some y) (h : f x y = false) : zipB f a b = false := by
 unfold zipB
 rw [Bool.and_eq_false_iff]
 refine .inr ?_
 rw [Bool.eq_false_iff]
 intro e
 have := List.all_eq_true.1 e (x, y) (List.mem_of_getElem? (List.getElem?_zip_eq_some.2 ⟨hx, hy⟩))
 rw [h] at this
 cases this
theorem zipB_len (h : a.length ≠ b.length) : zipB f a b = false := by unfold zipB; rw [decide_eq_false h]; rfl
end
abbrev fnTh : Value := .func (.func 21) #[] #[]
abbrev fnRg : Value := .func (.func 23) #[] #[]
set_option maxHeartbeats 8000000 in
set_option maxRecDepth 100000 in
theorem eqfTh (a b : List Th) (A B : Option Addr) (c d : Nat) (w : World) (h : ThsR w (.slice A a.length c) a) (k : ThsR w (.slice B b.length d) b) : Calls Try.prog 20 #[.slice A a.length c, .slice B b.length d, fnTh] w fun e w' => e = .returned (.bool (zipB samT a b)) ∧ Below w.heap.size w w' := by
 obtain ⟨hc1, hc2⟩ := h.caps
 obtain ⟨hd1, hd2⟩ := k.caps
 have H := Lib.hid h
 have K := Lib.hid k
 have HB := Lib.hid (Below.refl w.heap.size w)
 clear h k
 by_cases hl : a.length = b.length
 ·have HL := Lib.hid hl
  have q1 : ((a.length : Int) != (b.length : Int)) = false := by simp [hl]
  clear hl
  go_enter Try.func20, Try.ntmps20
  go_wp2_with fail
  go_loopw [17] (fun u wr => ∃ i : Nat, i ≤ a.length ∧ u = .int .i64 i ∧ Hid (∀ (j : Nat) (x y : Th), j < i → a[j]? = some x → b[j]? = some y → samT x y = true) ∧ Hid (Below w.heap.size w wr)) (fun u _ => a.length - (intOf u).toNat)
  case atStart => exact ⟨0, by omega, rfl, (fun j _ _ hj => by omega), HB⟩
  case round =>
   clear HB
   obtain ⟨i, hi, rfl, HA, HB⟩ := hrel
   by_cases hlt : i < a.length
   ·obtain ⟨x, hx⟩ : ∃ x, a[i]? = some x := ⟨_, List.getElem?_eq_getElem hlt⟩
    obtain ⟨y, hy⟩ : ∃ y, b[i]? = some y := ⟨_, List.getElem?_eq_getElem (by have := HL.out; omega)⟩
    have hi1 : (i : Int) < (a.length : Int) := by omega
    have hi2 : (i : Int) < (b.length : Int) := by have := HL.out; omega
    obtain ⟨T1, o1, S1, d1, rfl, hld1, ht1, hs1⟩ := pairs_at (H.out.later HB.out) hx
    have hbx : Below wr.heap.size wr (wr.alloc (.cells (thC x (.slice S1 x.sn.length d1)) 40)) := (Below.refl _ _).alloc (Nat.le_refl _) _
    have HX := Lib.hid hx
    have HY := Lib.hid hy
    have HL1 := Lib.hid (Lies.made wr 40 (thC x (.slice S1 x.sn.length d1)))
    have HS1 := Lib.hid (SeqAt.later_ hs1 hbx)
    have HB2 := Lib.hid (HB.out.trans (hbx.mono HB.out.size))
    clear hx hy hs1 hbx HB
    go_upto_region 6 with (first | fail | refine wpList_load_known rfl _ _ rfl T1 (o1 + i * 14) rfl _ hld1 ?_)
    clear hld1 ht1
    generalize wr.alloc (.cells (thC x (.slice S1 x.sn.length d1)) 40) = w2 at *
    generalize wr.heap.size = N1 at *
    obtain ⟨T2, o2, S2, d2, rfl, hld2, ht2, hs2⟩ := pairs_at (K.out.later HB2.out) HY.out
    have hbx : Below w2.heap.size w2 (w2.alloc (.cells (thC y (.slice S2 y.sn.length d2)) 40)) := (Below.refl _ _).alloc (Nat.le_refl _) _
    have HL2 := Lib.hid (Lies.made w2 40 (thC y (.slice S2 y.sn.length d2)))
    have HL3 := Lib.hid (HL1.out.below hbx HL1.out.lt)
    have HS3 := Lib.hid (SeqAt.later_ HS1.out hbx)
    have HS4 := Lib.hid (SeqAt.later_ hs2 hbx)
    have HB3 := Lib.hid (HB2.out.trans (hbx.mono HB2.out.size))
    clear hs2 hbx HL1 HS1 HB2
    go_upto_region 7 with (first | fail | refine wpList_load_known rfl _ _ rfl T2 (o2 + i * 14) rfl _ hld2 ?_)
    clear hld2 ht2
    generalize w2.alloc (.cells (thC y (.slice S2 y.sn.length d2)) 40) = w3 at *
    generalize w2.heap.size = N2 at *
    have hld3 := th_loadL2 HL3.out
    have hld4 := th_loadL2 HL2.out
    have HC := Lib.hid (thSame x y S1 d1 S2 d2 w3 HS3.out HS4.out)
    go_wp2_with (first | fail | refine wpList_load_known rfl _ _ rfl N1 0 rfl _ hld3 ?_ | refine wpList_load_known rfl _ _ rfl N2 0 rfl _ hld4 ?_)
    refine HC.out.mono ?_
    rintro e w4 ⟨rfl, hb4⟩
    have HB4 := Lib.hid (HB3.out.trans (hb4.mono HB3.out.size))
    clear hb4 HC hld3 hld4 HS3 HS4 HL3 HL2 HB3
    cases hs : samT x y
    ·have HE := Lib.hid (zipB_no HX.out HY.out hs)
     clear hs
     go_wp2_with fail
     go_ret
     exact ⟨ret_bool HE.out.symm, HB4.out⟩
    ·have HA2 : Hid (∀ (j : Nat) (x y : Th), j < i + 1 → a[j]? = some x → b[j]? = some y → samT x y = true) := fun j x' y' hj h1 h2 => by
      by_cases e : j < i
      ·exact HA.out j x' y' e h1 h2
      ·obtain rfl : j = i := by omega
       rw [HX.out] at h1
       rw [HY.out] at h2
       simp only [Option.some.injEq] at h1 h2
       subst h1 h2
       exact hs
     clear hs
     go_wp2_with fail
     go_roundw
     case rel => exact ⟨i + 1, by omega, by go_num, HA2, HB4⟩
     case measure => simp [intOf]; omega
   ·obtain rfl : i = a.length := by omega
    have HE := Lib.hid (zipB_yes HL.out HA.out)
    go_wp2_with fail
    go_ret
    exact ⟨ret_bool HE.out.symm, HB.out⟩
 ·have HE := Lib.hid (zipB_len (f := samT) hl)
  have q1 : ((a.length : Int) != (b.length : Int)) = true := by simp; omega
  clear hl
  go_enter Try.func20, Try.ntmps20
  go_wp2_with fail
  go_ret
  exact ⟨ret_bool HE.out.symm, HB.out⟩
set_option maxHeartbeats 8000000 in
set_option maxRecDepth 100000 in
theorem eqfRg (a b : List Rs) (A B : Option Addr) (c d : Nat) (w : World) (h : RgsR w (.slice A a.length c) a) (k : RgsR w (.slice B b.length d) b) : Calls Try.prog 22 #[.slice A a.length c, .slice B b.length d, fnRg] w fun e w' => e = .returned (.bool (zipB samR a b)) ∧ Below w.heap.size w w' := by
 obtain ⟨hc1, hc2⟩ := h.caps
 obtain ⟨hd1, hd2⟩ := k.caps
 have H := Lib.hid h
 have K := Lib.hid k
 have HB := Lib.hid (Below.refl w.heap.size w)
 clear h k
 by_cases hl : a.length = b.length
 ·have HL := Lib.hid hl
  have q1 : ((a.length : Int) != (b.length : Int)) = false := by simp [hl]
  clear hl
  go_enter Try.func22, Try.ntmps22
  go_wp2_with fail
  go_loopw [17] (fun u wr => ∃ i : Nat, i ≤ a.length ∧ u = .int .i64 i ∧ Hid (∀ (j : Nat) (x y : Rs), j < i → a[j]? = some x → b[j]? = some y → samR x y = true) ∧ Hid (Below w.heap.size w wr)) (fun u _ => a.length - (intOf u).toNat)
  case atStart => exact ⟨0, by omega, rfl, (fun j _ _ hj => by omega), HB⟩
  case round =>
   clear HB
   obtain ⟨i, hi, rfl, HA, HB⟩ := hrel
   by_cases hlt : i < a.length
   ·obtain ⟨x, hx⟩ : ∃ x, a[i]? = some x := ⟨_, List.getElem?_eq_getElem hlt⟩
    obtain ⟨y, hy⟩ : ∃ y, b[i]? = some y := ⟨_, List.getElem?_eq_getElem (by have := HL.out; omega)⟩
    have hi1 : (i : Int) < (a.length : Int) := by omega
    have hi2 : (i : Int) < (b.length : Int) := by have := HL.out; omega
    obtain ⟨T1, o1, S1, d1, U1, e1, rfl, hld1, ht1, hs1, hv1⟩ := pairsR_at (H.out.later HB.out) hx
    have hbx : Below wr.heap.size wr (wr.alloc (.cells (rgC2 x.tl (.slice S1 x.hs.length d1) x.cl (.slice U1 x.sl.length e1)) 54)) := (Below.refl _ _).alloc (Nat.le_refl _) _
    have HX := Lib.hid hx
    have HY := Lib.hid hy
    have HL1 := Lib.hid (Lies.made wr 54 (rgC2 x.tl (.slice S1 x.hs.length d1) x.cl (.slice U1 x.sl.length e1)))
    have HS1 := Lib.hid (And.intro (hs1.later hbx) (hv1.later hbx))
    have HB2 := Lib.hid (HB.out.trans (hbx.mono HB.out.size))
    clear hx hy hs1 hv1 hbx HB
    go_upto_region 6 with (first | fail | refine wpList_load_known rfl _ _ rfl T1 (o1 + i * 4) rfl _ hld1 ?_)
    clear hld1 ht1
    generalize wr.alloc (.cells (rgC2 x.tl (.slice S1 x.hs.length d1) x.cl (.slice U1 x.sl.length e1)) 54) = w2 at *
    generalize wr.heap.size = N1 at *
    obtain ⟨T2, o2, S2, d2, U2, e2, rfl, hld2, ht2, hs2, hv2⟩ := pairsR_at (K.out.later HB2.out) HY.out
    have hbx : Below w2.heap.size w2 (w2.alloc (.cells (rgC2 y.tl (.slice S2 y.hs.length d2) y.cl (.slice U2 y.sl.length e2)) 54)) := (Below.refl _ _).alloc (Nat.le_refl _) _
    have HL2 := Lib.hid (Lies.made w2 54 (rgC2 y.tl (.slice S2 y.hs.length d2) y.cl (.slice U2 y.sl.length e2)))
    have HL3 := Lib.hid (HL1.out.below hbx HL1.out.lt)
    have HS3 := Lib.hid (And.intro (HS1.out.1.later hbx) (HS1.out.2.later hbx))
    have HS4 := Lib.hid (And.intro (hs2.later hbx) (hv2.later hbx))
    have HB3 := Lib.hid (HB2.out.trans (hbx.mono HB2.out.size))
    clear hs2 hv2 hbx HL1 HS1 HB2
    go_upto_region 7 with (first | fail | refine wpList_load_known rfl _ _ rfl T2 (o2 + i * 4) rfl _ hld2 ?_)
    clear hld2 ht2
    generalize w2.alloc (.cells (rgC2 y.tl (.slice S2 y.hs.length d2) y.cl (.slice U2 y.sl.length e2)) 54) = w3 at *
    generalize w2.heap.size = N2 at *
    have hld3 := rg_loadL2 HL3.out
    have hld4 := rg_loadL2 HL2.out
    have HC := Lib.hid (rgSame2 x y S1 d1 S2 d2 U1 e1 U2 e2 w3 HS3.out.1 HS4.out.1 HS3.out.2 HS4.out.2)
    go_wp2_with (first | fail | refine wpList_load_known rfl _ _ rfl N1 0 rfl _ hld3 ?_ | refine wpList_load_known rfl _ _ rfl N2 0 rfl _ hld4 ?_)
    refine HC.out.mono ?_
    rintro e w4 ⟨rfl, hb4⟩
    have HB4 := Lib.hid (HB3.out.trans (hb4.mono HB3.out.size))
    clear hb4 HC hld3 hld4 HS3 HS4 HL3 HL2 HB3
    cases hs : samR x y
    ·have HE := Lib.hid (zipB_no HX.out HY.out hs)
     clear hs
     go_wp2_with fail
     go_ret
     exact ⟨ret_bool HE.out.symm, HB4.out⟩
    ·have HA2 : Hid (∀ (j : Nat) (x y : Rs), j < i + 1 → a[j]? = some x → b[j]? = some y → samR x y = true) := fun j x' y' hj h1 h2 => by
      by_cases e : j < i
      ·exact HA.out j x' y' e h1 h2
      ·obtain rfl : j = i := by omega
       rw [HX.out] at h1
       rw [HY.out] at h2
       simp only [Option.some.injEq] at h1 h2
       subst h1 h2
       exact hs
     clear hs
     go_wp2_with fail
     go_roundw
     case rel => exact ⟨i + 1, by omega, by go_num, HA2, HB4⟩
     case measure => simp [intOf]; omega
   ·obtain rfl : i = a.length := by omega
    have HE := Lib.hid (zipB_yes HL.out HA.out)
    go_wp2_with fail
    go_ret
    exact ⟨ret_bool HE.out.symm, HB.out⟩
 ·have HE := Lib.hid (zipB_len (f := samR) hl)
  have q1 : ((a.length : Int) != (b.length : Int)) = true := by simp; omega
  clear hl
  go_enter Try.func22, Try.ntmps22
  go_wp2_with fail
  go_ret
  exact ⟨ret_bool HE.out.symm, HB.out⟩
def samS (S T : Sta) : Bool := zipB samT S.th T.th && (zipB samR S.rg T.rg && ((S.now == T.now) && ((S.rds == T.rds) && (S.en == T.en))))
theorem samT_refl2 (x : Th) : samT x x = true := by unfold samT regB; simp
theorem samR_refl2 (x : Rs) : samR x x = true := by unfold samR; simp
theorem samS_refl (S : Sta) : samS S S = true := by
 have h1 : zipB samT S.th S.th = true := zipB_yes rfl (fun i x y _ h1 h2 => by rw [h1] at h2; cases h2; exact samT_refl2 x)
 have h2 : zipB samR S.rg S.rg = true := zipB_yes rfl (fun i x y _ h1 h2 => by rw [h1] at h2; cases h2; exact samR_refl2 x)
 unfold samS
 rw [h1, h2]; simp
set_option maxHeartbeats 8000000 in
set_option maxRecDepth 100000 in
theorem snapSameG (S T : Sta) (A B A' B' : Option Addr) (c d c' d' : Nat) (w : World) (h1 : ThsR w (.slice A S.th.length c) S.th) (h2 : RgsR w (.slice B S.rg.length d) S.rg) (k1 : ThsR w (.slice A' T.th.length c') T.th) (k2 : RgsR w (.slice B' T.rg.length d') T.rg) :
  Calls Try.prog 8 #[.agg (stC (.slice A S.th.length c) (.slice B S.rg.length d) S.now S.rds S.en), .agg (stC (.slice A' T.th.length c') (.slice B' T.rg.length d') T.now T.rds T.en)] w fun e w' => e = .returned (.bool (samS S T)) ∧ Below w.heap.size w w' := by
 have HD : Hid (samS S T = (zipB samT S.th T.th && (zipB samR S.rg T.rg && ((S.now == T.now) && ((S.rds == T.rds) && (S.en == T.en)))))) := rfl
 have HC1 := Lib.hid (fun q (hq : Below w.heap.size w q) => eqfTh S.th T.th A A' c c' q (h1.later hq) (k1.later hq))
 have HC2 := Lib.hid (fun q (hq : Below w.heap.size w q) => eqfRg S.rg T.rg B B' d d' q (h2.later hq) (k2.later hq))
 generalize samS S T = sam at *
 obtain ⟨th, rg, now, rds, en⟩ := S
 obtain ⟨th', rg', now', rds', en'⟩ := T
 dsimp only at *
 have HB : Hid (Below w.heap.size w ((w.alloc (.cells (stC (.slice A th.length c) (.slice B rg.length d) now rds en) 26)).alloc (.cells (stC (.slice A' th'.length c') (.slice B' rg'.length d') now' rds' en') 26))) := ((Below.refl _ _).alloc (Nat.le_refl _) _).alloc (by simp) _
 have l0 := (Lies.made w 26 (stC (.slice A th.length c) (.slice B rg.length d) now rds en)).alloc (.cells (stC (.slice A' th'.length c') (.slice B' rg'.length d') now' rds' en') 26)
 have l1 := Lies.made (w.alloc (.cells (stC (.slice A th.length c) (.slice B rg.length d) now rds en) 26)) 26 (stC (.slice A' th'.length c') (.slice B' rg'.length d') now' rds' en')
 rw [World.size_alloc] at l1
 have HL0 := Lib.hid l0
 have HL1 := Lib.hid l1
 clear l0 l1 h1 h2 k1 k2
 obtain ⟨b1, hb1⟩ : ∃ b, zipB samT th th' = b := ⟨_, rfl⟩
 obtain ⟨b2, hb2⟩ : ∃ b, zipB samR rg rg' = b := ⟨_, rfl⟩
 obtain ⟨b3, hb3⟩ : ∃ b, (now == now') = b := ⟨_, rfl⟩
 obtain ⟨b4, hb4⟩ : ∃ b, (rds == rds') = b := ⟨_, rfl⟩
 obtain ⟨b5, hb5⟩ : ∃ b, (en == en') = b := ⟨_, rfl⟩
 have ib3 : ((now : Int) == (now' : Int)) = b3 := by rw [← hb3, intEqN]
 have ib4 : ((rds : Int) == (rds' : Int)) = b4 := by rw [← hb4, intEqN]
 rw [hb1, hb2, hb3, hb4, hb5] at HD
 rw [hb1] at HC1
 rw [hb2] at HC2
 clear hb1 hb2 hb3 hb4
 go_enter Try.func8, Try.ntmps8
 go_upto_region 1 with (fail)
 generalize (w.alloc (.cells (stC (.slice A th.length c) (.slice B rg.length d) now rds en) 26)).alloc (.cells (stC (.slice A' th'.length c') (.slice B' rg'.length d') now' rds' en') 26) = w1 at *
 have u0 := (HL0.out.cell 0).trans (show _ = some (Value.slice A th.length c) from rfl)
 have ul := HL0.out.lt
 have v0 := (HL1.out.cell 0).trans (show _ = some (Value.slice A' th'.length c') from rfl)
 have vl := HL1.out.lt
 go_wp2_with fail
 refine (HC1.out _ HB.out).mono ?_
 rintro e w2 ⟨rfl, hb⟩
 replace HB := Lib.hid (HB.out.trans (hb.mono HB.out.size))
 replace HL0 := Lib.hid (HL0.out.below hb HL0.out.lt)
 replace HL1 := Lib.hid (HL1.out.below hb HL1.out.lt)
 clear hb HC1 u0 ul v0 vl
 have HE := HD.out
 have u1 := (HL0.out.cell 1).trans (show _ = some (Value.slice B rg.length d) from rfl)
 have ul := HL0.out.lt
 have v1 := (HL1.out.cell 1).trans (show _ = some (Value.slice B' rg'.length d') from rfl)
 have vl := HL1.out.lt
 cases b1
 ·simp only [Bool.false_and] at HE
  have HE2 := Lib.hid HE
  clear HE HD
  go_wp2_with fail
  go_ret
  exact ⟨ret_bool HE2.out.symm, HB.out⟩
 ·clear HE
  go_wp2_with fail
  refine (HC2.out _ HB.out).mono ?_
  rintro e w3 ⟨rfl, hb⟩
  replace HB := Lib.hid (HB.out.trans (hb.mono HB.out.size))
  replace HL0 := Lib.hid (HL0.out.below hb HL0.out.lt)
  replace HL1 := Lib.hid (HL1.out.below hb HL1.out.lt)
  clear hb HC2 u1 ul v1 vl
  have u2 := (HL0.out.cell 2).trans (show _ = some (Value.int .u64 (now : Int)) from rfl)
  have u3 := (HL0.out.cell 3).trans (show _ = some (Value.int .u64 (rds : Int)) from rfl)
  have u4 := (HL0.out.cell 4).trans (show _ = some (Value.bool en) from rfl)
  have ul := HL0.out.lt
  have v2 := (HL1.out.cell 2).trans (show _ = some (Value.int .u64 (now' : Int)) from rfl)
  have v3 := (HL1.out.cell 3).trans (show _ = some (Value.int .u64 (rds' : Int)) from rfl)
  have v4 := (HL1.out.cell 4).trans (show _ = some (Value.bool en') from rfl)
  have vl := HL1.out.lt
  clear HL0 HL1
  have hc : (b2 = false) ∨ (b2 = true ∧ b3 = false) ∨ (b2 = true ∧ b3 = true ∧ b4 = false) ∨ (b2 = true ∧ b3 = true ∧ b4 = true) := by cases b2 <;> cases b3 <;> cases b4 <;> simp
  rcases hc with rfl | ⟨rfl, rfl⟩ | ⟨rfl, rfl, rfl⟩ | ⟨rfl, rfl, rfl⟩
  all_goals
   have HE := HD.out
   simp only [Bool.true_and, Bool.false_and] at HE
   have HE2 := Lib.hid HE
   clear HE HD
   go_wp2_with fail
   go_ret
   exact ⟨ret_bool HE2.out.symm, HB.out⟩
theorem SeqAt.at64 {w : World} {A : Option Addr} {n c i : Nat} {l : List Nat} {x : Nat} (h : SeqS w 1 (.slice A n c) n (cells64 l)) (hx : l[i]? = some x) : ∃ b o, A = some ⟨b, o, none⟩ ∧ b < w.heap.size ∧ w.cell? ⟨b, o + i, none⟩ = some (.int .u64 (x : Int)) := by
 obtain ⟨h1, A', c', e, h2, h3, _, h4⟩ := h
 simp only [Value.slice.injEq, true_and] at e
 obtain ⟨rfl, rfl⟩ := e
 obtain ⟨b, o, e, h5⟩ := h4 i _ (show (cells64 l)[i]? = some (.int .u64 (x : Int)) by unfold cells64; rw [List.getElem?_map, hx]; rfl)
 exact ⟨b, o, e, World.block_lt_of_cell? _ _ h5, h5⟩
set_option maxHeartbeats 8000000 in
set_option maxRecDepth 100000 in
theorem rf13Same (x y : Rs) (A : Option Addr) (c : Nat) (B : Option Addr) (d : Nat) (A2 : Option Addr) (c2 : Nat) (B2 : Option Addr) (d2 : Nat) (w : World) (h : SeqS w 1 (.slice A x.hs.length c) x.hs.length (cells64 x.hs)) (k : SeqS w 1 (.slice B y.hs.length d) y.hs.length (cells64 y.hs))
  (h2 : SeqS w 3 (.slice A2 x.sl.length c2) x.sl.length (rowsOf slF x.sl)) (k2 : SeqS w 3 (.slice B2 y.sl.length d2) y.sl.length (rowsOf slF y.sl)) :
  Calls Try.prog 40 #[.agg (rgC2 x.tl (.slice A x.hs.length c) x.cl (.slice A2 x.sl.length c2)), .agg (rgC2 y.tl (.slice B y.hs.length d) y.cl (.slice B2 y.sl.length d2))] w fun e w' => e = .returned (.bool (samR x y)) ∧ Below w.heap.size w w' := by
 have hb := (((Below.refl w.heap.size w).alloc (Nat.le_refl _) (.cells (rgC2 x.tl (.slice A x.hs.length c) x.cl (.slice A2 x.sl.length c2)) 54))).alloc (by simp) (.cells (rgC2 y.tl (.slice B y.hs.length d) y.cl (.slice B2 y.sl.length d2)) 54)
 have HB := Lib.hid hb
 have l0 := (Lies.made w 54 (rgC2 x.tl (.slice A x.hs.length c) x.cl (.slice A2 x.sl.length c2))).alloc (.cells (rgC2 y.tl (.slice B y.hs.length d) y.cl (.slice B2 y.sl.length d2)) 54)
 have l1 := Lies.made (w.alloc (.cells (rgC2 x.tl (.slice A x.hs.length c) x.cl (.slice A2 x.sl.length c2)) 54)) 54 (rgC2 y.tl (.slice B y.hs.length d) y.cl (.slice B2 y.sl.length d2))
 rw [World.size_alloc] at l1
 have HL0 := Lib.hid l0
 have HL1 := Lib.hid l1
 have HH := Lib.hid (fun q (hq : Below w.heap.size w q) => h.later hq)
 have HK := Lib.hid (fun q (hq : Below w.heap.size w q) => k.later hq)
 have HC2 := Lib.hid (fun q (hq : Below w.heap.size w q) => ref12Same _ _ x.sl y.sl _ _ q (h2.later hq) (k2.later hq))
 have HD : Hid (samR x y = ((x.tl == y.tl) && (decide (x.hs = y.hs) && ((x.cl == y.cl) && decide (x.sl = y.sl))))) := rfl
 obtain ⟨hc1, hc2⟩ : x.hs.length ≤ c ∧ c ≤ 9223372036854775807 := by
  obtain ⟨_, _, e, k1, k3, _⟩ := h.form
  simp only [Value.slice.injEq] at e
  unfold maxLen at k3
  omega
 obtain ⟨hd1, hd2⟩ : y.hs.length ≤ d ∧ d ≤ 9223372036854775807 := by
  obtain ⟨_, _, e, k1, k3, _⟩ := k.form
  simp only [Value.slice.injEq] at e
  unfold maxLen at k3
  omega
 clear hb h k h2 k2 l0 l1
 obtain ⟨b1, hb1⟩ : ∃ b, (x.tl == y.tl) = b := ⟨_, rfl⟩
 obtain ⟨b2, hb2⟩ : ∃ b, decide (x.hs = y.hs) = b := ⟨_, rfl⟩
 obtain ⟨b3, hb3⟩ : ∃ b, (x.cl == y.cl) = b := ⟨_, rfl⟩
 obtain ⟨b4, hb4⟩ : ∃ b, decide (x.sl = y.sl) = b := ⟨_, rfl⟩
 obtain ⟨b5, hb5⟩ : ∃ b, (x.hs.length == y.hs.length) = b := ⟨_, rfl⟩
 have ib1 : ((x.tl : Int) != (y.tl : Int)) = !b1 := by rw [← hb1, ← intEqN]; rfl
 have ib3 := hb3
 have ib5 : ((x.hs.length : Int) != (y.hs.length : Int)) = !b5 := by rw [← hb5, ← intEqN]; rfl
 have in1 : (x.tl != y.tl) = !b1 := by rw [← hb1]; rfl
 have in5 : (x.hs.length != y.hs.length) = !b5 := by rw [← hb5]; rfl
 rw [hb1, hb2, hb3, hb4] at HD
 rw [hb4] at HC2
 have H2 := Lib.hid hb2
 have H5 := Lib.hid hb5
 clear hb1 hb2 hb3 hb4 hb5
 go_enter Try.func40, Try.ntmps40
 go_upto_region 1 with (fail)
 generalize (w.alloc (.cells (rgC2 x.tl (.slice A x.hs.length c) x.cl (.slice A2 x.sl.length c2)) 54)).alloc (.cells (rgC2 y.tl (.slice B y.hs.length d) y.cl (.slice B2 y.sl.length d2)) 54) = w1 at *
 have u0 := (HL0.out.cell 0).trans (show _ = some (Value.int .u64 (x.tl : Int)) from rfl)
 have u1 := (HL0.out.cell 1).trans (show _ = some (Value.slice A x.hs.length c) from rfl)
 have u2 := (HL0.out.cell 2).trans (show _ = some (Value.bool x.cl) from rfl)
 have u3 := (HL0.out.cell 3).trans (show _ = some (Value.slice A2 x.sl.length c2) from rfl)
 have ul := HL0.out.lt
 have v0 := (HL1.out.cell 0).trans (show _ = some (Value.int .u64 (y.tl : Int)) from rfl)
 have v1 := (HL1.out.cell 1).trans (show _ = some (Value.slice B y.hs.length d) from rfl)
 have v2 := (HL1.out.cell 2).trans (show _ = some (Value.bool y.cl) from rfl)
 have v3 := (HL1.out.cell 3).trans (show _ = some (Value.slice B2 y.sl.length d2) from rfl)
 have vl := HL1.out.lt
 have hc : (b1 = false) ∨ (b1 = true ∧ b3 = false) ∨ (b1 = true ∧ b3 = true ∧ b5 = false) ∨ (b1 = true ∧ b3 = true ∧ b5 = true) := by cases b1 <;> cases b3 <;> cases b5 <;> simp
 rcases hc with rfl | ⟨rfl, rfl⟩ | ⟨rfl, rfl, rfl⟩ | ⟨rfl, rfl, rfl⟩ <;> simp only [Bool.not_false, Bool.not_true] at ib1 ib3 ib5 in1 in5
 ·have HE := HD.out
  simp only [Bool.false_and] at HE
  have HE2 := Lib.hid HE
  clear HE HD
  go_wp2_with fail
  go_ret
  exact ⟨ret_bool HE2.out.symm, HB.out⟩
 ·have HE := HD.out
  simp only [Bool.false_and, Bool.true_and, Bool.and_false] at HE
  have HE2 := Lib.hid HE
  clear HE HD
  go_wp2_with fail
  go_ret
  exact ⟨ret_bool HE2.out.symm, HB.out⟩
 ·have hne : b2 = false := by
   rw [← H2.out, decide_eq_false_iff_not]
   intro e
   have := H5.out
   rw [e] at this
   simp at this
  have HE := HD.out
  rw [hne] at HE
  simp only [Bool.false_and, Bool.true_and, Bool.and_false] at HE
  have HE2 := Lib.hid HE
  clear HE HD hne
  go_wp2_with fail
  go_ret
  exact ⟨ret_bool HE2.out.symm, HB.out⟩
 ·have hlen : x.hs.length = y.hs.length := by have := H5.out; rwa [beq_iff_eq] at this
  have HLEN := Lib.hid hlen
  clear hlen
  go_wp2_with fail
  refine (HC2.out _ HB.out).mono ?_
  rintro e w2 ⟨rfl, n, hw2⟩
  replace HB : Hid (Below w.heap.size w w2) := by rw [hw2]; exact below_drewN HB.out n
  replace HL0 : Hid (Lies w2 w.heap.size 54 (rgC2 x.tl (.slice A x.hs.length c) x.cl (.slice A2 x.sl.length c2))) := by rw [hw2]; exact HL0.out.drewN n
  replace HL1 : Hid (Lies w2 (w.heap.size + 1) 54 (rgC2 y.tl (.slice B y.hs.length d) y.cl (.slice B2 y.sl.length d2))) := by rw [hw2]; exact HL1.out.drewN n
  clear hw2 u0 u1 u2 u3 ul v0 v1 v2 v3 vl HC2
  cases b4
  ·have HE := HD.out
   simp only [Bool.true_and, Bool.and_false] at HE
   have HE2 := Lib.hid HE
   clear HE HD
   go_wp2_with fail
   go_ret
   exact ⟨ret_bool HE2.out.symm, HB.out⟩
  ·have HE := HD.out
   simp only [Bool.true_and, Bool.and_true] at HE
   have HE2 := Lib.hid HE
   clear HE HD
   go_wp2_with fail
   go_loopw [5] (fun u wr => ∃ i n : Nat, i ≤ x.hs.length ∧ u = .int .i64 i ∧ wr = w2.drewN n ∧ Hid (x.hs.take i = y.hs.take i)) (fun u _ => x.hs.length - (intOf u).toNat)
   case atStart => exact ⟨0, 0, by omega, rfl, rfl, rfl⟩
   case round =>
    obtain ⟨i, n, hi, rfl, hwr, HT⟩ := hrel
    have l0 := HL0.out.drewN n
    have l1 := HL1.out.drewN n
    rw [← hwr] at l0 l1
    have u1 := (l0.cell 1).trans (show _ = some (Value.slice A x.hs.length c) from rfl)
    have v1 := (l1.cell 1).trans (show _ = some (Value.slice B y.hs.length d) from rfl)
    have hb : Below w.heap.size w wr := by rw [hwr]; exact below_drewN HB.out n
    have HW := Lib.hid hwr
    have ul := l0.lt
    have vl := l1.lt
    clear hwr l0 l1
    by_cases hlt : i < x.hs.length
    ·have hi1 : (i : Int) < (x.hs.length : Int) := by omega
     have hi2 : (i : Int) < (y.hs.length : Int) := by have := HLEN.out; omega
     obtain ⟨p, hp⟩ : ∃ p, x.hs[i]? = some p := ⟨_, List.getElem?_eq_getElem hlt⟩
     obtain ⟨r, hr⟩ : ∃ r, y.hs[i]? = some r := ⟨_, List.getElem?_eq_getElem (by have := HLEN.out; omega)⟩
     obtain ⟨p1, o1, rfl, g1, g2⟩ := SeqAt.at64 (HH.out wr hb) hp
     obtain ⟨p2, o2, rfl, g3, g4⟩ := SeqAt.at64 (HK.out wr hb) hr
     have HP := Lib.hid hp
     have HR := Lib.hid hr
     have HBR := Lib.hid hb
     clear hp hr hb
     by_cases hpr : p = r
     ·subst hpr
      have HT2 : Hid (x.hs.take (i + 1) = y.hs.take (i + 1)) := by
       unfold Hid
       rw [List.take_add_one, List.take_add_one, HT.out, HP.out, HR.out]
      go_wp2_with fail
      go_quiet (fail)
      go_wp2_with fail
      go_roundw
      case rel => exact ⟨i + 1, n + nq, by omega, by go_num, by rw [HW.out, World.drewN_drewN], HT2⟩
      case measure => simp [intOf]; omega
     ·have q2 : ((p : Int) != (r : Int)) = true := by simp; omega
      have HF : Hid (b2 = false) := by
       unfold Hid
       rw [← H2.out, decide_eq_false_iff_not]
       intro e
       have h1 := HP.out
       rw [e, HR.out] at h1
       exact hpr (Option.some.inj h1).symm
      clear hpr
      go_wp2_with fail
      go_quiet (fail)
      have HBE := Lib.hid (below_drewN HBR.out nq)
      go_wp2_with fail
      go_ret
      exact ⟨ret_bool (by rw [HE2.out, HF.out]), HBE.out⟩
    ·obtain rfl : i = x.hs.length := by omega
     have HF : Hid (b2 = true) := by
      unfold Hid
      have h := HT.out
      rw [List.take_of_length_le (Nat.le_refl _), List.take_of_length_le (by rw [HLEN.out]; exact Nat.le_refl _)] at h
      rw [← H2.out, decide_eq_true h]
     have HBR := Lib.hid hb
     clear hb
     go_wp2_with fail
     go_ret
     exact ⟨ret_bool (by rw [HE2.out, HF.out]), HBR.out⟩
structure SmS2 (w : World) (c1 c2 : Array Value) (q : World) : Prop where
 bel : Below w.heap.size w q
 b1 : Lies q w.heap.size 26 c1
 b2 : Lies q (w.heap.size + 1) 26 c2
theorem SmS2.later {w q q1 : World} {c1 c2 : Array Value} (h : SmS2 w c1 c2 q) (k : Below q.heap.size q q1) : SmS2 w c1 c2 q1 := ⟨h.bel.trans (k.mono h.bel.size), h.b1.below k h.b1.lt, h.b2.below k h.b2.lt⟩
set_option maxHeartbeats 8000000 in
set_option maxRecDepth 100000 in
theorem refSameG (S T : Sta) (A B A' B' : Option Addr) (c d c' d' : Nat) (w : World) (h1 : ThsR w (.slice A S.th.length c) S.th) (h2 : RgsR w (.slice B S.rg.length d) S.rg) (k1 : ThsR w (.slice A' T.th.length c') T.th) (k2 : RgsR w (.slice B' T.rg.length d') T.rg) :
  Calls Try.prog 24 #[.agg (stC (.slice A S.th.length c) (.slice B S.rg.length d) S.now S.rds S.en), .agg (stC (.slice A' T.th.length c') (.slice B' T.rg.length d') T.now T.rds T.en)] w fun e w' => e = .returned (.bool (samS S T)) ∧ Below w.heap.size w w' := by
 have HD : Hid (samS S T = (zipB samT S.th T.th && (zipB samR S.rg T.rg && ((S.now == T.now) && ((S.rds == T.rds) && (S.en == T.en)))))) := rfl
 have H1 := Lib.hid h1
 have H2 := Lib.hid h2
 have K1 := Lib.hid k1
 have K2 := Lib.hid k2
 obtain ⟨p1, p2⟩ := h1.caps
 obtain ⟨p3, p4⟩ := h2.caps
 obtain ⟨p5, p6⟩ := k1.caps
 obtain ⟨p7, p8⟩ := k2.caps
 clear h1 h2 k1 k2
 generalize samS S T = sam at *
 obtain ⟨th, rg, now, rds, en⟩ := S
 obtain ⟨th', rg', now', rds', en'⟩ := T
 dsimp only at *
 have HB : Hid (Below w.heap.size w ((w.alloc (.cells (stC (.slice A th.length c) (.slice B rg.length d) now rds en) 26)).alloc (.cells (stC (.slice A' th'.length c') (.slice B' rg'.length d') now' rds' en') 26))) := ((Below.refl _ _).alloc (Nat.le_refl _) _).alloc (by simp) _
 have l0 := (Lies.made w 26 (stC (.slice A th.length c) (.slice B rg.length d) now rds en)).alloc (.cells (stC (.slice A' th'.length c') (.slice B' rg'.length d') now' rds' en') 26)
 have l1 := Lies.made (w.alloc (.cells (stC (.slice A th.length c) (.slice B rg.length d) now rds en) 26)) 26 (stC (.slice A' th'.length c') (.slice B' rg'.length d') now' rds' en')
 rw [World.size_alloc] at l1
 have HI : Hid (SmS2 w (stC (.slice A th.length c) (.slice B rg.length d) now rds en) (stC (.slice A' th'.length c') (.slice B' rg'.length d') now' rds' en') _) := ⟨HB.out, l0, l1⟩
 clear l0 l1
 obtain ⟨b1, hb1⟩ : ∃ b, (th.length == th'.length) = b := ⟨_, rfl⟩
 obtain ⟨b2, hb2⟩ : ∃ b, (rg.length == rg'.length) = b := ⟨_, rfl⟩
 obtain ⟨b3, hb3⟩ : ∃ b, (now == now') = b := ⟨_, rfl⟩
 obtain ⟨b4, hb4⟩ : ∃ b, (rds == rds') = b := ⟨_, rfl⟩
 obtain ⟨b5, hb5⟩ : ∃ b, (en == en') = b := ⟨_, rfl⟩
 have ib1 : ((th.length : Int) != (th'.length : Int)) = !b1 := by rw [← hb1, ← intEqN]; rfl
 have ib2 : ((rg.length : Int) != (rg'.length : Int)) = !b2 := by rw [← hb2, ← intEqN]; rfl
 have ib3 : ((now : Int) != (now' : Int)) = !b3 := by rw [← hb3, ← intEqN]; rfl
 have ib4 : ((rds : Int) != (rds' : Int)) = !b4 := by rw [← hb4, ← intEqN]; rfl
 have HF1 : Hid (b1 = false → zipB samT th th' = false) := fun e => zipB_len (by intro e2; rw [e2, e] at hb1; simp at hb1)
 have HF2 : Hid (b2 = false → zipB samR rg rg' = false) := fun e => zipB_len (by intro e2; rw [e2, e] at hb2; simp at hb2)
 have HN1 : Hid (b1 = true → th.length = th'.length) := fun e => by rw [e, beq_iff_eq] at hb1; exact hb1
 have HN2 : Hid (b2 = true → rg.length = rg'.length) := fun e => by rw [e, beq_iff_eq] at hb2; exact hb2
 rw [hb3, hb4, hb5] at HD
 clear hb1 hb2 hb3 hb4
 go_enter Try.func24, Try.ntmps24
 go_upto_region 1 with (fail)
 generalize (w.alloc (.cells (stC (.slice A th.length c) (.slice B rg.length d) now rds en) 26)).alloc (.cells (stC (.slice A' th'.length c') (.slice B' rg'.length d') now' rds' en') 26) = w1 at *
 have x0 := (HI.out.b1.cell 0).trans (show _ = some (Value.slice A th.length c) from rfl)
 have x1 := (HI.out.b1.cell 1).trans (show _ = some (Value.slice B rg.length d) from rfl)
 have x2 := (HI.out.b1.cell 2).trans (show _ = some (Value.int .u64 (now : Int)) from rfl)
 have x3 := (HI.out.b1.cell 3).trans (show _ = some (Value.int .u64 (rds : Int)) from rfl)
 have x4 := (HI.out.b1.cell 4).trans (show _ = some (Value.bool en) from rfl)
 have xl := HI.out.b1.lt
 have y0 := (HI.out.b2.cell 0).trans (show _ = some (Value.slice A' th'.length c') from rfl)
 have y1 := (HI.out.b2.cell 1).trans (show _ = some (Value.slice B' rg'.length d') from rfl)
 have y2 := (HI.out.b2.cell 2).trans (show _ = some (Value.int .u64 (now' : Int)) from rfl)
 have y3 := (HI.out.b2.cell 3).trans (show _ = some (Value.int .u64 (rds' : Int)) from rfl)
 have y4 := (HI.out.b2.cell 4).trans (show _ = some (Value.bool en') from rfl)
 have yl := HI.out.b2.lt
 have hc : (b1 = false) ∨ (b1 = true ∧ b2 = false) ∨ (b1 = true ∧ b2 = true ∧ b3 = false) ∨ (b1 = true ∧ b2 = true ∧ b3 = true ∧ b4 = false) ∨ (b1 = true ∧ b2 = true ∧ b3 = true ∧ b4 = true ∧ b5 = false) ∨ (b1 = true ∧ b2 = true ∧ b3 = true ∧ b4 = true ∧ b5 = true) := by cases b1 <;> cases b2 <;> cases b3 <;> cases b4 <;> cases b5 <;> simp
 rcases hc with rfl | ⟨rfl, rfl⟩ | ⟨rfl, rfl, rfl⟩ | ⟨rfl, rfl, rfl, rfl⟩ | ⟨rfl, rfl, rfl, rfl, rfl⟩ | ⟨rfl, rfl, rfl, rfl, rfl⟩ <;> simp only [Bool.not_false, Bool.not_true] at ib1 ib2 ib3 ib4
 ·have HE2 := Lib.hid (show sam = false by have := HD.out; rw [HF1.out rfl] at this; simpa using this)
  clear HD HF1 HF2
  go_wp2_with fail
  go_ret
  exact ⟨ret_bool HE2.out.symm, HB.out⟩
 ·have HE2 := Lib.hid (show sam = false by have := HD.out; rw [HF2.out rfl] at this; simpa using this)
  clear HD HF1 HF2
  go_wp2_with fail
  go_ret
  exact ⟨ret_bool HE2.out.symm, HB.out⟩
 ·have HE2 := Lib.hid (show sam = false by have := HD.out; simpa using this)
  clear HD HF1 HF2
  go_wp2_with fail
  go_ret
  exact ⟨ret_bool HE2.out.symm, HB.out⟩
 ·have HE2 := Lib.hid (show sam = false by have := HD.out; simpa using this)
  clear HD HF1 HF2
  go_wp2_with fail
  go_ret
  exact ⟨ret_bool HE2.out.symm, HB.out⟩
 ·have HE2 := Lib.hid (show sam = false by have := HD.out; simpa using this)
  clear HD HF1 HF2
  go_wp2_with fail
  go_ret
  exact ⟨ret_bool HE2.out.symm, HB.out⟩
 ·have HE2 := Lib.hid (show sam = (zipB samT th th' && zipB samR rg rg') by have := HD.out; simpa using this)
  have HN : Hid (th.length = th'.length ∧ rg.length = rg'.length) := ⟨HN1.out rfl, HN2.out rfl⟩
  clear HD HF1 HF2 HN1 HN2 HB
  go_wp2_with fail
  clear x0 x1 x2 x3 x4 xl y0 y1 y2 y3 y4 yl ib1 ib2 ib3 ib4
  go_loopw [5] (fun u wr => ∃ i : Nat, i ≤ th.length ∧ u = .int .i64 i ∧ Hid (∀ (j : Nat) (x y : Th), j < i → th[j]? = some x → th'[j]? = some y → samT x y = true) ∧ Hid (SmS2 w (stC (.slice A th.length c) (.slice B rg.length d) now rds en) (stC (.slice A' th'.length c') (.slice B' rg'.length d') now' rds' en') wr)) (fun u _ => th.length - (intOf u).toNat)
  case atStart => exact ⟨0, by omega, rfl, (fun j _ _ hj => by omega), HI⟩
  case round =>
   clear HI
   obtain ⟨i, hi, rfl, HA, HI⟩ := hrel
   have x0 := (HI.out.b1.cell 0).trans (show _ = some (Value.slice A th.length c) from rfl)
   have xl := HI.out.b1.lt
   by_cases hlt : i < th.length
   ·have hi1 : (i : Int) < (th.length : Int) := by omega
    have hi2 : (i : Int) < (th'.length : Int) := by have := HN.out; omega
    obtain ⟨x, hx⟩ : ∃ x, th[i]? = some x := ⟨_, List.getElem?_eq_getElem hlt⟩
    obtain ⟨y, hy⟩ : ∃ y, th'[i]? = some y := ⟨_, List.getElem?_eq_getElem (by have := HN.out; omega)⟩
    have hbd := (Below.refl wr.heap.size wr).drew
    have HI5 := Lib.hid (HI.out.later hbd)
    obtain ⟨T1, o1, S1, d1, rfl, hld1, ht1, hs1⟩ := pairs_at (H1.out.later HI5.out.bel) hx
    obtain ⟨T2, o2, S2, d2, rfl, hld2, ht2, hs2⟩ := pairs_at (K1.out.later HI5.out.bel) hy
    have HX := Lib.hid hx
    have HY := Lib.hid hy
    have HSM := Lib.hid (rfThSame x y S1 d1 S2 d2 wr.drew hs1 hs2)
    clear hx hy hs1 hs2 hbd
    go_upto_region 6 with (fail)
    clear x0 xl
    have x0 := (HI5.out.b1.cell 0).trans (show _ = some (Value.slice (some ⟨T1, o1, none⟩) th.length c) from rfl)
    have xl := HI5.out.b1.lt
    have y0 := (HI5.out.b2.cell 0).trans (show _ = some (Value.slice (some ⟨T2, o2, none⟩) th'.length c') from rfl)
    have yl := HI5.out.b2.lt
    clear HI
    refine wp_region_still_tail 10 (by kernel_rfl) (by kernel_rfl) ?_
    simp only [List.take_succ_cons, List.take_zero, List.drop_succ_cons, List.drop_zero]
    change wpStill _ _ wr.drew (fun a' => wpList _ _ _ _ a' wr.drew) _ _
    generalize wr.drew = w5 at *
    iterate 4 still_step
    refine wpStill_step (fun K hK => ?_)
    rw [if_pos (by kernel_rfl)]
    refine still_loadM _ _ rfl _ _ rfl _ hld1 (hK _ ?_)
    clear hK K
    iterate 4 still_step
    refine wpStill_step (fun K hK => ?_)
    rw [if_pos (by kernel_rfl)]
    refine still_loadM _ _ rfl _ _ rfl _ hld2 (hK _ ?_)
    clear hK K
    refine wpStill_nil ?_
    clear hld1 hld2 x0 xl y0 yl ht1 ht2
    go_wp2_with fail
    refine HSM.out.mono ?_
    rintro e w6 ⟨rfl, hb6⟩
    have HI6 := Lib.hid (HI5.out.later hb6)
    clear hb6 HI5 HSM
    cases hs : samT x y
    ·have HF := Lib.hid (zipB_no HX.out HY.out hs)
     clear hs
     go_wp2_with fail
     go_ret
     exact ⟨ret_bool (by rw [HE2.out, HF.out]; rfl), HI6.out.bel⟩
    ·have HA2 : Hid (∀ (j : Nat) (x y : Th), j < i + 1 → th[j]? = some x → th'[j]? = some y → samT x y = true) := fun j x' y' hj h1 h2 => by
      by_cases e : j < i
      ·exact HA.out j x' y' e h1 h2
      ·obtain rfl : j = i := by omega
       rw [HX.out] at h1
       rw [HY.out] at h2
       simp only [Option.some.injEq] at h1 h2
       subst h1 h2
       exact hs
     clear hs
     go_wp2_with fail
     go_roundw
     case rel => exact ⟨i + 1, by omega, by go_num, HA2, HI6⟩
     case measure => simp [intOf]; omega
   ·obtain rfl : i = th.length := by omega
    have HZ := Lib.hid (zipB_yes HN.out.1 HA.out)
    go_wp2_with fail
    clear x0 xl HA
    go_loopw [6] (fun u wr => ∃ i : Nat, i ≤ rg.length ∧ u = .int .i64 i ∧ Hid (∀ (j : Nat) (x y : Rs), j < i → rg[j]? = some x → rg'[j]? = some y → samR x y = true) ∧ Hid (SmS2 w (stC (.slice A th.length c) (.slice B rg.length d) now rds en) (stC (.slice A' th'.length c') (.slice B' rg'.length d') now' rds' en') wr)) (fun u _ => rg.length - (intOf u).toNat)
    case atStart => exact ⟨0, by omega, rfl, (fun j _ _ hj => by omega), HI⟩
    case round =>
     clear HI
     obtain ⟨i, hi, rfl, HA, HI⟩ := hrel
     have x0 := (HI.out.b1.cell 1).trans (show _ = some (Value.slice B rg.length d) from rfl)
     have xl := HI.out.b1.lt
     by_cases hlt : i < rg.length
     ·have hi1 : (i : Int) < (rg.length : Int) := by omega
      have hi2 : (i : Int) < (rg'.length : Int) := by have := HN.out; omega
      obtain ⟨x, hx⟩ : ∃ x, rg[i]? = some x := ⟨_, List.getElem?_eq_getElem hlt⟩
      obtain ⟨y, hy⟩ : ∃ y, rg'[i]? = some y := ⟨_, List.getElem?_eq_getElem (by have := HN.out; omega)⟩
      have hbd := (Below.refl wr.heap.size wr).drew
      have HI5 := Lib.hid (HI.out.later hbd)
      obtain ⟨T1, o1, S1, d1, U1, e1, rfl, hld1, ht1, hs1, hv1⟩ := pairsR_at (H2.out.later HI5.out.bel) hx
      obtain ⟨T2, o2, S2, d2, U2, e2, rfl, hld2, ht2, hs2, hv2⟩ := pairsR_at (K2.out.later HI5.out.bel) hy
      have HX := Lib.hid hx
      have HY := Lib.hid hy
      have HSM := Lib.hid (rf13Same x y S1 d1 S2 d2 U1 e1 U2 e2 wr.drew hs1 hs2 hv1 hv2)
      clear hx hy hs1 hs2 hv1 hv2 hbd
      go_upto_region 11 with (fail)
      clear x0 xl
      have x0 := (HI5.out.b1.cell 1).trans (show _ = some (Value.slice (some ⟨T1, o1, none⟩) rg.length d) from rfl)
      have xl := HI5.out.b1.lt
      have y0 := (HI5.out.b2.cell 1).trans (show _ = some (Value.slice (some ⟨T2, o2, none⟩) rg'.length d') from rfl)
      have yl := HI5.out.b2.lt
      clear HI
      refine wp_region_still_tail 10 (by kernel_rfl) (by kernel_rfl) ?_
      simp only [List.take_succ_cons, List.take_zero, List.drop_succ_cons, List.drop_zero]
      change wpStill _ _ wr.drew (fun a' => wpList _ _ _ _ a' wr.drew) _ _
      generalize wr.drew = w5 at *
      iterate 4 still_step
      refine wpStill_step (fun K hK => ?_)
      rw [if_pos (by kernel_rfl)]
      refine still_loadM _ _ rfl _ _ rfl _ hld1 (hK _ ?_)
      clear hK K
      iterate 4 still_step
      refine wpStill_step (fun K hK => ?_)
      rw [if_pos (by kernel_rfl)]
      refine still_loadM _ _ rfl _ _ rfl _ hld2 (hK _ ?_)
      clear hK K
      refine wpStill_nil ?_
      clear hld1 hld2 x0 xl y0 yl ht1 ht2
      go_wp2_with fail
      refine HSM.out.mono ?_
      rintro e w6 ⟨rfl, hb6⟩
      have HI6 := Lib.hid (HI5.out.later hb6)
      clear hb6 HI5 HSM
      cases hs : samR x y
      ·have HF := Lib.hid (zipB_no HX.out HY.out hs)
       clear hs
       go_wp2_with fail
       go_ret
       exact ⟨ret_bool (by rw [HE2.out, HF.out, Bool.and_false]), HI6.out.bel⟩
      ·have HA2 : Hid (∀ (j : Nat) (x y : Rs), j < i + 1 → rg[j]? = some x → rg'[j]? = some y → samR x y = true) := fun j x' y' hj h1 h2 => by
        by_cases e : j < i
        ·exact HA.out j x' y' e h1 h2
        ·obtain rfl : j = i := by omega
         rw [HX.out] at h1
         rw [HY.out] at h2
         simp only [Option.some.injEq] at h1 h2
         subst h1 h2
         exact hs
       clear hs
       go_wp2_with fail
       go_roundw
       case rel => exact ⟨i + 1, by omega, by go_num, HA2, HI6⟩
       case measure => simp [intOf]; omega
     ·obtain rfl : i = rg.length := by omega
      have HZ2 := Lib.hid (zipB_yes HN.out.2 HA.out)
      go_wp2_with fail
      go_ret
      exact ⟨ret_bool (by rw [HE2.out, HZ.out, HZ2.out]; rfl), HI.out.bel⟩
def FewP (w : World) (e : Ending) (w' : World) : Prop := ∃ b, e = .returned (.bool b) ∧ Below w.heap.size w w'
set_option maxHeartbeats 4000000 in
set_option maxRecDepth 100000 in
theorem fewAny (S : Sta) (A B : Option Addr) (c d : Nat) (w : World) (h1 : ThsR w (.slice A S.th.length c) S.th) (h2 : RgsR w (.slice B S.rg.length d) S.rg) :
  Calls Try.prog 6 #[.agg (stC (.slice A S.th.length c) (.slice B S.rg.length d) S.now S.rds S.en)] w (FewP w) := by
 obtain ⟨p1, p2⟩ := h1.caps
 obtain ⟨p3, p4⟩ := h2.caps
 have HB : Hid (Below w.heap.size w (w.alloc (.cells (stC (.slice A S.th.length c) (.slice B S.rg.length d) S.now S.rds S.en) 26))) := (Below.refl _ _).alloc (Nat.le_refl _) _
 have H1 := Lib.hid (h1.later HB.out)
 have H2 := Lib.hid (h2.later HB.out)
 have HL := Lib.hid (Lies.made w 26 (stC (.slice A S.th.length c) (.slice B S.rg.length d) S.now S.rds S.en))
 clear h1 h2
 go_enter Try.func6, Try.ntmps6
 go_upto_region 1 with (fail)
 generalize w.alloc (.cells (stC (.slice A S.th.length c) (.slice B S.rg.length d) S.now S.rds S.en) 26) = w1 at *
 have u0 := (HL.out.cell 0).trans (show _ = some (Value.slice A S.th.length c) from rfl)
 have u1 := (HL.out.cell 1).trans (show _ = some (Value.slice B S.rg.length d) from rfl)
 have ul := HL.out.lt
 clear HL
 by_cases h10 : 10 < S.th.length
 ·have e0 : decide ((10 : Int) < (S.th.length : Int)) = true := decide_eq_true (by omega)
  go_wp2_with fail
  go_ret
  exact ⟨_, rfl, HB.out⟩
 have e0 : decide ((10 : Int) < (S.th.length : Int)) = false := decide_eq_false (by omega)
 by_cases h11 : 10 < S.rg.length
 ·have e1 : decide ((10 : Int) < (S.rg.length : Int)) = true := decide_eq_true (by omega)
  go_wp2_with fail
  go_ret
  exact ⟨_, rfl, HB.out⟩
 have e1 : decide ((10 : Int) < (S.rg.length : Int)) = false := decide_eq_false (by omega)
 go_wp2_with fail
 clear e0 e1 h10 h11
 go_loopw [3] (fun u wr => ∃ i : Nat, i ≤ S.th.length ∧ u = .int .i64 i ∧ wr = w1) (fun u _ => S.th.length - (intOf u).toNat)
 case atStart => exact ⟨0, by omega, rfl, rfl⟩
 case round =>
  obtain ⟨i, hi, rfl, rfl⟩ := hrel
  by_cases hlt : i < S.th.length
  ·have hi1 : (i : Int) < (S.th.length : Int) := by omega
   obtain ⟨x, hx⟩ : ∃ x, S.th[i]? = some x := ⟨_, List.getElem?_eq_getElem hlt⟩
   obtain ⟨T, o, Q, q, rfl, g1, g2, _, g3, g4⟩ := H1.out.at_ hx
   have c13 := g2 13 _ rfl
   clear g2 hx
   by_cases h : 100 < x.sn.length
   ·have e1 : decide ((100 : Int) < (x.sn.length : Int)) = true := decide_eq_true (by omega)
    go_wp2_with fail
    go_ret
    exact ⟨_, rfl, HB.out⟩
   ·have e1 : decide ((100 : Int) < (x.sn.length : Int)) = false := decide_eq_false (by omega)
    go_wp2_with fail
    go_roundw
    case rel => exact ⟨i + 1, by omega, by go_num, trivial⟩
    case measure => simp [intOf]; omega
  ·obtain rfl : i = S.th.length := by omega
   go_wp2_with fail
   go_loopw [4] (fun u wq => ∃ i : Nat, i ≤ S.rg.length ∧ u = .int .i64 i ∧ wq = wr) (fun u _ => S.rg.length - (intOf u).toNat)
   case atStart => exact ⟨0, by omega, rfl, rfl⟩
   case round =>
    obtain ⟨i, hi, rfl, rfl⟩ := hrel
    by_cases hlt : i < S.rg.length
    ·have hi1 : (i : Int) < (S.rg.length : Int) := by omega
     obtain ⟨x, hx⟩ : ∃ x, S.rg[i]? = some x := ⟨_, List.getElem?_eq_getElem hlt⟩
     obtain ⟨T, o, Q, q, Q2, q2, rfl, g1, g2, ⟨_, g3, g4⟩, _, g5, g6⟩ := H2.out.at_ hx
     have c13 := g2 1 _ rfl
     have c14 := g2 3 _ rfl
     clear g2 hx
     by_cases h : 20 < x.hs.length
     ·have e1 : decide ((20 : Int) < (x.hs.length : Int)) = true := decide_eq_true (by omega)
      go_wp2_with fail
      go_ret
      exact ⟨_, rfl, HB.out⟩
     have e1 : decide ((20 : Int) < (x.hs.length : Int)) = false := decide_eq_false (by omega)
     by_cases h' : 80 < x.sl.length
     ·have e2 : decide ((80 : Int) < (x.sl.length : Int)) = true := decide_eq_true (by omega)
      go_wp2_with fail
      go_ret
      exact ⟨_, rfl, HB.out⟩
     ·have e2 : decide ((80 : Int) < (x.sl.length : Int)) = false := decide_eq_false (by omega)
      go_wp2_with fail
      go_roundw
      case rel => exact ⟨i + 1, by omega, by go_num, trivial⟩
      case measure => simp [intOf]; omega
    ·obtain rfl : i = S.rg.length := by omega
     go_wp2_with fail
     go_ret
     exact ⟨_, rfl, HB.out⟩
set_option maxRecDepth 100000 in
theorem refSame22 (S T : Sta) (A B A' B' : Option Addr) (c d c' d' : Nat) (w : World) (h1 : ThsR w (.slice A S.th.length c) S.th) (h2 : RgsR w (.slice B S.rg.length d) S.rg) (k1 : ThsR w (.slice A' T.th.length c') T.th) (k2 : RgsR w (.slice B' T.rg.length d') T.rg) :
  Calls Try.prog 9 #[.agg (stC (.slice A S.th.length c) (.slice B S.rg.length d) S.now S.rds S.en), .agg (stC (.slice A' T.th.length c') (.slice B' T.rg.length d') T.now T.rds T.en)] w fun e w' => e = .returned (.bool (samS S T)) ∧ Below w.heap.size w w' := by
 have HB : Hid (Below w.heap.size w ((w.alloc (.cells (stC (.slice A S.th.length c) (.slice B S.rg.length d) S.now S.rds S.en) 26)).alloc (.cells (stC (.slice A' T.th.length c') (.slice B' T.rg.length d') T.now T.rds T.en) 26))) := ((Below.refl _ _).alloc (Nat.le_refl _) _).alloc (by simp) _
 have l0 := (Lies.made w 26 (stC (.slice A S.th.length c) (.slice B S.rg.length d) S.now S.rds S.en)).alloc (.cells (stC (.slice A' T.th.length c') (.slice B' T.rg.length d') T.now T.rds T.en) 26)
 have l1 := Lies.made (w.alloc (.cells (stC (.slice A S.th.length c) (.slice B S.rg.length d) S.now S.rds S.en) 26)) 26 (stC (.slice A' T.th.length c') (.slice B' T.rg.length d') T.now T.rds T.en)
 rw [World.size_alloc] at l1
 have HS := Lib.hid (refSameG S T A B A' B' c d c' d' _ (h1.later HB.out) (h2.later HB.out) (k1.later HB.out) (k2.later HB.out))
 have hld0 := st_loadL2 l0
 have hld1 := st_loadL2 l1
 clear l0 l1 h1 h2 k1 k2
 go_enter Try.func9, Try.ntmps9
 go_upto_region 1 with (fail)
 generalize (w.alloc (.cells (stC (.slice A S.th.length c) (.slice B S.rg.length d) S.now S.rds S.en) 26)).alloc (.cells (stC (.slice A' T.th.length c') (.slice B' T.rg.length d') T.now T.rds T.en) 26) = w1 at *
 refine wp_region_lit ?_
 refine wpList_load_known rfl _ _ rfl w.heap.size 0 rfl _ hld0 ?_
 refine wpList_load_known rfl _ _ rfl (w.heap.size + 1) 0 rfl _ hld1 ?_
 clear hld0 hld1
 go_wp2_with fail
 refine HS.out.mono ?_
 rintro e w2 ⟨rfl, hb2⟩
 have HB2 := Lib.hid (HB.out.trans (hb2.mono HB.out.size))
 clear hb2 HS HB
 go_wp2_with fail
 go_ret
 exact ⟨rfl, HB2.out⟩
structure Pr1S (W : World) (x y : Sb) (q : World) : Prop where
 bel : Below W.heap.size W q
 b1 : Lies q W.heap.size 26 (stC (.slice x.A x.S.th.length x.c) (.slice x.B x.S.rg.length x.d) x.S.now x.S.rds x.S.en)
 b2 : Lies q (W.heap.size + 1) 26 (stC (.slice y.A y.S.th.length y.c) (.slice y.B y.S.rg.length y.d) y.S.now y.S.rds y.S.en)
theorem Pr1S.later {W q q1 : World} {x y : Sb} (h : Pr1S W x y q) (k : Below q.heap.size q q1) : Pr1S W x y q1 := ⟨h.bel.trans (k.mono h.bel.size), h.b1.below k h.b1.lt, h.b2.below k h.b2.lt⟩
theorem Pr1S.cells {W q : World} {x y : Sb} (h : Pr1S W x y q) : (q.cell? ⟨W.heap.size, 0, none⟩ = some (.slice x.A x.S.th.length x.c) ∧ q.cell? ⟨W.heap.size, 1, none⟩ = some (.slice x.B x.S.rg.length x.d) ∧ q.cell? ⟨W.heap.size, 2, none⟩ = some (.int .u64 (x.S.now : Int)) ∧ q.cell? ⟨W.heap.size, 3, none⟩ = some (.int .u64 (x.S.rds : Int)) ∧ q.cell? ⟨W.heap.size, 4, none⟩ = some (.bool x.S.en) ∧ W.heap.size < q.heap.size) ∧
  (q.cell? ⟨W.heap.size + 1, 0, none⟩ = some (.slice y.A y.S.th.length y.c) ∧ q.cell? ⟨W.heap.size + 1, 1, none⟩ = some (.slice y.B y.S.rg.length y.d) ∧ q.cell? ⟨W.heap.size + 1, 2, none⟩ = some (.int .u64 (y.S.now : Int)) ∧ q.cell? ⟨W.heap.size + 1, 3, none⟩ = some (.int .u64 (y.S.rds : Int)) ∧ q.cell? ⟨W.heap.size + 1, 4, none⟩ = some (.bool y.S.en) ∧ W.heap.size + 1 < q.heap.size) :=
 ⟨⟨(h.b1.cell 0).trans rfl, (h.b1.cell 1).trans rfl, (h.b1.cell 2).trans rfl, (h.b1.cell 3).trans rfl, (h.b1.cell 4).trans rfl, h.b1.lt⟩, (h.b2.cell 0).trans rfl, (h.b2.cell 1).trans rfl, (h.b2.cell 2).trans rfl, (h.b2.cell 3).trans rfl, (h.b2.cell 4).trans rfl, h.b2.lt⟩
set_option maxHeartbeats 8000000 in
set_option maxRecDepth 100000 in
theorem prints_walk (x y : Sb) (W : World) (hx : SbAt W x) (hy : SbAt W y) :
  Calls Try.prog 3 #[.agg (stC (.slice x.A x.S.th.length x.c) (.slice x.B x.S.rg.length x.d) x.S.now x.S.rds x.S.en), .agg (stC (.slice y.A y.S.th.length y.c) (.slice y.B y.S.rg.length y.d) y.S.now y.S.rds y.S.en)] W fun e w' => e = .returned (.bool true) ∧ Below W.heap.size W w' := by
 have HA := Lib.hid awake_any
 obtain ⟨x1, x2, x3⟩ := hx
 obtain ⟨y1, y2, y3⟩ := hy
 have HB : Below W.heap.size W ((W.alloc (.cells (stC (.slice x.A x.S.th.length x.c) (.slice x.B x.S.rg.length x.d) x.S.now x.S.rds x.S.en) 26)).alloc (.cells (stC (.slice y.A y.S.th.length y.c) (.slice y.B y.S.rg.length y.d) y.S.now y.S.rds y.S.en) 26)) := ((Below.refl _ _).alloc (Nat.le_refl _) _).alloc (by simp) _
 have l0 := (Lies.made W 26 (stC (.slice x.A x.S.th.length x.c) (.slice x.B x.S.rg.length x.d) x.S.now x.S.rds x.S.en)).alloc (.cells (stC (.slice y.A y.S.th.length y.c) (.slice y.B y.S.rg.length y.d) y.S.now y.S.rds y.S.en) 26)
 have l1 := Lies.made (W.alloc (.cells (stC (.slice x.A x.S.th.length x.c) (.slice x.B x.S.rg.length x.d) x.S.now x.S.rds x.S.en) 26)) 26 (stC (.slice y.A y.S.th.length y.c) (.slice y.B y.S.rg.length y.d) y.S.now y.S.rds y.S.en)
 rw [World.size_alloc] at l1
 have HI : Hid (Pr1S W x y _) := ⟨HB, l0, l1⟩
 have HF1 := Lib.hid (fun q (hq : Below W.heap.size W q) => fewAny x.S x.A x.B x.c x.d q (x1.later hq) (x2.later hq))
 have HF2 := Lib.hid (fun q (hq : Below W.heap.size W q) => fewAny y.S y.A y.B y.c y.d q (y1.later hq) (y2.later hq))
 have HPR := Lib.hid (fun q (hq : Below W.heap.size W q) => snapPrint x.S x.A x.B x.c x.d q (x1.later hq) (x2.later hq) x3)
 have HS1 := Lib.hid (fun q (hq : Below W.heap.size W q) => snapSameG x.S y.S x.A x.B y.A y.B x.c x.d y.c y.d q (x1.later hq) (x2.later hq) (y1.later hq) (y2.later hq))
 have HS2 := Lib.hid (fun q (hq : Below W.heap.size W q) => refSame22 x.S y.S x.A x.B y.A y.B x.c x.d y.c y.d q (x1.later hq) (x2.later hq) (y1.later hq) (y2.later hq))
 have HS3 := Lib.hid (fun q (hq : Below W.heap.size W q) => (by
  have := snapSameG x.S x.S x.A x.B x.A x.B x.c x.d x.c x.d q (x1.later hq) (x2.later hq) (x1.later hq) (x2.later hq)
  rwa [samS_refl] at this : Calls Try.prog 8 #[.agg (stC (.slice x.A x.S.th.length x.c) (.slice x.B x.S.rg.length x.d) x.S.now x.S.rds x.S.en), .agg (stC (.slice x.A x.S.th.length x.c) (.slice x.B x.S.rg.length x.d) x.S.now x.S.rds x.S.en)] q fun e w' => e = .returned (.bool true) ∧ Below q.heap.size q w'))
 have HWR := Lib.hid (fun q (hq : Below W.heap.size W q) => refWritten x.S x.A x.B x.c x.d q (x1.later hq) (x2.later hq))
 have HPQ := Lib.hid (fun (he : encB x.S = true) q (hq : Below W.heap.size W q) => refPrintS x.S x.A x.B x.c x.d q (x1.later hq) (x2.later hq) x3 he)
 have HPS : Hid (encB x.S = false → prS x.S = { data := #[] } ∧ prE x.S = 1) := fun h => by unfold prS prE; rw [h]; exact ⟨rfl, rfl⟩
 have HPT : Hid (encB x.S = true → prS x.S = sN (stL x.S) ∧ prE x.S = 0) := fun h => by unfold prS prE; rw [h]; exact ⟨rfl, rfl⟩
 clear x1 x2 x3 y1 y2 y3 HB l0 l1
 go_enter Try.func3, Try.ntmps3
 go_upto_region 1 with (fail)
 generalize (W.alloc (.cells (stC (.slice x.A x.S.th.length x.c) (.slice x.B x.S.rg.length x.d) x.S.now x.S.rds x.S.en) 26)).alloc (.cells (stC (.slice y.A y.S.th.length y.c) (.slice y.B y.S.rg.length y.d) y.S.now y.S.rds y.S.en) 26) = w1 at *
 go_wp2_with fail
 refine (HA.out _).mono ?_
 rintro e w2 ⟨rfl, hb⟩
 replace HI := Lib.hid (HI.out.later hb)
 clear hb
 obtain ⟨⟨c0, c1, c2, c3, c4, cl⟩, d0, d1, d2, d3, d4, dl⟩ := HI.out.cells
 go_wp2_with fail
 refine (HF1.out _ HI.out.bel).mono ?_
 rintro e w3 ⟨b1, rfl, hb⟩
 replace HI := Lib.hid (HI.out.later hb)
 clear hb c0 c1 c2 c3 c4 cl d0 d1 d2 d3 d4 dl HF1
 cases b1
 ·clear HF2 HPR HS1 HS2 HS3 HWR HPQ HPS HPT
  go_wp2_with fail
  refine (HA.out _).mono ?_
  rintro e w4 ⟨rfl, hb⟩
  replace HI := Lib.hid (HI.out.later hb)
  clear hb
  go_wp2_with fail
  go_ret
  exact ⟨rfl, HI.out.bel⟩
 obtain ⟨⟨c0, c1, c2, c3, c4, cl⟩, d0, d1, d2, d3, d4, dl⟩ := HI.out.cells
 go_wp2_with fail
 refine (HF2.out _ HI.out.bel).mono ?_
 rintro e w4 ⟨b2, rfl, hb⟩
 replace HI := Lib.hid (HI.out.later hb)
 clear hb c0 c1 c2 c3 c4 cl d0 d1 d2 d3 d4 dl HF2
 cases b2
 ·clear HPR HS1 HS2 HS3 HWR HPQ HPS HPT
  go_wp2_with fail
  refine (HA.out _).mono ?_
  rintro e w5 ⟨rfl, hb⟩
  replace HI := Lib.hid (HI.out.later hb)
  clear hb
  go_wp2_with fail
  go_ret
  exact ⟨rfl, HI.out.bel⟩
 clear HA
 obtain ⟨⟨c0, c1, c2, c3, c4, cl⟩, d0, d1, d2, d3, d4, dl⟩ := HI.out.cells
 go_wp2_with fail
 refine (HPR.out _ HI.out.bel).mono ?_
 rintro e w5 ⟨rfl, hb⟩
 replace HI := Lib.hid (HI.out.later hb)
 clear hb c0 c1 c2 c3 c4 cl d0 d1 d2 d3 d4 dl HPR
 generalize prS x.S = ps at *
 generalize prE x.S = pe at *
 go_upto_region 4 with (fail)
 generalize samS x.S y.S = sm at *
 have HCC := Lib.hid (fun (q : World) (hq : Below w5.heap.size w5 q) => (HI.out.later hq).cells)
 have HBB := Lib.hid (fun (q : World) (hq : Below w5.heap.size w5 q) => (HI.out.later hq).bel)
 refine wp_region_rely (fun q => Below w5.heap.size w5 q) (bfV [.eq (.agg (stC (.slice x.A x.S.th.length x.c) (.slice x.B x.S.rg.length x.d) x.S.now x.S.rds x.S.en)), .eq (.agg (stC (.slice y.A y.S.th.length y.c) (.slice y.B y.S.rg.length y.d) y.S.now y.S.rds y.S.en)), .eq (.bool sm), .eq (.agg (stC (.slice x.A x.S.th.length x.c) (.slice x.B x.S.rg.length x.d) x.S.now x.S.rds x.S.en)), .eq (.agg (stC (.slice y.A y.S.th.length y.c) (.slice y.B y.S.rg.length y.d) y.S.now y.S.rds y.S.en)), .eq (.bool sm), .eq (.bool false), .eq (.bool false), .eq (.agg (stC (.slice x.A x.S.th.length x.c) (.slice x.B x.S.rg.length x.d) x.S.now x.S.rds x.S.en)), .eq (.agg (stC (.slice x.A x.S.th.length x.c) (.slice x.B x.S.rg.length x.d) x.S.now x.S.rds x.S.en)), .eq (.bool true), .eq (.bool false), .eq (.bool false)]) [some 25, some 26, some 27, some 28, some 29, some 30, some 31, some 32, some 33, some 34, some 35, some 36, some 37] [[], [], [0, 1], [], [], [3, 4], [2, 5], [6], [7], [7], [8, 9, 7], [10, 7], [7, 11]] [[], [], [0, 1], [], [], [0, 1, 3, 4], [0, 1, 2, 3, 4, 5], [2, 3, 4, 5, 6], [6], [6], [6, 8, 9], [6, 8, 9, 10], [6, 10, 11]] [[1, 3, 4, 5, 6, 7, 8, 9, 10, 11, 12], [0, 3, 4, 5, 6, 7, 8, 9, 10, 11, 12], [3, 4, 7, 8, 9, 10, 11, 12], [0, 1, 2, 4, 6, 7, 8, 9, 10, 11, 12], [0, 1, 2, 3, 6, 7, 8, 9, 10, 11, 12], [2, 8, 9, 10, 11, 12], [8, 9, 10, 11, 12], [], [0, 1, 7, 9, 11, 12], [0, 1, 7, 8, 11, 12], [0, 1, 7, 12], [0, 1, 7], [0, 1, 7]] [0, 1, 2, 3, 4, 5, 6, 7, 8, 9, 10, 11, 12] 13 (by kernel_rfl) (by kernel_rfl) (by kernel_rfl) (by kernel_rfl) ?rS (fun j h1 h2 => absurd (Nat.lt_of_lt_of_le h1 (Nat.le_trans (by decide) h2)) (Nat.lt_irrefl _)) ?rT ?rE
 case rS => exact below_drewN (Below.refl _ _) 1
 case rT =>
  refine RelySteps.cons (RelyStep.mk [] [1, 3, 4, 5, 6, 7, 8, 9, 10, 11, 12] rfl rfl rfl (fun xv wS hS hV bq hb K hK => ?_)) ?_
  ·clear hV
   simp only [putsOf, List.foldl_cons, List.foldl_nil, List.getD_cons_zero, List.getD_cons_succ, List.getD_nil, cond_true, cond_false, Act.put, List.setIfInBounds_toArray, List.set_cons_zero, List.set_cons_succ] at hb
   subst hb
   rw [if_pos (by rfl)]
   refine wp_load_known _ _ rfl W.heap.size 0 rfl _ (st_loadL2 (HI.out.later hS).b1) ?_
   exact hK.out _ _ ⟨_, rfl, hS, rfl, AllP.same _⟩
  refine RelySteps.cons (RelyStep.mk [] [0, 3, 4, 5, 6, 7, 8, 9, 10, 11, 12] rfl rfl rfl (fun xv wS hS hV bq hb K hK => ?_)) ?_
  ·clear hV
   simp only [putsOf, List.foldl_cons, List.foldl_nil, List.getD_cons_zero, List.getD_cons_succ, List.getD_nil, cond_true, cond_false, Act.put, List.setIfInBounds_toArray, List.set_cons_zero, List.set_cons_succ] at hb
   subst hb
   rw [if_pos (by rfl)]
   refine wp_load_known _ _ rfl (W.heap.size + 1) 0 rfl _ (st_loadL2 (HI.out.later hS).b2) ?_
   exact hK.out _ _ ⟨_, rfl, hS, rfl, AllP.same _⟩
  refine RelySteps.cons (RelyStep.mk [0, 1] [3, 4, 7, 8, 9, 10, 11, 12] rfl rfl rfl (fun xv wS hS hV bq hb K hK => ?_)) ?_
  ·obtain ⟨h0, h1, _⟩ := hV
   have h0 : xv 0 = _ := h0
   have h1 : xv 1 = _ := h1
   simp only [putsOf, List.foldl_cons, List.foldl_nil, List.getD_cons_zero, List.getD_cons_succ, List.getD_nil, cond_true, cond_false, Act.put, List.setIfInBounds_toArray, List.set_cons_zero, List.set_cons_succ, h0, h1] at hb
   clear h0
   clear h1
   subst hb
   rw [if_pos (by rfl)]
   have HSS := Lib.hid hS
   clear hS
   go_wp2_with fail
   refine (HS1.out wS (HBB.out _ HSS.out)).mono ?_
   rintro e w' ⟨rfl, hbm⟩
   exact hK.out _ _ ⟨_, rfl, then_ HSS.out hbm, rfl, AllP.of _ (fun j _ _ h => bfV_below hbm h)⟩
  refine RelySteps.cons (RelyStep.mk [] [0, 1, 2, 4, 6, 7, 8, 9, 10, 11, 12] rfl rfl rfl (fun xv wS hS hV bq hb K hK => ?_)) ?_
  ·clear hV
   simp only [putsOf, List.foldl_cons, List.foldl_nil, List.getD_cons_zero, List.getD_cons_succ, List.getD_nil, cond_true, cond_false, Act.put, List.setIfInBounds_toArray, List.set_cons_zero, List.set_cons_succ] at hb
   subst hb
   rw [if_pos (by rfl)]
   refine wp_load_known _ _ rfl W.heap.size 0 rfl _ (st_loadL2 (HI.out.later hS).b1) ?_
   exact hK.out _ _ ⟨_, rfl, hS, rfl, AllP.same _⟩
  refine RelySteps.cons (RelyStep.mk [] [0, 1, 2, 3, 6, 7, 8, 9, 10, 11, 12] rfl rfl rfl (fun xv wS hS hV bq hb K hK => ?_)) ?_
  ·clear hV
   simp only [putsOf, List.foldl_cons, List.foldl_nil, List.getD_cons_zero, List.getD_cons_succ, List.getD_nil, cond_true, cond_false, Act.put, List.setIfInBounds_toArray, List.set_cons_zero, List.set_cons_succ] at hb
   subst hb
   rw [if_pos (by rfl)]
   refine wp_load_known _ _ rfl (W.heap.size + 1) 0 rfl _ (st_loadL2 (HI.out.later hS).b2) ?_
   exact hK.out _ _ ⟨_, rfl, hS, rfl, AllP.same _⟩
  refine RelySteps.cons (RelyStep.mk [3, 4] [2, 8, 9, 10, 11, 12] rfl rfl rfl (fun xv wS hS hV bq hb K hK => ?_)) ?_
  ·obtain ⟨h3, h4, _⟩ := hV
   have h3 : xv 3 = _ := h3
   have h4 : xv 4 = _ := h4
   simp only [putsOf, List.foldl_cons, List.foldl_nil, List.getD_cons_zero, List.getD_cons_succ, List.getD_nil, cond_true, cond_false, Act.put, List.setIfInBounds_toArray, List.set_cons_zero, List.set_cons_succ, h3, h4] at hb
   clear h3
   clear h4
   subst hb
   rw [if_pos (by rfl)]
   have HSS := Lib.hid hS
   clear hS
   go_wp2_with fail
   refine (HS2.out wS (HBB.out _ HSS.out)).mono ?_
   rintro e w' ⟨rfl, hbm⟩
   exact hK.out _ _ ⟨_, rfl, then_ HSS.out hbm, rfl, AllP.of _ (fun j _ _ h => bfV_below hbm h)⟩
  refine RelySteps.cons (RelyStep.mk [2, 5] [8, 9, 10, 11, 12] rfl rfl rfl (fun xv wS hS hV bq hb K hK => ?_)) ?_
  ·obtain ⟨h2, h5, _⟩ := hV
   have h2 : xv 2 = _ := h2
   have h5 : xv 5 = _ := h5
   simp only [putsOf, List.foldl_cons, List.foldl_nil, List.getD_cons_zero, List.getD_cons_succ, List.getD_nil, cond_true, cond_false, Act.put, List.setIfInBounds_toArray, List.set_cons_zero, List.set_cons_succ, h2, h5] at hb
   clear h2
   clear h5
   subst hb
   rw [if_pos (by rfl)]
   go_wp2_with fail
   exact hK.out _ _ ⟨_, rfl, hS, rfl, AllP.same _⟩
  refine RelySteps.cons (RelyStep.mk [6] [] rfl rfl rfl (fun xv wS hS hV bq hb K hK => ?_)) ?_
  ·obtain ⟨h6, _⟩ := hV
   have h6 : xv 6 = _ := h6
   simp only [putsOf, List.foldl_cons, List.foldl_nil, List.getD_cons_zero, List.getD_cons_succ, List.getD_nil, cond_true, cond_false, Act.put, List.setIfInBounds_toArray, List.set_cons_zero, List.set_cons_succ, h6] at hb
   clear h6
   subst hb
   rw [if_pos (by rfl)]
   go_wp2_with fail
   exact hK.out _ _ ⟨_, rfl, hS, rfl, AllP.same _⟩
  refine RelySteps.cons (RelyStep.mk [7] [0, 1, 7, 9, 11, 12] rfl rfl rfl (fun xv wS hS hV bq hb K hK => ?_)) ?_
  ·obtain ⟨h7, _⟩ := hV
   have h7 : xv 7 = _ := h7
   simp only [putsOf, List.foldl_cons, List.foldl_nil, List.getD_cons_zero, List.getD_cons_succ, List.getD_nil, cond_true, cond_false, Act.put, List.setIfInBounds_toArray, List.set_cons_zero, List.set_cons_succ, h7] at hb
   clear h7
   subst hb
   rw [if_pos (by rfl)]
   refine wp_load_known _ _ rfl W.heap.size 0 rfl _ (st_loadL2 (HI.out.later hS).b1) ?_
   exact hK.out _ _ ⟨_, rfl, hS, rfl, AllP.same _⟩
  refine RelySteps.cons (RelyStep.mk [7] [0, 1, 7, 8, 11, 12] rfl rfl rfl (fun xv wS hS hV bq hb K hK => ?_)) ?_
  ·obtain ⟨h7, _⟩ := hV
   have h7 : xv 7 = _ := h7
   simp only [putsOf, List.foldl_cons, List.foldl_nil, List.getD_cons_zero, List.getD_cons_succ, List.getD_nil, cond_true, cond_false, Act.put, List.setIfInBounds_toArray, List.set_cons_zero, List.set_cons_succ, h7] at hb
   clear h7
   subst hb
   rw [if_pos (by rfl)]
   refine wp_load_known _ _ rfl W.heap.size 0 rfl _ (st_loadL2 (HI.out.later hS).b1) ?_
   exact hK.out _ _ ⟨_, rfl, hS, rfl, AllP.same _⟩
  refine RelySteps.cons (RelyStep.mk [8, 9, 7] [0, 1, 7, 12] rfl rfl rfl (fun xv wS hS hV bq hb K hK => ?_)) ?_
  ·obtain ⟨h8, h9, h7, _⟩ := hV
   have h8 : xv 8 = _ := h8
   have h9 : xv 9 = _ := h9
   have h7 : xv 7 = _ := h7
   simp only [putsOf, List.foldl_cons, List.foldl_nil, List.getD_cons_zero, List.getD_cons_succ, List.getD_nil, cond_true, cond_false, Act.put, List.setIfInBounds_toArray, List.set_cons_zero, List.set_cons_succ, h8, h9, h7] at hb
   clear h8
   clear h9
   clear h7
   subst hb
   rw [if_pos (by rfl)]
   have HSS := Lib.hid hS
   clear hS
   go_wp2_with fail
   refine (HS3.out wS (HBB.out _ HSS.out)).mono ?_
   rintro e w' ⟨rfl, hbm⟩
   exact hK.out _ _ ⟨_, rfl, then_ HSS.out hbm, rfl, AllP.of _ (fun j _ _ h => bfV_below hbm h)⟩
  refine RelySteps.cons (RelyStep.mk [10, 7] [0, 1, 7] rfl rfl rfl (fun xv wS hS hV bq hb K hK => ?_)) ?_
  ·obtain ⟨h10, h7, _⟩ := hV
   have h10 : xv 10 = _ := h10
   have h7 : xv 7 = _ := h7
   simp only [putsOf, List.foldl_cons, List.foldl_nil, List.getD_cons_zero, List.getD_cons_succ, List.getD_nil, cond_true, cond_false, Act.put, List.setIfInBounds_toArray, List.set_cons_zero, List.set_cons_succ, h10, h7] at hb
   clear h10
   clear h7
   subst hb
   rw [if_pos (by rfl)]
   go_wp2_with fail
   exact hK.out _ _ ⟨_, rfl, hS, rfl, AllP.same _⟩
  refine RelySteps.cons (RelyStep.mk [7, 11] [0, 1, 7] rfl rfl rfl (fun xv wS hS hV bq hb K hK => ?_)) ?_
  ·obtain ⟨h7, h11, _⟩ := hV
   have h7 : xv 7 = _ := h7
   have h11 : xv 11 = _ := h11
   simp only [putsOf, List.foldl_cons, List.foldl_nil, List.getD_cons_zero, List.getD_cons_succ, List.getD_nil, cond_true, cond_false, Act.put, List.setIfInBounds_toArray, List.set_cons_zero, List.set_cons_succ, h7, h11] at hb
   clear h7
   clear h11
   subst hb
   rw [if_pos (by rfl)]
   go_wp2_with fail
   exact hK.out _ _ ⟨_, rfl, hS, rfl, AllP.same _⟩
  exact RelySteps.nil
 case rE =>
 intro xv wE hS hV
 have h7 := hV 7 (by decide) (by decide)
 have h12 := hV 12 (by decide) (by decide)
 clear hV
 simp only [putsOf, List.foldl_cons, List.foldl_nil, List.getD_cons_zero, List.getD_cons_succ, List.getD_nil, cond_true, cond_false, Act.put, List.setIfInBounds_toArray, List.set_cons_zero, List.set_cons_succ]
 have h7 : xv 7 = _ := h7
 have h12 : xv 12 = _ := h12
 rw [h7]; clear h7
 rw [h12]; clear h12
 generalize xv 0 = y0 at *
 generalize xv 1 = y1 at *
 generalize xv 2 = y2 at *
 generalize xv 3 = y3 at *
 generalize xv 4 = y4 at *
 generalize xv 5 = y5 at *
 generalize xv 6 = y6 at *
 generalize xv 8 = y8 at *
 generalize xv 9 = y9 at *
 generalize xv 10 = y10 at *
 generalize xv 11 = y11 at *
 replace HI := Lib.hid (HI.out.later hS)
 clear hS HCC HBB HS1 HS2 HS3
 generalize wE = w6 at *
 obtain ⟨⟨c0, c1, c2, c3, c4, cl⟩, d0, d1, d2, d3, d4, dl⟩ := HI.out.cells
 go_wp2_with fail
 refine (HWR.out _ HI.out.bel).mono ?_
 rintro e w7 ⟨rfl, hb⟩
 replace HI := Lib.hid (HI.out.later hb)
 clear hb c0 c1 c2 c3 c4 cl d0 d1 d2 d3 d4 dl HWR
 cases he : encB x.S
 ·obtain ⟨rfl, rfl⟩ := HPS.out he
  clear HPT HPQ HPS he
  go_wp2_with fail
  go_ret
  exact ⟨rfl, HI.out.bel⟩
 ·obtain ⟨rfl, rfl⟩ := HPT.out he
  have HPP := Lib.hid (HPQ.out he _ HI.out.bel)
  clear HPT HPQ HPS he
  obtain ⟨⟨c0, c1, c2, c3, c4, cl⟩, d0, d1, d2, d3, d4, dl⟩ := HI.out.cells
  go_wp2_with fail
  refine HPP.out.mono ?_
  rintro e w8 ⟨rfl, hb⟩
  replace HI := Lib.hid (HI.out.later hb)
  clear hb c0 c1 c2 c3 c4 cl d0 d1 d2 d3 d4 dl HPP
  go_wp2_with fail
  go_ret
  exact ⟨rfl, HI.out.bel⟩
end Go.Proofs.Ytakggmfpgopcgaa
