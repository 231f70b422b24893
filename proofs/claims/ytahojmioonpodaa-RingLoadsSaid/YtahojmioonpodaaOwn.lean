/-
  Rows of the call's own: what a make leaves, what later calls keep, what an append to an empty literal leaves.
-/
import Derived.Test.YtahojmioonpodaaRows
import Derived.Test.YtahojmioonpodaaStructs
import Derived.Deep.OwnRows
import Derived.Test.YtahojmioonpodaaRowsof
namespace Go.Proofs.Ytahojmioonpodaa
open Go.RowKit
set_option linter.unusedVariables false
set_option linter.unusedSimpArgs false
theorem owned_made (w : World) (e : TypeId) (z : Value) (hz : z.cells = #[z]) (n : Nat) (hn : n ≤ maxLen) :
    (w.alloc (.cells (madeCells #[z] n) e)).ownsRow w.heap.size e 1 (.slice (some ⟨w.heap.size, 0, none⟩) n n) n (List.replicate n z) := by
  have := World.ownsRow_lit (base := w.heap.size) (e := e) (size := 1) w (madeCells #[z] n) n (Nat.le_refl _) hn (by simp [size_madeCells])
  have e2 := zeros_made z hz n
  rw [hz, Nat.mul_one] at e2
  rwa [e2] at this
theorem owned_below {w w' : World} {B : Nat} {e : TypeId} {size n : Nat} {v : Value} {xs : List Value} (h : w.ownsRow B e size v n xs) (k : Below w.heap.size w w') : w'.ownsRow B e size v n xs :=
  owns_kept h (Kept.of_below k) (fun _ _ _ _ hf => hf)
theorem owned_drewN {w : World} {B : Nat} {e : TypeId} {size n : Nat} {v : Value} {xs : List Value} (h : w.ownsRow B e size v n xs) (k : Nat) : (w.drewN k).ownsRow B e size v n xs := h
/-- An empty literal. -/
theorem owned_empty {w : World} {B : Nat} (e : TypeId) (sz : Nat) (hB : B ≤ w.heap.size) : (w.alloc (.cells #[] e)).ownsRow B e sz (.slice (some ⟨w.heap.size, 0, none⟩) 0 0) 0 [] :=
  World.ownsRow_made (base := B) (e := e) (size := sz) w #[] 0 hB (by unfold maxLen; omega) (by simp)
/-- A store of one cell into a row of the call's own, elements of whatever width. -/
theorem owned_set {w : World} {B : Nat} {e : TypeId} {sz n cap r k : Nat} {xs : List Value} {u : Value} (h : w.ownsRow B e sz (.slice (some ⟨r, 0, none⟩) n cap) n xs) (hk : k < xs.length) :
    (w.setCell ⟨r, k, none⟩ u).ownsRow B e sz (.slice (some ⟨r, 0, none⟩) n cap) n (xs.set k u) := (h.stored k u).1
/-- 'make([]T, n)', elements of whatever width. -/
theorem made_rows {α : Type} {f : α → List Value} {sz : Nat} (hf : ∀ x, (f x).length = sz) (hs : 0 < sz) (x : α) (zc : Array Value) (hz : zc.toList = f x) (n : Nat) : (madeCells zc (n * sz)).toList = rowsOf f (List.replicate n x) := by
  have hzn : zc.size = sz := by rw [← Array.length_toList, hz, hf]
  apply List.ext_getElem?
  intro k
  by_cases hk : k < n * sz
  · have hi : k / sz < n := (Nat.div_lt_iff_lt_mul hs).2 hk
    have hj : k % sz < sz := Nat.mod_lt _ hs
    have hkk : k / sz * sz + k % sz = k := by rw [Nat.mul_comm]; exact Nat.div_add_mod k sz
    have hg := rowsOf_get hf (l := List.replicate n x) (i := k / sz) (x := x) (by rw [List.getElem?_replicate, if_pos hi]) hj
    rw [hkk] at hg
    rw [hg, ← hz]
    unfold madeCells
    simp only [Array.toList_map, List.getElem?_map, Array.toList_range, List.getElem?_range hk, Option.map_some, hzn]
    rw [Array.getElem?_toList, Array.getElem?_eq_getElem (by omega), getElem!_pos zc _ (by omega)]
  · rw [List.getElem?_eq_none (by rw [Array.length_toList, size_madeCells]; omega), List.getElem?_eq_none (by rw [rowsOf_length hf, List.length_replicate]; omega)]
theorem run_make_rowS {P : Program} (t e : TypeId) (z : Value) (size bytes : Nat) (ht : P.underlying t = some (.slice e)) (hinfo : (P.info? e).map (fun i => (i.zero, i.size, i.bytes)) = some (some z, size, bytes))
    (kl kc : IntKind) (n : Nat) (hbytes : bytes * n ≤ 281474976710656) (hn : n ≤ 1099511627776) (w : World) :
    (Instr.makeSlice t (.int kl (n : Int)) (.int kc (n : Int))).run P w = .ok (.slice (some ⟨w.heap.size, 0, none⟩) n n) (w.alloc (.cells (madeCells z.cells (n * size)) e)) := by
  obtain ⟨i, hi, hz0, hz1, hz2⟩ := info_parts hinfo
  have hb' : (i.bytes : Int) * (n : Int) ≤ 281474976710656 := by
    have h : ((i.bytes * n : Nat) : Int) ≤ 281474976710656 := by rw [hz2]; omega
    rwa [Int.natCast_mul] at h
  have hr := run_make (P := P) w t e i z ht hi hz0 kl kc n n (by omega) (Int.le_refl _) hb' (by omega)
  simp only [Int.toNat_natCast, hz1] at hr
  exact hr
theorem owned_rows {α : Type} {f : α → List Value} {sz : Nat} (hf : ∀ x, (f x).length = sz) (hs : 0 < sz) (w : World) (e : TypeId) (x : α) (zc : Array Value) (hz : zc.toList = f x) (n : Nat) (hn : n ≤ maxLen) :
    (w.alloc (.cells (madeCells zc (n * sz)) e)).ownsRow w.heap.size e sz (.slice (some ⟨w.heap.size, 0, none⟩) n n) n (rowsOf f (List.replicate n x)) := by
  have := World.ownsRow_lit (base := w.heap.size) (e := e) (size := sz) w (madeCells zc (n * sz)) n (Nat.le_refl _) hn (size_madeCells _ _)
  rwa [made_rows hf hs x zc hz n] at this
end Go.Proofs.Ytahojmioonpodaa
