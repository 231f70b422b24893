/-
  Rows of bytes of the call's own, and the texts that they are.
-/
import Derived.Test.YtndcnflboikodaaDoorRows
import Derived.Test.YtndcnflboikodaaDoorKit
import Derived.Lib.BufferRead
import Derived.Deep.OwnRows
namespace Go.Proofs.YtndcnflboikodaaDoor
open Go.RowKit
set_option linter.unusedVariables false
set_option linter.unusedSimpArgs false
theorem Tryd.infoU8 : (Tryd.prog.info? 5).map (fun i => (i.zero, i.size, i.bytes)) = some (some (.int .u8 0), 1, 1) := by kernel_rfl
/-- A list of bytes as cells, as a text. -/
def cellsB (l : List UInt8) : List Value := l.map fun b => Value.int .u8 b.toNat
def textB (l : List UInt8) : ByteArray := ⟨l.toArray⟩
theorem cellsB_text (l : List UInt8) : Lib.strCells (textB l) = cellsB l := by simp [Lib.strCells, textB, cellsB]
theorem textB_size (l : List UInt8) : (textB l).size = l.length := by simp [textB, ByteArray.size]
theorem cellsB_append (l m : List UInt8) : cellsB (l ++ m) = cellsB l ++ cellsB m := by simp [cellsB]
theorem cellsB_length (l : List UInt8) : (cellsB l).length = l.length := by simp [cellsB]
theorem cellsB_push (d : List UInt8) (b : UInt8) : cellsB d ++ [.int .u8 (b.toNat : Int)] = cellsB (d ++ [b]) := by simp [cellsB]
theorem byte_of (s : ByteArray) (i : Nat) (hi : i < s.size) : s.data.toList[i]? = some s[i] := by
  rw [Array.getElem?_toList]; exact Array.getElem?_eq_getElem hi
/-- 'string(b)', b a slice of the call's own. -/
theorem convert_owned (w : World) (B : Nat) (v : Value) (l : List UInt8) (n : Nat) (hn : n = l.length) (ho : w.ownsRow B 5 1 v n (cellsB l)) :
    (convert 53 9 v).run Tryd.prog w = .ok (.string (textB l)) w := by
  subst hn
  rcases owns_row ho with ⟨rfl, h0, _⟩ | ⟨r, cap, cur, rfl, _⟩
  · have hl : l = [] := List.length_eq_zero_iff.1 h0
    subst hl
    exact Lib.run_convert_nil_bytes (P := Tryd.prog) w 53 9 5 0 Tryd.underlying53 Tryd.underlying5 Tryd.underlying9
  · have := Lib.run_convert_whole (P := Tryd.prog) w 53 5 9 Tryd.underlying53 Tryd.underlying5 Tryd.underlying9 r 0 (textB l) (fun i hi => by
      rw [Nat.zero_add, ← addr_add]
      refine ho.cells (g := r) rfl i _ ?_
      rw [← cellsB_text]
      simp only [Lib.strCells, List.getElem?_map, byte_of (textB l) i hi]; rfl) cap
    rw [textB_size] at this
    exact this
/-- What a make of n zeros leaves. -/
theorem owns_made (w : World) (e : TypeId) (z : Value) (hz : z.cells = #[z]) (n : Nat) (hn : n ≤ maxLen) :
    (w.alloc (.cells (madeCells #[z] n) e)).ownsRow w.heap.size e 1 (.slice (some ⟨w.heap.size, 0, none⟩) n n) n (List.replicate n z) := by
  have := World.ownsRow_lit (base := w.heap.size) (e := e) (size := 1) w (madeCells #[z] n) n (Nat.le_refl _) hn (by simp [size_madeCells])
  have e2 := zeros_made z hz n
  rw [hz, Nat.mul_one] at e2
  rwa [e2] at this
theorem owns_below {w w' : World} {B : Nat} {e : TypeId} {size n : Nat} {v : Value} {xs : List Value} (h : w.ownsRow B e size v n xs) (k : Below w.heap.size w w') : w'.ownsRow B e size v n xs :=
  owns_kept h (Kept.of_below k) (fun _ _ _ _ hf => hf)
theorem text_append (a b : List UInt8) : textB a ++ textB b = textB (a ++ b) := by apply eq_of_data; simp [textB]
theorem cellsB_set (l : List UInt8) (i : Nat) (n : Nat) (h : n < 256) : (cellsB l).set i (.int .u8 (n : Int)) = cellsB (l.set i (UInt8.ofNat n)) := by
  unfold cellsB
  rw [List.map_set, UInt8.toNat_ofNat', Nat.mod_eq_of_lt h]
theorem owns_drewN {w : World} {B : Nat} {e : TypeId} {size n : Nat} {v : Value} {xs : List Value} (h : w.ownsRow B e size v n xs) (k : Nat) : (w.drewN k).ownsRow B e size v n xs := h
end Go.Proofs.YtndcnflboikodaaDoor
