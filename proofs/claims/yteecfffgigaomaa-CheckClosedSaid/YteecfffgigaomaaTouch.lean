/-
  check.Touches.
-/
import Derived.Test.YteecfffgigaomaaEnds
namespace Go.Proofs.Yteecfffgigaomaa
open Go.RowKit
set_option linter.unusedVariables false
set_option linter.unusedSimpArgs false
noncomputable def touchAt (l : List In) (r a : Nat) : Bool := rchB l a && (onRingB (l.getD a default).op && ((l.getD a default).c == (r : Int)))
/-- Is a ring named by one of the first i places? -/
noncomputable def touchTo (l : List In) (i r : Nat) : Bool := (List.range i).any (touchAt l r)
noncomputable def touchN (l : List In) (i : Nat) : List Bool := (List.range 8).map (touchTo l i)
noncomputable def touchL (l : List In) : List Nat := (List.range 8).filter (touchTo l l.length)
theorem touchTo_succ (l : List In) (i r : Nat) : touchTo l (i + 1) r = (touchTo l i r || touchAt l r i) := by
  unfold touchTo
  rw [List.range_succ, List.any_append]
  simp
theorem touchN_length (l : List In) (i : Nat) : (touchN l i).length = 8 := by unfold touchN; simp
theorem touchN_get {l : List In} {i r : Nat} (h : r < 8) : (touchN l i)[r]? = some (touchTo l i r) := by
  unfold touchN
  rw [List.getElem?_map, List.getElem?_range h]; rfl
theorem touchN_zero (l : List In) : touchN l 0 = List.replicate 8 false := by
  apply List.ext_getElem?
  intro r
  by_cases hr : r < 8
  · rw [touchN_get hr, List.getElem?_replicate, if_pos hr]; rfl
  · rw [List.getElem?_eq_none (by rw [touchN_length]; omega), List.getElem?_eq_none (by simp; omega)]
/-- A place that names no ring. -/
theorem touchN_same {l : List In} {i : Nat} {x : In} (hx : l[i]? = some x) (h : (rchB l i && onRingB x.op) = false) : touchN l (i + 1) = touchN l i := by
  unfold touchN
  refine List.map_congr_left (fun r _ => ?_)
  rw [touchTo_succ]
  have : touchAt l r i = false := by
    unfold touchAt
    rw [List.getD_eq_getElem?_getD, hx]
    show (rchB l i && (onRingB x.op && (x.c == (r : Int)))) = false
    rw [← Bool.and_assoc, h, Bool.false_and]
  rw [this, Bool.or_false]
/-- One that does. -/
theorem touchN_set {l : List In} {i c : Nat} {x : In} (hx : l[i]? = some x) (h1 : rchB l i = true) (h2 : onRingB x.op = true) (hc : x.c = (c : Int)) (hc8 : c < 8) : touchN l (i + 1) = (touchN l i).set c true := by
  apply List.ext_getElem?
  intro r
  by_cases hr : r < 8
  · rw [touchN_get hr, List.getElem?_set, touchTo_succ]
    have : touchAt l r i = (c == r) := by
      unfold touchAt
      rw [List.getD_eq_getElem?_getD, hx]
      show (rchB l i && (onRingB x.op && (x.c == (r : Int)))) = _
      rw [h1, h2, hc, Bool.true_and, Bool.true_and, Bool.eq_iff_iff, beq_iff_eq, beq_iff_eq]
      omega
    rw [this]
    by_cases e : c = r
    · subst e
      rw [if_pos rfl, if_pos (by rw [touchN_length]; omega)]; simp
    · rw [if_neg e, touchN_get hr]
      simp [e]
  · rw [List.getElem?_eq_none (by rw [touchN_length]; omega), List.getElem?_eq_none (by rw [List.length_set, touchN_length]; omega)]
theorem Try.info8b : (Try.prog.info? 62).map (·.size) = some 8 := by kernel_rfl
theorem under8b : Try.prog.underlying 62 = some (.array 8 4) := by kernel_rfl
theorem run_ix8 (L : List Bool) (i : Nat) (b : Bool) (w : World) (h8 : L.length = 8) (hb : L[i]? = some b) : (Instr.index 62 (.agg (boolC L).toArray) (.int .i64 (i : Int))).run Try.prog w = .ok (.bool b) w := by
  have hi : i < 8 := by rw [← h8]; exact (List.getElem?_eq_some_iff.1 hb).1
  have hc : (0 : Int) ≤ (i : Int) ∧ (i : Int) < 8 := by omega
  have hag : (isAgg 4).run Try.prog w = .ok false w := by
    unfold isAgg
    rw [Sem.run_bind, run_underlying Try.underlying4 w]
    rfl
  have hsz : (sizeOf 4).run Try.prog w = .ok 1 w := by
    have := Try.infoBool
    cases hq : Try.prog.info? 4 with
    | none => simp [hq] at this
    | some d =>
      have hs : d.size = 1 := by
        have := this
        simp [hq] at this
        exact this.2.1
      simp [sizeOf, typeInfo, hq, hs]
  have hg := boolC_get hb
  simp [Instr.index, run_underlying under8b, asIntOf, hc, part, Sem.run_bind, hag, hsz, hi, hg]
end Go.Proofs.Yteecfffgigaomaa
