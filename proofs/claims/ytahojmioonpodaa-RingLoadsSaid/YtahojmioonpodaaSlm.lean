/-
  Slots as plain lists: what is put and got, and what is told; no Go in sight. An object of them in memory.
-/
import Derived.Test.YtahojmioonpodaaRowsof
namespace Go.Proofs.Ytahojmioonpodaa
open Go.RowKit
set_option linter.unusedVariables false
set_option linter.unusedSimpArgs false
structure Sl where
  s : Nat
  v : Nat
  l : Int
instance : Inhabited Sl := ⟨⟨0, 0, 0⟩⟩
def slF (x : Sl) : List Value := [.int .u64 (x.s : Int), .int .u64 (x.v : Int), .int .i64 x.l]
theorem slF_length (x : Sl) : (slF x).length = 3 := rfl
theorem slF_one : ∀ (l : List Sl), ∀ u ∈ rowsOf slF l, u.oneCell' = true := fun l u hu => by
  obtain ⟨x, _, hx⟩ := rowsOf_mem hu
  simp [slF] at hx
  rcases hx with rfl | rfl | rfl <;> rfl
/-- All bits of the readers. -/
def everyN (r : Nat) : Int := 2 ^ r - 1
/-- Where a ticket's place is. -/
def slX (L : List Sl) (t : Nat) : Sl := L.getD (t % L.length) ⟨0, 0, 0⟩
theorem slX_get {L : List Sl} (h : 0 < L.length) (t : Nat) : L[t % L.length]? = some (slX L t) := by
  unfold slX; rw [List.getD_eq_getElem?_getD, List.getElem?_eq_getElem (Nat.mod_lt _ h)]; rfl
def freeB (L : List Sl) (t : Nat) : Bool := decide (t < 4611686018427387904 ∧ (slX L t).s = 2 * t)
def putE (L : List Sl) (t : Nat) : Nat := if 4611686018427387904 ≤ t then 1 else if (slX L t).s < 2 * t then 8 else if 2 * t < (slX L t).s then 11 else 0
def putS (r : Nat) (L : List Sl) (t v : Nat) : List Sl := if putE L t = 0 then L.set (t % L.length) ⟨2 * t + 1, v, everyN r⟩ else L
def hasBit (l : Int) (j : Nat) : Bool := decide (l / 2 ^ j % 2 = 1)
def getE (r : Nat) (L : List Sl) (j : Int) (t : Nat) : Nat :=
  if 4611686018427387904 ≤ t ∨ j < 0 ∨ (r : Int) ≤ j then 1 else if (slX L t).s < 2 * t + 1 then 9 else if 2 * t + 1 < (slX L t).s ∨ hasBit (slX L t).l j.toNat = false then 11 else 0
def getV (r : Nat) (L : List Sl) (j : Int) (t : Nat) : Nat := if getE r L j t = 0 then (slX L t).v else 0
/-- A place that one reader more has got. -/
def gotX (c : Nat) (x : Sl) (j t : Nat) : Sl := if x.l - 2 ^ j = 0 then ⟨2 * (t + c), 0, 0⟩ else ⟨x.s, x.v, x.l - 2 ^ j⟩
def getS (r : Nat) (L : List Sl) (j : Int) (t : Nat) : List Sl := if getE r L j t = 0 then L.set (t % L.length) (gotX L.length (slX L t) j.toNat t) else L
def newS (c : Nat) : List Sl := (List.range c).map fun i => ⟨2 * i, 0, 0⟩
/-- What a place may be: numbers of 64 bits, bits of readers that there are. -/
def slOk (r : Nat) (x : Sl) : Prop := x.s < 18446744073709551616 ∧ x.v < 18446744073709551616 ∧ 0 ≤ x.l ∧ x.l ≤ everyN r
def SlOk (r : Nat) (L : List Sl) : Prop := 1 ≤ L.length ∧ L.length ≤ 64 ∧ 1 ≤ r ∧ r ≤ 8 ∧ ∀ x ∈ L, slOk r x
theorem everyN_pos {r : Nat} (h : r ≤ 8) : 0 ≤ everyN r ∧ everyN r ≤ 255 := by
  unfold everyN
  rcases (show r = 0 ∨ r = 1 ∨ r = 2 ∨ r = 3 ∨ r = 4 ∨ r = 5 ∨ r = 6 ∨ r = 7 ∨ r = 8 by omega) with rfl | rfl | rfl | rfl | rfl | rfl | rfl | rfl | rfl <;> decide
theorem newS_length (c : Nat) : (newS c).length = c := by simp [newS]
theorem newS_ok {c r : Nat} (h1 : 1 ≤ c) (h2 : c ≤ 64) (h3 : 1 ≤ r) (h4 : r ≤ 8) : SlOk r (newS c) := by
  refine ⟨by rw [newS_length]; exact h1, by rw [newS_length]; exact h2, h3, h4, fun x hx => ?_⟩
  obtain ⟨i, hi, rfl⟩ := List.mem_map.1 hx
  have := List.mem_range.1 hi
  have := everyN_pos h4
  exact ⟨by simp only; omega, by simp only; omega, by simp only; omega, by simp only; omega⟩
theorem slX_ok {r : Nat} {L : List Sl} (h : SlOk r L) (t : Nat) : slOk r (slX L t) := h.2.2.2.2 _ (List.mem_of_getElem? (slX_get h.1 t))
theorem SlOk.set {r : Nat} {L : List Sl} (h : SlOk r L) {x : Sl} (hx : slOk r x) (i : Nat) : SlOk r (L.set i x) := by
  refine ⟨by rw [List.length_set]; exact h.1, by rw [List.length_set]; exact h.2.1, h.2.2.1, h.2.2.2.1, fun y hy => ?_⟩
  rcases List.mem_or_eq_of_mem_set hy with hy | rfl
  · exact h.2.2.2.2 y hy
  · exact hx
theorem putS_length (r : Nat) (L : List Sl) (t v : Nat) : (putS r L t v).length = L.length := by unfold putS; split <;> simp
theorem getS_length (r : Nat) (L : List Sl) (j : Int) (t : Nat) : (getS r L j t).length = L.length := by unfold getS; split <;> simp
theorem putS_ok {r : Nat} {L : List Sl} (h : SlOk r L) (t v : Nat) (hv : v < 18446744073709551616) : SlOk r (putS r L t v) := by
  unfold putS
  split
  · rename_i he
    refine h.set ⟨?_, hv, ?_⟩ _
    · unfold putE at he
      by_cases ht : 4611686018427387904 ≤ t
      · rw [if_pos ht] at he; exact absurd he (by decide)
      · simp only; omega
    · have := everyN_pos h.2.2.2.1
      exact ⟨this.1, by simp⟩
  · exact h
theorem hasBit_le {l : Int} {j : Nat} (h0 : 0 ≤ l) (h : hasBit l j = true) : 2 ^ j ≤ l := by
  have h1 := of_decide_eq_true h
  have hp : (0 : Int) < 2 ^ j := Int.pow_pos (by decide)
  rcases Int.lt_or_le l (2 ^ j) with h2 | h2
  · rw [Int.ediv_eq_zero_of_lt h0 h2] at h1; exact absurd h1 (by decide)
  · exact h2
theorem getE_ok {r : Nat} {L : List Sl} {j : Int} {t : Nat} (h : getE r L j t = 0) : t < 4611686018427387904 ∧ 0 ≤ j ∧ j < (r : Int) ∧ (slX L t).s = 2 * t + 1 ∧ hasBit (slX L t).l j.toNat = true := by
  unfold getE at h
  split at h
  · exact absurd h (by decide)
  · split at h
    · exact absurd h (by decide)
    · split at h
      · exact absurd h (by decide)
      · rename_i h1 h2 h3
        refine ⟨by omega, by omega, by omega, by omega, ?_⟩
        by_cases hb : hasBit (slX L t).l j.toNat = true
        · exact hb
        · exact absurd (.inr (by simpa using hb)) h3
theorem gotX_ok {r c : Nat} {x : Sl} {j t : Nat} (h : slOk r x) (hb : hasBit x.l j = true) (ht : t < 4611686018427387904) (hc : c ≤ 64) (hr : r ≤ 8) : slOk r (gotX c x j t) := by
  obtain ⟨h1, h2, h3, h4⟩ := h
  have := hasBit_le h3 hb
  have hp : (0 : Int) < 2 ^ j := Int.pow_pos (by decide)
  have := everyN_pos hr
  unfold gotX
  split
  · exact ⟨by simp only; omega, by simp only; omega, by simp only; omega, by simp only; omega⟩
  · exact ⟨h1, h2, by simp only; omega, by simp only; omega⟩
theorem getS_ok {r : Nat} {L : List Sl} (h : SlOk r L) (j : Int) (t : Nat) : SlOk r (getS r L j t) := by
  unfold getS
  split
  · rename_i he
    obtain ⟨h1, _, _, _, h5⟩ := getE_ok he
    exact h.set (gotX_ok (slX_ok h t) h5 h1 h.2.1 h.2.2.2.1) _
  · exact h
/-! ## In memory -/
def slObj (r : Nat) (L M : List Sl) : List Value := [.int .i64 (L.length : Int), .int .i64 (r : Int)] ++ rowsOf slF (L ++ M)
/-- Slots that lie in block g, behind the cells pre and ahead of the cells post; M are those that aren't used. -/
def SlAt (w : World) (g : Nat) (T : TypeId) (pre post : List Value) (r : Nat) (L : List Sl) : Prop :=
  ∃ M, (L ++ M).length = 64 ∧ SlOk r L ∧ Lies w g T (pre ++ (slObj r L M ++ post)).toArray
theorem Lies.putL {w : World} {g : Nat} {T : TypeId} {l : List Value} (h : Lies w g T l.toArray) (i : Nat) (u : Value) : Lies (w.setCell ⟨g, i, none⟩ u) g T (l.set i u).toArray := by
  have := h.put i u
  rwa [List.setIfInBounds_toArray] at this
theorem mid_set (pre ob post : List Value) (k : Nat) (u : Value) (h : k < ob.length) : (pre ++ (ob ++ post)).set (pre.length + k) u = pre ++ (ob.set k u ++ post) := by
  rw [List.set_append_right _ _ (by omega), Nat.add_sub_cancel_left, List.set_append_left _ _ h]
theorem mid_get (pre ob post : List Value) (k : Nat) (h : k < ob.length) : (pre ++ (ob ++ post))[pre.length + k]? = ob[k]? := by
  rw [List.getElem?_append_right (by omega), Nat.add_sub_cancel_left, List.getElem?_append_left h]
theorem slObj_length (r : Nat) (L M : List Sl) : (slObj r L M).length = 2 + (L ++ M).length * 3 := by
  unfold slObj; rw [List.length_append, rowsOf_length slF_length]; rfl
theorem slObj_get {r : Nat} {L M : List Sl} {i : Nat} {x : Sl} (h : L[i]? = some x) {j : Nat} (hj : j < 3) : (slObj r L M)[2 + i * 3 + j]? = (slF x)[j]? := by
  unfold slObj
  have hi : i < L.length := (List.getElem?_eq_some_iff.1 h).1
  rw [List.getElem?_append_right (by simp; omega)]
  rw [show 2 + i * 3 + j - [Value.int .i64 (L.length : Int), Value.int .i64 (r : Int)].length = i * 3 + j by simp; omega]
  exact rowsOf_get slF_length (by rw [List.getElem?_append_left hi]; exact h) hj
theorem slObj_set {r : Nat} {L M : List Sl} {i : Nat} {x y : Sl} (h : L[i]? = some x) {j : Nat} (hj : j < 3) {u : Value} (hy : slF y = (slF x).set j u) : (slObj r L M).set (2 + i * 3 + j) u = slObj r (L.set i y) M := by
  have hi : i < L.length := (List.getElem?_eq_some_iff.1 h).1
  unfold slObj
  rw [List.set_append_right _ _ (by simp; omega)]
  rw [show 2 + i * 3 + j - [Value.int .i64 (L.length : Int), Value.int .i64 (r : Int)].length = i * 3 + j by simp; omega]
  rw [rowsOf_set1 slF_length (by rw [List.getElem?_append_left hi]; exact h) hj hy, List.set_append_left _ _ hi, List.length_set]
section
variable {w w' : World} {g : Nat} {T : TypeId} {pre post : List Value} {r : Nat} {L : List Sl}
theorem SlAt.kept {S : Nat → Prop} (h : SlAt w g T pre post r L) (k : Kept S w w') (hn : ¬ S g) : SlAt w' g T pre post r L := by
  obtain ⟨M, h1, h2, h3⟩ := h
  exact ⟨M, h1, h2, h3.kept k hn⟩
theorem SlAt.later (h : SlAt w g T pre post r L) (hb : Below w.heap.size w w') : SlAt w' g T pre post r L := h.kept (Kept.of_below hb) (fun hf => hf)
theorem SlAt.lt (h : SlAt w g T pre post r L) : g < w.heap.size := by obtain ⟨_, _, _, h3⟩ := h; exact h3.lt
theorem SlAt.ok (h : SlAt w g T pre post r L) : SlOk r L := by obtain ⟨_, _, h2, _⟩ := h; exact h2
theorem SlAt.free (h : SlAt w g T pre post r L) (i : Nat) : w.frozen? ⟨g, i, none⟩ = false := by obtain ⟨_, _, _, h3⟩ := h; exact h3.free i
theorem SlAt.heads (h : SlAt w g T pre post r L) : w.cell? ⟨g, pre.length, none⟩ = some (.int .i64 (L.length : Int)) ∧ w.cell? ⟨g, pre.length + 1, none⟩ = some (.int .i64 (r : Int)) := by
  obtain ⟨M, h1, h2, h3⟩ := h
  have hl := slObj_length r L M
  constructor
  · rw [h3.cell]
    have := mid_get pre (slObj r L M) post 0 (by omega)
    rw [List.getElem?_toArray]; rw [Nat.add_zero] at this; rw [this]; rfl
  · rw [h3.cell]
    have := mid_get pre (slObj r L M) post 1 (by omega)
    rw [List.getElem?_toArray, this]; rfl
theorem SlAt.cells {i : Nat} {x : Sl} (h : SlAt w g T pre post r L) (hx : L[i]? = some x) :
    w.cell? ⟨g, pre.length + 2 + i * 3, none⟩ = some (.int .u64 (x.s : Int)) ∧ w.cell? ⟨g, pre.length + 2 + i * 3 + 1, none⟩ = some (.int .u64 (x.v : Int)) ∧ w.cell? ⟨g, pre.length + 2 + i * 3 + 2, none⟩ = some (.int .i64 x.l) := by
  obtain ⟨M, h1, h2, h3⟩ := h
  have hi : i < L.length := (List.getElem?_eq_some_iff.1 hx).1
  have hl := slObj_length r L M
  rw [List.length_append] at h1 hl
  have hg : ∀ j, j < 3 → w.cell? ⟨g, pre.length + 2 + i * 3 + j, none⟩ = (slF x)[j]? := fun j hj => by
    rw [h3.cell, List.getElem?_toArray, show pre.length + 2 + i * 3 + j = pre.length + (2 + i * 3 + j) by omega, mid_get _ _ _ _ (by omega), slObj_get hx hj]
  exact ⟨hg 0 (by decide), hg 1 (by decide), hg 2 (by decide)⟩
/-- One cell of a place turned. -/
theorem SlAt.put1 {i j : Nat} {x y : Sl} {u : Value} (h : SlAt w g T pre post r L) (hx : L[i]? = some x) (hj : j < 3) (hy : slF y = (slF x).set j u) (hok : slOk r y) :
    SlAt (w.setCell ⟨g, pre.length + 2 + i * 3 + j, none⟩ u) g T pre post r (L.set i y) := by
  obtain ⟨M, h1, h2, h3⟩ := h
  have hi : i < L.length := (List.getElem?_eq_some_iff.1 hx).1
  have hl := slObj_length r L M
  rw [List.length_append] at h1 hl
  refine ⟨M, by rw [List.length_append, List.length_set]; exact h1, h2.set hok i, ?_⟩
  have := h3.putL (pre.length + 2 + i * 3 + j) u
  rw [show pre.length + 2 + i * 3 + j = pre.length + (2 + i * 3 + j) by omega, mid_set _ _ _ _ _ (by omega), slObj_set hx hj hy] at this
  rwa [show pre.length + 2 + i * 3 + j = pre.length + (2 + i * 3 + j) by omega]
/-- A place turned whole. -/
theorem SlAt.put3 {i : Nat} {x y : Sl} (h : SlAt w g T pre post r L) (hx : L[i]? = some x) (hok : slOk r y) :
    SlAt (((w.setCell ⟨g, pre.length + 2 + i * 3, none⟩ (.int .u64 (y.s : Int))).setCell ⟨g, pre.length + 2 + i * 3 + 1, none⟩ (.int .u64 (y.v : Int))).setCell ⟨g, pre.length + 2 + i * 3 + 2, none⟩ (.int .i64 y.l)) g T pre post r (L.set i y) := by
  have hi : i < L.length := (List.getElem?_eq_some_iff.1 hx).1
  have hxo := h.ok.2.2.2.2 x (List.mem_of_getElem? hx)
  have h1 := h.put1 (j := 0) (y := ⟨y.s, x.v, x.l⟩) (u := .int .u64 (y.s : Int)) hx (by decide) rfl ⟨hok.1, hxo.2.1, hxo.2.2.1, hxo.2.2.2⟩
  have h2 := h1.put1 (i := i) (j := 1) (x := ⟨y.s, x.v, x.l⟩) (y := ⟨y.s, y.v, x.l⟩) (u := .int .u64 (y.v : Int)) (by simp [hi]) (by decide) rfl ⟨hok.1, hok.2.1, hxo.2.2.1, hxo.2.2.2⟩
  have h3 := h2.put1 (i := i) (j := 2) (x := ⟨y.s, y.v, x.l⟩) (y := y) (u := .int .i64 y.l) (by simp [hi]) (by decide) rfl hok
  rw [List.set_set, List.set_set] at h3
  exact h3
end
end Go.Proofs.Ytahojmioonpodaa
