/-
  A ring as it lies in memory: its cursors, and its slots behind them. The cursors' own calls.
-/
import Derived.Test.YtahojmioonpodaaRgnew
namespace Go.Proofs.Ytahojmioonpodaa
open Go.RowKit
set_option linter.unusedVariables false
set_option linter.unusedSimpArgs false
structure Rg where
  cap : Nat
  rd : Nat
  tail : Nat
  h8 : List Nat
  cl : Bool
  L : List Sl
def RgOk (R : Rg) : Prop := R.h8.length = 8 ∧ SlOk R.rd R.L ∧ R.cap = R.L.length ∧ R.tail ≤ 4611687117939015680 ∧ ∀ h ∈ R.h8, h ≤ R.tail
def cuR (R : Rg) : List Value := cuF R.cap R.rd R.tail R.h8 R.cl
/-- A ring that lies in block g behind the cells p0, ahead of the cells post. -/
def RgAt (w : World) (g : Nat) (T : TypeId) (p0 post : List Value) (R : Rg) : Prop := RgOk R ∧ SlAt w g T (p0 ++ cuR R) post R.rd R.L
theorem cuR_length {R : Rg} (h : RgOk R) : (cuR R).length = 12 := by unfold cuR cuF; simp [h.1]
section
variable {w w' : World} {g : Nat} {T : TypeId} {pre p0 post : List Value} {r : Nat} {L : List Sl} {R : Rg}
theorem SlAt.pre_cell (h : SlAt w g T pre post r L) {k : Nat} {v : Value} (hk : pre[k]? = some v) : w.cell? ⟨g, k, none⟩ = some v := by
  obtain ⟨M, _, _, h3⟩ := h
  rw [h3.cell, List.getElem?_toArray, List.getElem?_append_left (List.getElem?_eq_some_iff.1 hk).1, hk]
theorem SlAt.pre_set (h : SlAt w g T pre post r L) {k : Nat} (hk : k < pre.length) (u : Value) : SlAt (w.setCell ⟨g, k, none⟩ u) g T (pre.set k u) post r L := by
  obtain ⟨M, h1, h2, h3⟩ := h
  refine ⟨M, h1, h2, ?_⟩
  have := h3.putL k u
  rwa [List.set_append_left _ _ hk] at this
theorem RgAt.kept {S : Nat → Prop} (h : RgAt w g T p0 post R) (k : Kept S w w') (hn : ¬ S g) : RgAt w' g T p0 post R := ⟨h.1, h.2.kept k hn⟩
theorem RgAt.later (h : RgAt w g T p0 post R) (hb : Below w.heap.size w w') : RgAt w' g T p0 post R := ⟨h.1, h.2.later hb⟩
theorem RgAt.drewN (h : RgAt w g T p0 post R) (n : Nat) : RgAt (w.drewN n) g T p0 post R := h
theorem RgAt.lt (h : RgAt w g T p0 post R) : g < w.heap.size := h.2.lt
theorem RgAt.cu (h : RgAt w g T p0 post R) {k : Nat} {v : Value} (hk : (cuR R)[k]? = some v) : w.cell? ⟨g, p0.length + k, none⟩ = some v := by
  refine h.2.pre_cell ?_
  rw [List.getElem?_append_right (by omega), Nat.add_sub_cancel_left, hk]
theorem RgAt.cells (h : RgAt w g T p0 post R) : w.cell? ⟨g, p0.length, none⟩ = some (.int .u64 (R.cap : Int)) ∧ w.cell? ⟨g, p0.length + 1, none⟩ = some (.int .i64 (R.rd : Int)) ∧ w.cell? ⟨g, p0.length + 2, none⟩ = some (.int .u64 (R.tail : Int)) ∧
    w.cell? ⟨g, p0.length + 11, none⟩ = some (.bool R.cl) := by
  have h8 := h.1.1
  refine ⟨h.cu (k := 0) rfl, h.cu (k := 1) rfl, h.cu (k := 2) rfl, h.cu (k := 11) ?_⟩
  unfold cuR cuF
  rw [List.getElem?_append_right (by simp [h8])]
  simp [h8]
theorem RgAt.head (h : RgAt w g T p0 post R) {j x : Nat} (hj : R.h8[j]? = some x) : w.cell? ⟨g, p0.length + 3 + j, none⟩ = some (.int .u64 (x : Int)) := by
  have h8 := h.1.1
  have hjl := (List.getElem?_eq_some_iff.1 hj).1
  rw [Nat.add_assoc]
  refine h.cu (k := 3 + j) ?_
  unfold cuR cuF
  rw [List.getElem?_append_left (by simp; omega), List.getElem?_append_right (by simp)]
  simp [hj]
theorem RgAt.free (h : RgAt w g T p0 post R) (i : Nat) : w.frozen? ⟨g, i, none⟩ = false := h.2.free i
theorem RgAt.slots (h : RgAt w g T p0 post R) : SlAt w g T (p0 ++ cuR R) post R.rd R.L ∧ (p0 ++ cuR R).length = p0.length + 12 := ⟨h.2, by rw [List.length_append, cuR_length h.1]⟩
theorem RgAt.put (h : RgAt w g T p0 post R) {R' : Rg} {k : Nat} {u : Value} (hk : k < 12) (hok : RgOk R') (hr : R'.rd = R.rd) (hL : R'.L = R.L) (hc : (cuR R).set k u = cuR R') : RgAt (w.setCell ⟨g, p0.length + k, none⟩ u) g T p0 post R' := by
  have hl := cuR_length h.1
  refine ⟨hok, ?_⟩
  have := h.2.pre_set (k := p0.length + k) (by rw [List.length_append]; omega) u
  rw [List.set_append_right _ _ (by omega), Nat.add_sub_cancel_left, hc] at this
  rw [hr, hL]; exact this
end
/-! ## What the cursors say -/
def leastN (R : Rg) : Nat := (R.h8.take R.rd).foldl min (R.h8.getD 0 0)
def readsB (R : Rg) (j : Int) : Bool := decide (0 ≤ j ∧ j < (R.rd : Int))
def fullB (R : Rg) : Bool := decide (R.cap ≤ R.tail - leastN R)
def headN (R : Rg) (j : Int) : Nat := R.h8.getD j.toNat 0
def emptyB (R : Rg) (j : Int) : Bool := !readsB R j || decide (headN R j = R.tail)
theorem foldl_min_le (l : List Nat) : ∀ a, l.foldl min a ≤ a := by
  induction l with
  | nil => intro a; exact Nat.le_refl _
  | cons b l ih => intro a; exact Nat.le_trans (ih _) (Nat.min_le_left _ _)
theorem leastN_le {R : Rg} (h : RgOk R) : leastN R ≤ R.tail := by
  refine Nat.le_trans (foldl_min_le _ _) ?_
  have h8 := h.1
  rw [List.getD_eq_getElem?_getD, List.getElem?_eq_getElem (by omega)]
  exact h.2.2.2.2 _ (List.getElem_mem _)
section
variable {w : World} {g o : Nat} {T : TypeId} {p0 post : List Value} {R : Rg}
theorem cuReads (j : Int) (w : World) (h : w.cell? ⟨g, o + 1, none⟩ = some (.int .i64 (R.rd : Int))) :
    Calls Try.prog 49 #[.pointer (some ⟨g, o, none⟩), .int .i64 j] w fun e w' => e = .returned (.bool (readsB R j)) ∧ w = w' := by
  by_cases h0 : 0 ≤ j
  · have e0 : decide ((0 : Int) ≤ j) = true := by simpa using h0
    have HR : Hid (readsB R j = decide (j < (R.rd : Int))) := by show _ = _; unfold readsB; congr 1; apply propext; omega
    clear h0
    go_enter Try.func49, Try.ntmps49
    go_wp2
    go_ret
    exact ⟨ret_bool (by rw [HR.out]), rfl⟩
  · have e0 : decide ((0 : Int) ≤ j) = false := by simpa using h0
    have HR : Hid (readsB R j = false) := by show _ = _; unfold readsB; rw [decide_eq_false (fun h => h0 h.1)]
    clear h0
    go_enter Try.func49, Try.ntmps49
    go_wp2
    go_ret
    exact ⟨ret_bool (by rw [HR.out]), rfl⟩
set_option maxHeartbeats 1000000 in
set_option maxRecDepth 100000 in
theorem cuLeast (h : RgAt w g T p0 post R) (ho : p0.length = o) :
    Calls Try.prog 60 #[.pointer (some ⟨g, o, none⟩)] w fun e w' => e = .returned (.int .u64 (leastN R : Nat)) ∧ w = w' := by
  subst ho
  obtain ⟨c0, c1, c2, c3⟩ := h.cells
  have hr1 := h.1.2.1.2.2.1
  have hr2 := h.1.2.1.2.2.2.1
  have h8 := h.1.1
  obtain ⟨x0, hx0⟩ : ∃ x, R.h8[0]? = some x := ⟨_, List.getElem?_eq_getElem (by omega)⟩
  have d0 := h.head hx0
  rw [Nat.add_zero] at d0
  have hg0 : R.h8.getD 0 0 = x0 := by rw [List.getD_eq_getElem?_getD, hx0]; rfl
  have HL : Hid (leastN R = (R.h8.take R.rd).foldl min x0) := by show _ = _; unfold leastN; rw [hg0]
  have H := Lib.hid h
  have H8 := Lib.hid h8
  clear h hx0 hg0 h8
  go_enter Try.func60, Try.ntmps60
  go_wp2
  go_loopw [3, 14] (fun x u wr => ∃ k : Nat, k ≤ R.rd ∧ u = .int .i64 k ∧ x = .int .u64 ((R.h8.take k).foldl min x0 : Nat) ∧ wr = w) (fun _ u _ => R.rd - (intOf u).toNat)
  case atStart => exact ⟨0, by omega, rfl, rfl, rfl⟩
  case round =>
    obtain ⟨k, hk, rfl, rfl, rfl⟩ := hrel
    by_cases hlt : k < R.rd
    · have hki : (k : Int) < (R.rd : Int) := by omega
      have hk8 : (k : Int) < 8 := by omega
      obtain ⟨x, hx⟩ : ∃ x, R.h8[k]? = some x := ⟨_, List.getElem?_eq_getElem (by have := H8.out; omega)⟩
      have dk := H.out.head hx
      have hnx : (R.h8.take (k + 1)).foldl min x0 = min ((R.h8.take k).foldl min x0) x := by rw [List.take_add_one, hx, Option.toList_some, List.foldl_append]; rfl
      have HNX := Lib.hid hnx
      clear hx hnx
      generalize (R.h8.take k).foldl min x0 = m at *
      go_wp2
      go_roundw
      case rel => exact ⟨k + 1, by omega, by go_num, by rw [HNX.out]; congr 1; omega, trivial⟩
      case measure => simp [intOf]; omega
    · obtain rfl : k = R.rd := by omega
      have hl := HL.out
      generalize (R.h8.take R.rd).foldl min x0 = m at *
      have HL2 := Lib.hid hl
      clear hl HL
      go_wp2
      go_ret
      exact ⟨ret_int (by rw [HL2.out]), rfl⟩
end
end Go.Proofs.Ytahojmioonpodaa
