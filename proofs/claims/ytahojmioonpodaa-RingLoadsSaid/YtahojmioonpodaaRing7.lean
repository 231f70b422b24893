import Derived.Test.YtahojmioonpodaaRing5
namespace Go.Proofs.Ytahojmioonpodaa
open Go.RowKit
set_option linter.unusedVariables false
set_option linter.unusedSimpArgs false
/-- A ring whose cursors may be any numbers. -/
def RgRaw (w : World) (g : Nat) (T : TypeId) (p0 post : List Value) (R : Rg) : Prop := R.h8.length = 8 ∧ SlAt w g T (p0 ++ cuR R) post R.rd R.L
theorem cuR_len {R : Rg} (h : R.h8.length = 8) : (cuR R).length = 12 := by unfold cuR cuF; simp [h]
section
variable {w w' : World} {g o : Nat} {T : TypeId} {p0 post : List Value} {R : Rg}
theorem RgRaw.later (h : RgRaw w g T p0 post R) (hb : Below w.heap.size w w') : RgRaw w' g T p0 post R := ⟨h.1, h.2.later hb⟩
theorem RgRaw.drewN (h : RgRaw w g T p0 post R) (n : Nat) : RgRaw (w.drewN n) g T p0 post R := h
theorem RgRaw.lt (h : RgRaw w g T p0 post R) : g < w.heap.size := h.2.lt
theorem RgRaw.free (h : RgRaw w g T p0 post R) (i : Nat) : w.frozen? ⟨g, i, none⟩ = false := h.2.free i
theorem RgRaw.cu (h : RgRaw w g T p0 post R) {k : Nat} {v : Value} (hk : (cuR R)[k]? = some v) : w.cell? ⟨g, p0.length + k, none⟩ = some v := by
  refine h.2.pre_cell ?_
  rw [List.getElem?_append_right (by omega), Nat.add_sub_cancel_left, hk]
theorem RgRaw.cells (h : RgRaw w g T p0 post R) : w.cell? ⟨g, p0.length, none⟩ = some (.int .u64 (R.cap : Int)) ∧ w.cell? ⟨g, p0.length + 1, none⟩ = some (.int .i64 (R.rd : Int)) ∧ w.cell? ⟨g, p0.length + 2, none⟩ = some (.int .u64 (R.tail : Int)) ∧
    w.cell? ⟨g, p0.length + 11, none⟩ = some (.bool R.cl) := by
  have h8 := h.1
  refine ⟨h.cu (k := 0) rfl, h.cu (k := 1) rfl, h.cu (k := 2) rfl, h.cu (k := 11) ?_⟩
  unfold cuR cuF
  rw [List.getElem?_append_right (by simp [h8])]
  simp [h8]
theorem RgRaw.head (h : RgRaw w g T p0 post R) {j x : Nat} (hj : R.h8[j]? = some x) : w.cell? ⟨g, p0.length + 3 + j, none⟩ = some (.int .u64 (x : Int)) := by
  have h8 := h.1
  have hjl := (List.getElem?_eq_some_iff.1 hj).1
  rw [Nat.add_assoc]
  refine h.cu (k := 3 + j) ?_
  unfold cuR cuF
  rw [List.getElem?_append_left (by simp; omega), List.getElem?_append_right (by simp)]
  simp [hj]
theorem RgRaw.slots (h : RgRaw w g T p0 post R) : SlAt w g T (p0 ++ cuR R) post R.rd R.L ∧ (p0 ++ cuR R).length = p0.length + 12 := ⟨h.2, by rw [List.length_append, cuR_len h.1]⟩
theorem RgRaw.put (h : RgRaw w g T p0 post R) {R' : Rg} {k : Nat} {u : Value} (hk : k < 12) (h8 : R'.h8.length = 8) (hr : R'.rd = R.rd) (hL : R'.L = R.L) (hc : (cuR R).set k u = cuR R') : RgRaw (w.setCell ⟨g, p0.length + k, none⟩ u) g T p0 post R' := by
  have hl := cuR_len h.1
  refine ⟨h8, ?_⟩
  have := h.2.pre_set (k := p0.length + k) (by rw [List.length_append]; omega) u
  rw [List.set_append_right _ _ (by omega), Nat.add_sub_cancel_left, hc] at this
  rw [hr, hL]; exact this
set_option maxHeartbeats 1000000 in
set_option maxRecDepth 100000 in
theorem cuLeastR (h : RgRaw w g T p0 post R) (ho : p0.length = o) :
    Calls Try.prog 60 #[.pointer (some ⟨g, o, none⟩)] w fun e w' => e = .returned (.int .u64 (leastN R : Nat)) ∧ w = w' := by
  subst ho
  obtain ⟨c0, c1, c2, c3⟩ := h.cells
  have hr1 := h.2.ok.2.2.1
  have hr2 := h.2.ok.2.2.2.1
  have h8 := h.1
  obtain ⟨x0, hx0⟩ : ∃ x, R.h8[0]? = some x := ⟨_, List.getElem?_eq_getElem (by omega)⟩
  have d0 := h.head hx0
  rw [Nat.add_zero] at d0
  have hg0 : R.h8.getD 0 0 = x0 := by rw [List.getD_eq_getElem?_getD, hx0]; rfl
  have HL : Hid (leastN R = (R.h8.take R.rd).foldl min x0) := by show _ = _; unfold leastN; rw [hg0]
  have H := Lib.hid h
  have H8 := Lib.hid h8
  clear h hx0 hg0 h8
  go_enter Try.func60, Try.ntmps60
  go_wp2
  go_loopw [3, 14] (fun x u wr => ∃ k : Nat, k ≤ R.rd ∧ u = .int .i64 k ∧ x = .int .u64 ((R.h8.take k).foldl min x0 : Nat) ∧ wr = w) (fun _ u _ => R.rd - (intOf u).toNat)
  case atStart => exact ⟨0, by omega, rfl, rfl, rfl⟩
  case round =>
    obtain ⟨k, hk, rfl, rfl, rfl⟩ := hrel
    by_cases hlt : k < R.rd
    · have hki : (k : Int) < (R.rd : Int) := by omega
      have hk8 : (k : Int) < 8 := by omega
      obtain ⟨x, hx⟩ : ∃ x, R.h8[k]? = some x := ⟨_, List.getElem?_eq_getElem (by have := H8.out; omega)⟩
      have dk := H.out.head hx
      have hnx : (R.h8.take (k + 1)).foldl min x0 = min ((R.h8.take k).foldl min x0) x := by rw [List.take_add_one, hx, Option.toList_some, List.foldl_append]; rfl
      have HNX := Lib.hid hnx
      clear hx hnx
      generalize (R.h8.take k).foldl min x0 = m at *
      go_wp2
      go_roundw
      case rel => exact ⟨k + 1, by omega, by go_num, by rw [HNX.out]; congr 1; omega, trivial⟩
      case measure => simp [intOf]; omega
    · obtain rfl : k = R.rd := by omega
      have hl := HL.out
      generalize (R.h8.take R.rd).foldl min x0 = m at *
      have HL2 := Lib.hid hl
      clear hl HL
      go_wp2
      go_ret
      exact ⟨ret_int (by rw [HL2.out]), rfl⟩

def headsB (R : Rg) : Bool := (R.h8.take R.rd).all fun h => decide (h ≤ R.tail)
def cursB (R : Rg) : Bool := headsB R && (decide (R.tail < 4611686018427387904) && decide (R.tail - leastN R ≤ R.cap))
theorem leastN_le0 {R : Rg} (h8 : R.h8.length = 8) (hr : 1 ≤ R.rd) (h : headsB R = true) : leastN R ≤ R.tail := by
  refine Nat.le_trans (foldl_min_le _ _) ?_
  rw [List.getD_eq_getElem?_getD, List.getElem?_eq_getElem (by omega)]
  unfold headsB at h
  rw [List.all_eq_true] at h
  refine of_decide_eq_true (h R.h8[0] ?_)
  rw [List.mem_iff_getElem?]
  exact ⟨0, by rw [List.getElem?_take, if_pos (by omega), List.getElem?_eq_getElem]⟩
set_option maxHeartbeats 1000000 in
set_option maxRecDepth 100000 in
theorem rgCursorsRight (h : RgRaw w g T p0 post R) (ho : p0.length = o) :
    Calls Try.prog 42 #[.pointer (some ⟨g, o, none⟩)] w fun e w' => e = .returned (.bool (cursB R)) ∧ ∃ n, w' = w.drewN n := by
  have HL := Lib.hid (fun w' (h : RgRaw w' g T p0 post R) => cuLeastR h ho)
  subst ho
  obtain ⟨c0, c1, c2, c3⟩ := h.cells
  have hr1 := h.2.ok.2.2.1
  have hr2 := h.2.ok.2.2.2.1
  have H8 := Lib.hid h.1
  have H := Lib.hid h
  clear h
  go_enter Try.func42, Try.ntmps42
  go_wp2
  go_loopw [9] (fun u wr => ∃ k nd : Nat, k ≤ R.rd ∧ u = .int .i64 k ∧ Hid (∀ i x, i < k → R.h8[i]? = some x → x ≤ R.tail) ∧ wr = w.drewN nd) (fun u _ => R.rd - (intOf u).toNat)
  case atStart => exact ⟨0, 0, by omega, rfl, (fun i x hi => by omega), rfl⟩
  case round =>
    obtain ⟨k, nd, hk, rfl, hall, hw⟩ := hrel
    obtain ⟨c0, c1, c2, c3⟩ := (show RgRaw wr g T p0 post R by rw [hw]; exact H.out.drewN nd).cells
    have HR := Lib.hid (show RgRaw wr g T p0 post R by rw [hw]; exact H.out.drewN nd)
    have HW := Lib.hid hw
    clear hw
    by_cases hlt : k < R.rd
    · have hki : (k : Int) < (R.rd : Int) := by omega
      have hk8 : (k : Int) < 8 := by omega
      obtain ⟨x, hx⟩ : ∃ x, R.h8[k]? = some x := ⟨_, List.getElem?_eq_getElem (by have := H8.out; omega)⟩
      have dk := HR.out.head hx
      have HX := Lib.hid hx
      clear hx
      by_cases hle : x ≤ R.tail
      · have hall2 : Hid (∀ i x, i < k + 1 → R.h8[i]? = some x → x ≤ R.tail) := fun i y hi hy => by
          by_cases e : i = k
          · subst e; rw [HX.out] at hy; injection hy with hy; omega
          · exact hall.out i y (by omega) hy
        go_wp2
        go_quiet (fail)
        go_wp2
        go_roundw
        case rel => exact ⟨k + 1, nd + nq, by omega, by go_num, hall2, by rw [HW.out, World.drewN_drewN]⟩
        case measure => simp [intOf]; omega
      · have HF : Hid (cursB R = false) := by
          show _ = _
          unfold cursB headsB
          rw [Bool.and_eq_false_iff]; left
          rw [List.all_eq_false]
          exact ⟨x, by rw [List.mem_iff_getElem?]; exact ⟨k, by rw [List.getElem?_take, if_pos hlt, HX.out]⟩, by simpa using hle⟩
        go_wp2
        go_quiet (fail)
        go_wp2
        go_ret
        exact ⟨ret_bool (by rw [HF.out]), nd + nq, by rw [HW.out, World.drewN_drewN]⟩
    · obtain rfl : k = R.rd := by omega
      have hhd : headsB R = true := by
        unfold headsB
        rw [List.all_eq_true]
        intro x hx
        obtain ⟨i, hi⟩ := List.mem_iff_getElem?.1 hx
        rw [List.getElem?_take] at hi
        split at hi
        · exact decide_eq_true (hall.out i x ‹_› hi)
        · simp at hi
      have hle := leastN_le0 H8.out hr1 hhd
      have HCB : Hid (cursB R = (decide (R.tail < 4611686018427387904) && decide (R.tail - leastN R ≤ R.cap))) := by show _ = _; unfold cursB; rw [hhd, Bool.true_and]
      clear hhd hall
      obtain ⟨TT, hTT⟩ : ∃ TT : Int, TT = (R.tail : Int) := ⟨_, rfl⟩
      rw [← hTT] at c2
      by_cases ht : R.tail < 4611686018427387904
      · have hsub : IntKind.u64.wrap (TT - (leastN R : Int)) = ((R.tail - leastN R : Nat) : Int) := by rw [IntKind.wrap_u64, hTT]; omega
        have e1 : decide (TT < 4611686018427387904) = true := by rw [decide_eq_true_iff]; omega
        have HF : Hid (cursB R = decide (R.tail - leastN R ≤ R.cap)) := by show _ = _; rw [HCB.out, decide_eq_true ht, Bool.true_and]
        clear HCB hTT ht hle
        generalize R.tail - leastN R = d at *
        generalize leastN R = m at *
        go_wp2
        go_quiet ((go_at_call 60; exact quiet_same3 ((HL.out _ (by exact HR.out))) ⟨_, rfl⟩))
        go_wp2
        go_ret
        exact ⟨ret_bool (by rw [HF.out]), nd + nq, by rw [HW.out, World.drewN_drewN]⟩
      · have HF : Hid (cursB R = false) := by show _ = _; rw [HCB.out, decide_eq_false ht, Bool.false_and]
        have e1 : decide (TT < 4611686018427387904) = false := by rw [decide_eq_false_iff_not]; omega
        clear HCB hle hTT ht
        go_wp2
        go_quiet ((go_at_call 60; exact quiet_same3 ((HL.out _ (by exact HR.out))) ⟨_, rfl⟩))
        go_wp2
        go_ret
        exact ⟨ret_bool (by rw [HF.out]), nd + nq, by rw [HW.out, World.drewN_drewN]⟩
/-! ## Whether all readers have passed a ticket -/
def passB (R : Rg) (t : Nat) (l : Int) : Bool := (List.range R.rd).all fun j => hasBit l j || decide (t < R.h8.getD j 0)
theorem shr_bits : ∀ n : Nat, n < 256 → ∀ j : Nat, j < 8 → bits .and .i64 (((n : Int)) / 2 ^ j) 1 = (n : Int) / 2 ^ j % 2 := by decide +kernel
set_option maxHeartbeats 1000000 in
set_option maxRecDepth 100000 in
theorem cuPassed (t : Nat) (l : Int) (h : RgRaw w g T p0 post R) (ho : p0.length = o) (hl0 : 0 ≤ l) (hl1 : l ≤ 255) :
    Calls Try.prog 61 #[.pointer (some ⟨g, o, none⟩), .int .u64 t, .int .i64 l] w fun e w' => e = .returned (.bool (passB R t l)) ∧ w = w' := by
  subst ho
  obtain ⟨c0, c1, c2, c3⟩ := h.cells
  have hr1 := h.2.ok.2.2.1
  have hr2 := h.2.ok.2.2.2.1
  have H8 := Lib.hid h.1
  have H := Lib.hid h
  clear h
  go_enter Try.func61, Try.ntmps61
  go_wp2
  go_loopw [12] (fun u wr => ∃ k : Nat, k ≤ R.rd ∧ u = .int .i64 k ∧ Hid (∀ i, i < k → (hasBit l i || decide (t < R.h8.getD i 0)) = true) ∧ wr = w) (fun u _ => R.rd - (intOf u).toNat)
  case atStart => exact ⟨0, by omega, rfl, (fun i hi => by omega), rfl⟩
  case round =>
    obtain ⟨k, hk, rfl, hall, rfl⟩ := hrel
    by_cases hlt : k < R.rd
    · have hki : (k : Int) < (R.rd : Int) := by omega
      have hk8 : (k : Int) < 8 := by omega
      obtain ⟨x, hx⟩ : ∃ x, R.h8[k]? = some x := ⟨_, List.getElem?_eq_getElem (by have := H8.out; omega)⟩
      have dk := H.out.head hx
      have HX : Hid (R.h8.getD k 0 = x) := by show _ = _; rw [List.getD_eq_getElem?_getD, hx]; rfl
      clear hx
      have hbt : (bits .and .i64 (l / 2 ^ k) 1 == 0) = !hasBit l k := by
        obtain ⟨n, rfl⟩ : ∃ n : Nat, l = n := ⟨l.toNat, by omega⟩
        rw [shr_bits n (by omega) k (by omega)]
        unfold hasBit
        rw [Bool.eq_iff_iff]; simp; omega
      have hnext : (hasBit l k || decide (t < x)) = true → ∀ i, i < k + 1 → (hasBit l i || decide (t < R.h8.getD i 0)) = true := fun hp i hi => by
        by_cases e : i = k
        · subst e; rw [HX.out]; exact hp
        · exact hall.out i (by omega)
      have hno : (hasBit l k || decide (t < x)) = false → passB R t l = false := fun hp => by
        unfold passB
        rw [List.all_eq_false]
        exact ⟨k, List.mem_range.2 hlt, by rw [HX.out, hp]; simp⟩
      have HNX := Lib.hid hnext
      have HNO := Lib.hid hno
      clear hnext hno hall
      cases hh : hasBit l k
      · rw [hh] at hbt HNX HNO
        by_cases hle : x ≤ t
        · have HF := Lib.hid (HNO.out (by rw [Bool.false_or]; exact decide_eq_false (by omega)))
          clear hh HNX HNO
          go_wp2
          go_ret
          exact ⟨ret_bool (by rw [HF.out]), rfl⟩
        · have HALL2 := Lib.hid (HNX.out (by rw [Bool.false_or]; exact decide_eq_true (by omega)))
          clear hh HNX HNO
          go_wp2
          go_roundw
          case rel => exact ⟨k + 1, by omega, by go_num, HALL2, trivial⟩
          case measure => simp [intOf]; omega
      · rw [hh] at hbt HNX HNO
        have HALL2 := Lib.hid (HNX.out (by rw [Bool.true_or]))
        clear hh HNX HNO
        go_wp2
        go_roundw
        case rel => exact ⟨k + 1, by omega, by go_num, HALL2, trivial⟩
        case measure => simp [intOf]; omega
    · obtain rfl : k = R.rd := by omega
      have HF : Hid (passB R t l = true) := by
        show _ = _
        unfold passB
        rw [List.all_eq_true]
        exact fun i hi => hall.out i (List.mem_range.1 hi)
      go_wp2
      go_ret
      exact ⟨ret_bool (by rw [HF.out]), rfl⟩
end
end Go.Proofs.Ytahojmioonpodaa
