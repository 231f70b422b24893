/-
  The first event that may not be (layer 15): event.Check and the document's Check.
-/
import Derived.Test.YtndcnflboikodaaDoorEvrr
namespace Go.Proofs.YtndcnflboikodaaDoor
open Go.RowKit
set_option linter.unusedVariables false
set_option linter.unusedSimpArgs false
def chE (l : List Ev) : Nat × Nat := if 65536 < l.length then (0, 4) else match l.findIdx? (fun x => !rightE x) with | some i => (i, 3) | none => (0, 0)
theorem chE_long {l : List Ev} (h : 65536 < l.length) : chE l = (0, 4) := if_pos h
theorem chE_at {l : List Ev} {k : Nat} {x : Ev} (h : ¬ 65536 < l.length) (ha : ∀ y ∈ l.take k, rightE y = true) (hx : l[k]? = some x) (hr : rightE x = false) : chE l = (k, 3) := by
  unfold chE
  rw [if_neg h]
  have : l.findIdx? (fun x => !rightE x) = some k := by
    obtain ⟨hl, hxe⟩ := List.getElem?_eq_some_iff.1 hx
    rw [List.findIdx?_eq_some_iff_getElem]
    refine ⟨hl, by rw [hxe, hr]; rfl, fun j hj => ?_⟩
    have := ha (l[j]'(by omega)) (List.mem_take_iff_getElem.2 ⟨j, by omega, rfl⟩)
    rw [this]; decide
  rw [this]
theorem chE_ok {l : List Ev} (h : ¬ 65536 < l.length) (ha : ∀ y ∈ l, rightE y = true) : chE l = (0, 0) := by
  unfold chE
  rw [if_neg h]
  have : l.findIdx? (fun x => !rightE x) = none := by
    rw [List.findIdx?_eq_none_iff]
    intro x hx
    rw [ha x hx]; rfl
  rw [this]
theorem chE_zero {l : List Ev} (h : (chE l).2 = 0) : l.length ≤ 65536 ∧ ∀ y ∈ l, rightE y = true := by
  unfold chE at h
  split at h
  · cases h
  · rename_i hl
    refine ⟨by omega, fun y hy => ?_⟩
    cases hf : l.findIdx? (fun x => !rightE x) with
    | some i => rw [hf] at h; cases h
    | none =>
      have := List.findIdx?_eq_none_iff.1 hf y hy
      simpa using this
theorem ev_take_next {l : List Ev} {k : Nat} {x : Ev} (ha : ∀ y ∈ l.take k, rightE y = true) (hx : l[k]? = some x) (hr : rightE x = true) : ∀ y ∈ l.take (k + 1), rightE y = true := by
  intro y hy
  rw [List.take_add_one, hx, Option.toList_some, List.mem_append] at hy
  rcases hy with hy | hy
  · exact ha y hy
  · rw [List.mem_singleton] at hy; subst hy; exact hr
theorem ret_2n {a b : Nat} {p : Nat × Nat} (h : p = (a, b)) {k k2 : IntKind} : Ending.returned (.tuple #[.int k (a : Int), .int k2 (b : Int)]) = .returned (.tuple #[.int k ((p.1 : Nat) : Int), .int k2 ((p.2 : Nat) : Int)]) := by rw [h]
set_option maxHeartbeats 8000000 in
set_option maxRecDepth 100000 in
theorem check15 (l : List Ev) (A : Option Addr) (c : Nat) (w : World) (h : EvsAt w A c l) :
    Calls Tryd.prog 20 #[.slice A l.length c] w fun e w' => e = .returned (.tuple #[.int .i64 ((chE l).1 : Nat), .int .i64 ((chE l).2 : Nat)]) ∧ Below w.heap.size w w' := by
  obtain ⟨A', c', e', h1, h2, _⟩ := h.form
  simp only [Value.slice.injEq, true_and] at e'
  obtain ⟨rfl, rfl⟩ := e'
  unfold maxLen at h2
  have HH := Lib.hid h
  have HB := Lib.hid (Below.refl w.heap.size w)
  have HLO := Lib.hid (@chE_long l)
  have HAT := Lib.hid (fun k x => @chE_at l k x)
  have HOK := Lib.hid (@chE_ok l)
  clear h
  by_cases hl : 65536 < l.length
  · have e1 : decide ((65536 : Int) < (l.length : Int)) = true := decide_eq_true (by omega)
    have e2 : decide (65536 < l.length) = true := decide_eq_true hl
    have HE := Lib.hid (HLO.out hl)
    clear HLO HAT HOK
    go_enter Tryd.func20, Tryd.ntmps20
    go_wp2
    go_ret2
    exact ⟨ret_2n HE.out, HB.out⟩
  have e1 : decide ((65536 : Int) < (l.length : Int)) = false := decide_eq_false (by omega)
  have e2 : decide (65536 < l.length) = false := decide_eq_false hl
  have HAT2 := Lib.hid (fun k x => HAT.out k x hl)
  have HOK2 := Lib.hid (HOK.out hl)
  clear HLO HAT HOK hl
  go_enter Tryd.func20, Tryd.ntmps20
  go_wp2_with fail
  go_loopw [11] (fun u wr => ∃ k : Nat, k ≤ l.length ∧ u = .int .i64 k ∧ Hid (∀ y ∈ l.take k, rightE y = true) ∧ Hid (Below w.heap.size w wr)) (fun u _ => l.length - (intOf u).toNat)
  case atStart => exact ⟨0, by omega, rfl, (by show ∀ y ∈ l.take 0, _; simp), HB⟩
  case round =>
    clear HB
    obtain ⟨k, hk, rfl, HA, HB⟩ := hrel
    by_cases hlt : k < l.length
    · have hki : (k : Int) < (l.length : Int) := by omega
      obtain ⟨x, hx⟩ : ∃ x, l[k]? = some x := ⟨_, List.getElem?_eq_getElem hlt⟩
      obtain ⟨b, off, rfl, hbl, hg⟩ := EvsAt.at_ (HH.out.later HB.out) hx
      have g0 := hg 0 _ (by decide) rfl
      have g1 := hg 1 _ (by decide) rfl
      have g2 := hg 2 _ (by decide) rfl
      have g3 := hg 3 _ (by decide) rfl
      have g4 := hg 4 _ (by decide) rfl
      rw [Nat.add_zero] at g0
      have hbx : Below wr.heap.size wr (wr.alloc (.cells (evC x) 24)) := (Below.refl _ _).alloc (Nat.le_refl _) _
      have HB2 := Lib.hid (HB.out.trans (hbx.mono HB.out.size))
      have HR := Lib.hid (fun w => right15 x w)
      have HX := Lib.hid hx
      clear hg hx hbx HB
      obtain ⟨rb, hrb⟩ : ∃ rb, rightE x = rb := ⟨_, rfl⟩
      rw [hrb] at HR
      have HRB := Lib.hid hrb
      clear hrb
      go_wp2_with fail
      generalize wr.alloc (.cells (evC x) 24) = w2 at *
      refine (HR.out _).mono ?_
      rintro e w3 ⟨rfl, hbm⟩
      have HB3 := Lib.hid (HB2.out.trans (hbm.mono HB2.out.size))
      clear hbm g0 g1 g2 g3 g4 HR
      cases rb with
      | false =>
        have HE := Lib.hid (HAT2.out k x HA.out HX.out HRB.out)
        clear HAT2 HOK2
        go_wp2
        go_ret2
        exact ⟨ret_2n HE.out, HB3.out⟩
      | true =>
        have HA2 := Lib.hid (ev_take_next HA.out HX.out HRB.out)
        go_wp2
        go_roundw
        case rel => exact ⟨k + 1, by omega, by go_num, HA2, HB3⟩
        case measure => simp [intOf]; omega
    · obtain rfl : k = l.length := by omega
      have HE := Lib.hid (HOK2.out (by have := HA.out; rwa [List.take_length] at this))
      clear HAT2 HOK2
      go_wp2
      go_ret2
      exact ⟨ret_2n HE.out, HB.out⟩
set_option maxHeartbeats 8000000 in
set_option maxRecDepth 100000 in
theorem rfCheck15 (l : List Ev) (A : Option Addr) (c : Nat) (w : World) (h : EvsAt w A c l) :
    Calls Tryd.prog 21 #[.slice A l.length c] w fun e w' => e = .returned (.tuple #[.int .i64 ((chE l).1 : Nat), .int .i64 ((chE l).2 : Nat)]) ∧ Below w.heap.size w w' := by
  obtain ⟨A', c', e', h1, h2, _⟩ := h.form
  simp only [Value.slice.injEq, true_and] at e'
  obtain ⟨rfl, rfl⟩ := e'
  unfold maxLen at h2
  have HH := Lib.hid h
  have HB := Lib.hid (Below.refl w.heap.size w)
  have HLO := Lib.hid (@chE_long l)
  have HAT := Lib.hid (fun k x => @chE_at l k x)
  have HOK := Lib.hid (@chE_ok l)
  clear h
  by_cases hl : 65536 < l.length
  · have e1 : decide ((65536 : Int) < (l.length : Int)) = true := decide_eq_true (by omega)
    have e2 : decide (65536 < l.length) = true := decide_eq_true hl
    have HE := Lib.hid (HLO.out hl)
    clear HLO HAT HOK
    go_enter Tryd.func21, Tryd.ntmps21
    go_wp2
    go_ret2
    exact ⟨ret_2n HE.out, HB.out⟩
  have e1 : decide ((65536 : Int) < (l.length : Int)) = false := decide_eq_false (by omega)
  have e2 : decide (65536 < l.length) = false := decide_eq_false hl
  have HAT2 := Lib.hid (fun k x => HAT.out k x hl)
  have HOK2 := Lib.hid (HOK.out hl)
  clear HLO HAT HOK hl
  go_enter Tryd.func21, Tryd.ntmps21
  go_wp2_with fail
  go_loopw [4] (fun u wr => ∃ k : Nat, k ≤ l.length ∧ u = .int .i64 k ∧ Hid (∀ y ∈ l.take k, rightE y = true) ∧ Hid (Below w.heap.size w wr)) (fun u _ => l.length - (intOf u).toNat)
  case atStart => exact ⟨0, by omega, rfl, (by show ∀ y ∈ l.take 0, _; simp), HB⟩
  case round =>
    clear HB
    obtain ⟨k, hk, rfl, HA, HB⟩ := hrel
    by_cases hlt : k < l.length
    · have hki : (k : Int) < (l.length : Int) := by omega
      obtain ⟨x, hx⟩ : ∃ x, l[k]? = some x := ⟨_, List.getElem?_eq_getElem hlt⟩
      obtain ⟨b, off, rfl, hbl, hg⟩ := EvsAt.at_ (HH.out.later HB.out) hx
      have g0 := hg 0 _ (by decide) rfl
      have g1 := hg 1 _ (by decide) rfl
      have g2 := hg 2 _ (by decide) rfl
      have g3 := hg 3 _ (by decide) rfl
      have g4 := hg 4 _ (by decide) rfl
      rw [Nat.add_zero] at g0
      have HB2 := HB
      have HR := Lib.hid (fun w => rfRight15 x w)
      have HX := Lib.hid hx
      clear hg hx HB
      obtain ⟨rb, hrb⟩ : ∃ rb, rightE x = rb := ⟨_, rfl⟩
      rw [hrb] at HR
      have HRB := Lib.hid hrb
      clear hrb
      go_wp2_with fail
      refine (HR.out _).mono ?_
      rintro e w3 ⟨rfl, hbm⟩
      have HB3 := Lib.hid (HB2.out.trans (hbm.mono HB2.out.size))
      clear hbm g0 g1 g2 g3 g4 HR
      cases rb with
      | false =>
        have HE := Lib.hid (HAT2.out k x HA.out HX.out HRB.out)
        clear HAT2 HOK2
        go_wp2
        go_ret2
        exact ⟨ret_2n HE.out, HB3.out⟩
      | true =>
        have HA2 := Lib.hid (ev_take_next HA.out HX.out HRB.out)
        go_wp2
        go_roundw
        case rel => exact ⟨k + 1, by omega, by go_num, HA2, HB3⟩
        case measure => simp [intOf]; omega
    · obtain rfl : k = l.length := by omega
      have HE := Lib.hid (HOK2.out (by have := HA.out; rwa [List.take_length] at this))
      clear HAT2 HOK2
      go_wp2
      go_ret2
      exact ⟨ret_2n HE.out, HB.out⟩
end Go.Proofs.YtndcnflboikodaaDoor
