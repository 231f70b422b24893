/-
  Two lists of events that are the same (layer 15): event.Same and the document's Same.
-/
import Derived.Test.YtndcnflboikodaaDoorEv
import Derived.Test.YtndcnflboikodaaDoorOwn
import Derived.Test.YtndcnflboikodaaDoorQuiet
namespace Go.Proofs.YtndcnflboikodaaDoor
open Go.RowKit
set_option linter.unusedVariables false
set_option linter.unusedSimpArgs false
set_option maxHeartbeats 8000000 in
set_option maxRecDepth 100000 in
theorem same15 (a b : List Ev) (A : Option Addr) (c : Nat) (B : Option Addr) (d : Nat) (w : World) (h : EvsAt w A c a) (k : EvsAt w B d b) :
    Calls Tryd.prog 26 #[.slice A a.length c, .slice B b.length d] w fun e w' => e = .returned (.bool (decide (a = b))) ∧ Below w.heap.size w w' := by
  obtain ⟨A', c', e', h1, h2, _⟩ := h.form
  simp only [Value.slice.injEq, true_and] at e'
  obtain ⟨rfl, rfl⟩ := e'
  obtain ⟨B', d', e', k1, k2, _⟩ := k.form
  simp only [Value.slice.injEq, true_and] at e'
  obtain ⟨rfl, rfl⟩ := e'
  unfold maxLen at h2 k2
  have HH := Lib.hid h
  have HK := Lib.hid k
  have HNO : Hid (a ≠ b → decide (a = b) = false) := fun h => decide_eq_false h
  have HYES : Hid (a = b → decide (a = b) = true) := fun h => decide_eq_true h
  clear h k
  by_cases hl : a.length = b.length
  case neg =>
    have e1 : ((a.length : Int) != (b.length : Int)) = true := by rw [bne_iff_ne]; omega
    have e2 : (a.length != b.length) = true := by rw [bne_iff_ne]; exact hl
    have HE := Lib.hid (HNO.out (fun e => hl (by rw [e])))
    clear HNO HYES hl
    go_enter Tryd.func26, Tryd.ntmps26
    go_wp2
    go_ret
    exact ⟨ret_bool (by rw [HE.out]), Below.refl _ _⟩
  have e1 : ((a.length : Int) != (b.length : Int)) = false := by rw [bne_eq_false_iff_eq]; omega
  have e2 : (a.length != b.length) = false := by rw [bne_eq_false_iff_eq]; exact hl
  have HLN := Lib.hid hl
  clear hl
  go_enter Tryd.func26, Tryd.ntmps26
  go_wp2_with fail
  go_loopw [13] (fun u wr => ∃ i : Nat, i ≤ a.length ∧ u = .int .i64 i ∧ Hid (a.take i = b.take i) ∧ ∃ n, wr = w.drewN n) (fun u _ => a.length - (intOf u).toNat)
  case atStart => exact ⟨0, by omega, rfl, (by show _ = _; rfl), 0, rfl⟩
  case round =>
    obtain ⟨i, hi, rfl, htk, nd, rfl⟩ := hrel
    by_cases hlt : i < a.length
    · have hii : (i : Int) < (a.length : Int) := by omega
      have hii2 : (i : Int) < (b.length : Int) := by have := HLN.out; omega
      obtain ⟨x, hx⟩ : ∃ x, a[i]? = some x := ⟨_, List.getElem?_eq_getElem hlt⟩
      obtain ⟨y, hy⟩ : ∃ y, b[i]? = some y := ⟨_, List.getElem?_eq_getElem (by have := HLN.out; omega)⟩
      obtain ⟨b1, o1, rfl, gl1, g1⟩ := EvsAt.at_ HH.out hx
      obtain ⟨b2, o2, rfl, gl2, g2⟩ := EvsAt.at_ HK.out hy
      have x0 := g1 0 _ (by decide) rfl
      have x1 := g1 1 _ (by decide) rfl
      have x2 := g1 2 _ (by decide) rfl
      have x3 := g1 3 _ (by decide) rfl
      have x4 := g1 4 _ (by decide) rfl
      have y0 := g2 0 _ (by decide) rfl
      have y1 := g2 1 _ (by decide) rfl
      have y2 := g2 2 _ (by decide) rfl
      have y3 := g2 3 _ (by decide) rfl
      have y4 := g2 4 _ (by decide) rfl
      rw [Nat.add_zero] at x0 y0
      have hg := evGuard
      have hq := evNeq x y
      by_cases hxy : x = y
      · have HT := Lib.hid (show a.take (i + 1) = b.take (i + 1) by rw [List.take_add_one, List.take_add_one, htk.out, hx, hy, hxy])
        rw [decide_eq_true hxy] at hq
        clear g1 g2 hx hy htk hxy
        go_wp2_with fail
        go_quiet (fail)
        go_wp2
        go_roundw
        case rel => exact ⟨i + 1, by omega, by go_num, HT, _, rfl⟩
        case measure => simp [intOf]; omega
      · have HE := Lib.hid (HNO.out (fun e => hxy (by have h3 := hx; rw [e, hy] at h3; exact (Option.some.inj h3).symm)))
        rw [decide_eq_false hxy] at hq
        clear g1 g2 hx hy htk hxy
        go_wp2_with fail
        go_quiet (fail)
        go_wp2
        go_ret
        exact ⟨ret_bool (by rw [HE.out]), below_drewN (below_drewN (Below.refl _ _) nd) nq⟩
    · obtain rfl : i = a.length := by omega
      have HE := Lib.hid (HYES.out (by have h1 := htk.out; have h2 := HLN.out; rw [List.take_length, h2, List.take_length] at h1; exact h1))
      have HBq := Lib.hid (below_drewN (Below.refl w.heap.size w) nd)
      clear HNO HYES
      go_wp2
      go_ret
      exact ⟨ret_bool (by rw [HE.out]), HBq.out⟩
set_option maxHeartbeats 8000000 in
set_option maxRecDepth 100000 in
theorem rfSame15 (a b : List Ev) (A : Option Addr) (c : Nat) (B : Option Addr) (d : Nat) (w : World) (h : EvsAt w A c a) (k : EvsAt w B d b) :
    Calls Tryd.prog 25 #[.slice A a.length c, .slice B b.length d] w fun e w' => e = .returned (.bool (decide (a = b))) ∧ Below w.heap.size w w' := by
  obtain ⟨A', c', e', h1, h2, _⟩ := h.form
  simp only [Value.slice.injEq, true_and] at e'
  obtain ⟨rfl, rfl⟩ := e'
  obtain ⟨B', d', e', k1, k2, _⟩ := k.form
  simp only [Value.slice.injEq, true_and] at e'
  obtain ⟨rfl, rfl⟩ := e'
  unfold maxLen at h2 k2
  have HH := Lib.hid h
  have HK := Lib.hid k
  have HNO : Hid (a ≠ b → decide (a = b) = false) := fun h => decide_eq_false h
  have HYES : Hid (a = b → decide (a = b) = true) := fun h => decide_eq_true h
  clear h k
  by_cases hl : a.length = b.length
  case neg =>
    have e1 : ((a.length : Int) != (b.length : Int)) = true := by rw [bne_iff_ne]; omega
    have e2 : (a.length != b.length) = true := by rw [bne_iff_ne]; exact hl
    have HE := Lib.hid (HNO.out (fun e => hl (by rw [e])))
    clear HNO HYES hl
    go_enter Tryd.func25, Tryd.ntmps25
    go_wp2
    go_ret
    exact ⟨ret_bool (by rw [HE.out]), Below.refl _ _⟩
  have e1 : ((a.length : Int) != (b.length : Int)) = false := by rw [bne_eq_false_iff_eq]; omega
  have e2 : (a.length != b.length) = false := by rw [bne_eq_false_iff_eq]; exact hl
  have HLN := Lib.hid hl
  clear hl
  go_enter Tryd.func25, Tryd.ntmps25
  go_wp2_with fail
  go_loopw [5] (fun u wr => ∃ i : Nat, i ≤ a.length ∧ u = .int .i64 i ∧ Hid (a.take i = b.take i) ∧ ∃ n, wr = w.drewN n) (fun u _ => a.length - (intOf u).toNat)
  case atStart => exact ⟨0, by omega, rfl, (by show _ = _; rfl), 0, rfl⟩
  case round =>
    obtain ⟨i, hi, rfl, htk, nd, rfl⟩ := hrel
    by_cases hlt : i < a.length
    · have hii : (i : Int) < (a.length : Int) := by omega
      have hii2 : (i : Int) < (b.length : Int) := by have := HLN.out; omega
      obtain ⟨x, hx⟩ : ∃ x, a[i]? = some x := ⟨_, List.getElem?_eq_getElem hlt⟩
      obtain ⟨y, hy⟩ : ∃ y, b[i]? = some y := ⟨_, List.getElem?_eq_getElem (by have := HLN.out; omega)⟩
      obtain ⟨b1, o1, rfl, gl1, g1⟩ := EvsAt.at_ HH.out hx
      obtain ⟨b2, o2, rfl, gl2, g2⟩ := EvsAt.at_ HK.out hy
      have x0 := g1 0 _ (by decide) rfl
      have x1 := g1 1 _ (by decide) rfl
      have x2 := g1 2 _ (by decide) rfl
      have x3 := g1 3 _ (by decide) rfl
      have x4 := g1 4 _ (by decide) rfl
      have y0 := g2 0 _ (by decide) rfl
      have y1 := g2 1 _ (by decide) rfl
      have y2 := g2 2 _ (by decide) rfl
      have y3 := g2 3 _ (by decide) rfl
      have y4 := g2 4 _ (by decide) rfl
      rw [Nat.add_zero] at x0 y0
      have hg := evGuard
      have hq := evNeq x y
      by_cases hxy : x = y
      · have HT := Lib.hid (show a.take (i + 1) = b.take (i + 1) by rw [List.take_add_one, List.take_add_one, htk.out, hx, hy, hxy])
        rw [decide_eq_true hxy] at hq
        clear g1 g2 hx hy htk hxy
        go_wp2_with fail
        go_quiet (fail)
        go_wp2
        go_roundw
        case rel => exact ⟨i + 1, by omega, by go_num, HT, _, rfl⟩
        case measure => simp [intOf]; omega
      · have HE := Lib.hid (HNO.out (fun e => hxy (by have h3 := hx; rw [e, hy] at h3; exact (Option.some.inj h3).symm)))
        rw [decide_eq_false hxy] at hq
        clear g1 g2 hx hy htk hxy
        go_wp2_with fail
        go_quiet (fail)
        go_wp2
        go_ret
        exact ⟨ret_bool (by rw [HE.out]), below_drewN (below_drewN (Below.refl _ _) nd) nq⟩
    · obtain rfl : i = a.length := by omega
      have HE := Lib.hid (HYES.out (by have h1 := htk.out; have h2 := HLN.out; rw [List.take_length, h2, List.take_length] at h1; exact h1))
      have HBq := Lib.hid (below_drewN (Below.refl w.heap.size w) nd)
      clear HNO HYES
      go_wp2
      go_ret
      exact ⟨ret_bool (by rw [HE.out]), HBq.out⟩
end Go.Proofs.YtndcnflboikodaaDoor
