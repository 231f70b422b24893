/-
  A thread's events (layer 15): event.Of.
-/
import Derived.Test.YtndcnflboikodaaDoorEv
import Derived.Test.YtndcnflboikodaaDoorOwn
import Derived.Deep.DeepCutAuto
namespace Go.Proofs.YtndcnflboikodaaDoor
open Go.RowKit
set_option linter.unusedVariables false
set_option linter.unusedSimpArgs false
theorem Tryd.infoIntE : (Tryd.prog.info? 3).map (fun i => (i.zero, i.size, i.bytes)) = some (some (.int .i64 0), 1, 8) := by kernel_rfl
/-- The places of a thread's events among the first k. -/
def ofE (l : List Ev) (t : Int) : Nat → List Nat
  | 0 => []
  | k + 1 => match l[k]? with
    | some x => if x.th = t then ofE l t k ++ [k] else ofE l t k
    | none => ofE l t k
theorem ofE_le (l : List Ev) (t : Int) : ∀ k, (ofE l t k).length ≤ k
  | 0 => Nat.le_refl _
  | k + 1 => by
    have := ofE_le l t k
    unfold ofE
    split
    · split
      · rw [List.length_append]; simp; omega
      · omega
    · omega
def intsE (l : List Nat) : List Value := l.map fun (n : Nat) => .int .i64 (n : Int)
theorem intsE_push (d : List Nat) (n : Nat) : intsE d ++ [.int .i64 (n : Int)] = intsE (d ++ [n]) := by simp [intsE]
set_option maxHeartbeats 8000000 in
set_option maxRecDepth 100000 in
theorem of15 (l : List Ev) (t : Int) (A : Option Addr) (c : Nat) (w : World) (h : EvsAt w A c l) (hlen : l.length ≤ 1099511627776) :
    Calls Tryd.prog 27 #[.slice A l.length c, .int .i64 t] w fun e w' => ∃ v, e = .returned v ∧ w'.ownsRow w.heap.size 3 1 v (ofE l t l.length).length (intsE (ofE l t l.length)) ∧ Below w.heap.size w w' := by
  obtain ⟨A', c', e', h1, h2, _⟩ := h.form
  simp only [Value.slice.injEq, true_and] at e'
  obtain ⟨rfl, rfl⟩ := e'
  unfold maxLen at h2
  have HH := Lib.hid h
  have HB := Lib.hid (Below.refl w.heap.size w)
  clear h
  go_enter Tryd.func27, Tryd.ntmps27
  go_wp2_with fail
  go_loopw [10, 5] (fun u v wr => ∃ k : Nat, k ≤ l.length ∧ u = .int .i64 k ∧ Hid (wr.ownsRow w.heap.size 3 1 v (ofE l t k).length (intsE (ofE l t k))) ∧ Hid (Below w.heap.size w wr)) (fun u _ _ => l.length - (intOf u).toNat)
  case atStart => exact ⟨0, by omega, rfl, World.ownsRow_nil _ _ _ _, HB⟩
  case round =>
    clear HB
    obtain ⟨k, hk, rfl, HO, HB⟩ := hrel
    by_cases hlt : k < l.length
    · have hki : (k : Int) < (l.length : Int) := by omega
      obtain ⟨x, hx⟩ : ∃ x, l[k]? = some x := ⟨_, List.getElem?_eq_getElem hlt⟩
      obtain ⟨b, off, rfl, hbl, hg⟩ := EvsAt.at_ (HH.out.later HB.out) hx
      have g0 := hg 0 _ (by decide) rfl
      have g1 := hg 1 _ (by decide) rfl
      have g2 := hg 2 _ (by decide) rfl
      have g3 := hg 3 _ (by decide) rfl
      have g4 := hg 4 _ (by decide) rfl
      rw [Nat.add_zero] at g0
      have hbx : Below wr.heap.size wr (wr.alloc (.cells (evC x) 24)) := (Below.refl _ _).alloc (Nat.le_refl _) _
      have HB2 := Lib.hid (HB.out.trans (hbx.mono HB.out.size))
      have HO2 := Lib.hid (owned_below HO.out hbx)
      have hle := ofE_le l t k
      have HN : Hid (ofE l t (k + 1) = if x.th = t then ofE l t k ++ [k] else ofE l t k) := by
        show ofE l t (k + 1) = _
        rw [ofE, hx]
      clear hg hx hbx HB HO
      by_cases he : x.th = t
      · have e1 : (x.th == t) = true := by rw [beq_iff_eq]; exact he
        rw [if_pos he] at HN
        have hbs := HB2.out.size
        clear he
        go_upto_region 6 with (fail)
        clear g0 g1 g2 g3 g4
        generalize wr.alloc (.cells (evC x) 24) = w2 at *
        generalize ofE l t k = L at *
        go_wp2_with (at_builtin; refine append_one _ (.int .i64 (k : Int)) rfl (.tmp 19) (.tmp 21) 51 rfl w.heap.size 3 _ _ Tryd.underlying51 Tryd.infoIntE rfl rfl _ _ _ rfl HO2.out rfl (by unfold maxLen; omega) (by omega) hbs ?_)
        intro v' w3 ho hb hgr
        rw [intsE_push] at ho
        have HO3 : Hid (w3.ownsRow w.heap.size 3 1 v' (ofE l t (k + 1)).length (intsE (ofE l t (k + 1)))) := by
          rw [HN.out, List.length_append]
          exact ho
        have HB3 := Lib.hid (HB2.out.trans hb)
        clear ho hb hgr HO2
        go_wp2
        go_roundw
        case rel => exact ⟨k + 1, by omega, by go_num, HO3, HB3⟩
        case measure => simp [intOf]; omega
      · have e1 : (x.th == t) = false := by rw [beq_eq_false_iff_ne]; exact he
        rw [if_neg he] at HN
        rw [← HN.out] at HO2
        clear he
        go_wp2
        go_roundw
        case rel => exact ⟨k + 1, by omega, by go_num, HO2, HB2⟩
        case measure => simp [intOf]; omega
    · obtain rfl : k = l.length := by omega
      go_wp2
      go_ret
      exact ⟨_, rfl, HO.out, HB.out⟩
end Go.Proofs.YtndcnflboikodaaDoor
