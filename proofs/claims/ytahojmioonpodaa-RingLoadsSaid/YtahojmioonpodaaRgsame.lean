import Derived.Test.YtahojmioonpodaaRing6
import Derived.Test.YtahojmioonpodaaSlref
namespace Go.Proofs.Ytahojmioonpodaa
open Go.RowKit
set_option linter.unusedVariables false
set_option linter.unusedSimpArgs false
set_option maxHeartbeats 2000000 in
set_option maxRecDepth 100000 in
theorem ref13Same (t : Nat) (hs : List Nat) (cl : Bool) (L : List Sl) (A1 A2 A3 A4 : Option Addr) (c1 c2 c3 c4 : Nat) (w : World) (h1 : SeqAt w (.slice A1 hs.length c1) (cellsH hs)) (h2 : SeqAt w (.slice A2 hs.length c2) (cellsH hs))
    (s1 : SeqS w 3 (.slice A3 L.length c3) L.length (rowsOf slF L)) (s2 : SeqS w 3 (.slice A4 L.length c4) L.length (rowsOf slF L)) :
    Calls Try.prog 19 #[.agg #[.int .u64 (t : Int), .slice A1 hs.length c1, .bool cl, .slice A3 L.length c3], .agg #[.int .u64 (t : Int), .slice A2 hs.length c2, .bool cl, .slice A4 L.length c4]] w fun e w' => e = .returned (.bool true) ∧ Below w.heap.size w w' := by
  have hb0 := (Below.refl w.heap.size w).alloc (Nat.le_refl _) (.cells #[.int .u64 (t : Int), .slice A1 hs.length c1, .bool cl, .slice A3 L.length c3] 42)
  have hb1 := hb0.alloc (by simp) (.cells #[.int .u64 (t : Int), .slice A2 hs.length c2, .bool cl, .slice A4 L.length c4] 42)
  have l0 := (Lies.made w 42 #[.int .u64 (t : Int), .slice A1 hs.length c1, .bool cl, .slice A3 L.length c3]).alloc (.cells #[.int .u64 (t : Int), .slice A2 hs.length c2, .bool cl, .slice A4 L.length c4] 42)
  have l1 := Lies.made (w.alloc (.cells #[.int .u64 (t : Int), .slice A1 hs.length c1, .bool cl, .slice A3 L.length c3] 42)) 42 #[.int .u64 (t : Int), .slice A2 hs.length c2, .bool cl, .slice A4 L.length c4]
  rw [World.size_alloc] at l1
  have hS := ref12Same (.slice A3 L.length c3) (.slice A4 L.length c4) L L L.length L.length _ (s1.later hb1) (s2.later hb1)
  rw [decide_eq_true rfl] at hS
  have HS := Lib.hid hS
  have H1 := Lib.hid (h1.later_ hb1)
  have H2 := Lib.hid (h2.later_ hb1)
  have L0 := Lib.hid l0
  have L1 := Lib.hid l1
  have HB := Lib.hid hb1
  have hc1 : hs.length ≤ c1 ∧ c1 ≤ 9223372036854775807 := by
    obtain ⟨A', c', e, k1, k2, _⟩ := h1
    simp only [Value.slice.injEq] at e
    obtain ⟨_, e2, rfl⟩ := e
    unfold maxLen at k2
    exact ⟨by omega, by omega⟩
  obtain ⟨hc1, hc2⟩ := hc1
  have hcl : (cl != cl) = false := by cases cl <;> rfl
  clear hb0 hb1 l0 l1 hS h1 h2 s1 s2
  go_enter Try.func19, Try.ntmps19
  go_wp2_with fail
  refine HS.out.mono ?_
  rintro e w1 ⟨rfl, n1, hw1⟩
  have l0 := L0.out.drewN n1
  have l1 := L1.out.drewN n1
  rw [← hw1] at l0 l1
  have hb : Below w.heap.size w w1 := by rw [hw1]; exact below_drewN HB.out n1
  have q1 : SeqAt w1 (.slice A1 hs.length c1) (cellsH hs) := by rw [hw1]; exact H1.out
  have q2 : SeqAt w1 (.slice A2 hs.length c2) (cellsH hs) := by rw [hw1]; exact H2.out
  have L0 := Lib.hid l0
  have L1 := Lib.hid l1
  have HB := Lib.hid hb
  have H1 := Lib.hid q1
  have H2 := Lib.hid q2
  clear hw1 l0 l1 hb q1 q2 HS
  go_wp2
  go_loopw [5] (fun u wr => ∃ k n : Nat, k ≤ hs.length ∧ u = .int .i64 k ∧ wr = w1.drewN n) (fun u _ => hs.length - (intOf u).toNat)
  case atStart => exact ⟨0, 0, by omega, rfl, rfl⟩
  case round =>
    obtain ⟨k, n, hk, rfl, hwr⟩ := hrel
    have l0 := L0.out.drewN n
    have l1 := L1.out.drewN n
    rw [← hwr] at l0 l1
    have d0 := (l0.cell 1).trans (show _ = some (Value.slice A1 hs.length c1) from rfl)
    have d1 := (l1.cell 1).trans (show _ = some (Value.slice A2 hs.length c2) from rfl)
    have hb : Below w1.heap.size w1 wr := by rw [hwr]; exact below_drewN (Below.refl _ _) n
    have HW := Lib.hid hwr
    have hlt0 := l0.lt
    have hlt1 := l1.lt
    clear hwr l0 l1
    by_cases hlt : k < hs.length
    · have hki : (k : Int) < (hs.length : Int) := by omega
      obtain ⟨x, hx⟩ : ∃ x, hs[k]? = some x := ⟨_, List.getElem?_eq_getElem hlt⟩
      have hxc : (cellsH hs)[k]? = some (.int .u64 (x : Int)) := by unfold cellsH; rw [List.getElem?_map, hx]; rfl
      obtain ⟨b1, o1, e1, _, g1⟩ := H1.out.get hb hxc
      obtain ⟨b2, o2, e2, _, g2⟩ := H2.out.get hb hxc
      clear hx hxc
      subst e1 e2
      go_wp2
      go_quiet (fail)
      go_wp2
      go_roundw
      case rel => exact ⟨k + 1, n + nq, by omega, by go_num, by rw [HW.out, World.drewN_drewN]⟩
      case measure => simp [intOf]; omega
    · obtain rfl : k = hs.length := by omega
      have hbE := HB.out.trans (hb.mono HB.out.size)
      go_wp2
      go_ret
      exact ⟨rfl, hbE⟩
end Go.Proofs.Ytahojmioonpodaa
