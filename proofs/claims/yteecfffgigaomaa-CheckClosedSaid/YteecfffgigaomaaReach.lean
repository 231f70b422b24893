/-
  check.successors, check.Reach.
-/
import Derived.Test.YteecfffgigaomaaRch
import Derived.Test.YteecfffgigaomaaOwn
import Derived.Deep.DeepCutAuto
import Derived.Deep.LoopGhost
namespace Go.Proofs.Yteecfffgigaomaa
open Go.RowKit
set_option linter.unusedVariables false
set_option linter.unusedSimpArgs false
theorem Try.infoInt : (Try.prog.info? 3).map (fun i => (i.zero, i.size, i.bytes)) = some (some (.int .i64 0), 1, 8) := by kernel_rfl
theorem Try.infoBool : (Try.prog.info? 4).map (fun i => (i.zero, i.size, i.bytes)) = some (some (.bool false), 1, 1) := by kernel_rfl
def ints (l : List Nat) : List Value := l.map fun (n : Nat) => Value.int .i64 (n : Int)
theorem ints_length (l : List Nat) : (ints l).length = l.length := by unfold ints; simp
theorem ints_append (l m : List Nat) : ints (l ++ m) = ints l ++ ints m := by simp [ints]
theorem ints_get {l : List Nat} {i n : Nat} (h : l[i]? = some n) : (ints l)[i]? = some (.int .i64 (n : Int)) := by unfold ints; rw [List.getElem?_map, h]; rfl
theorem ints_one (l : List Nat) : ∀ u ∈ ints l, u.oneCell' = true := fun u hu => by
  unfold ints at hu
  obtain ⟨n, _, rfl⟩ := List.mem_map.1 hu
  rfl
def boolC (l : List Bool) : List Value := l.map Value.bool
theorem boolC_length (l : List Bool) : (boolC l).length = l.length := by unfold boolC; simp
theorem boolC_get {l : List Bool} {i : Nat} {b : Bool} (h : l[i]? = some b) : (boolC l)[i]? = some (.bool b) := by unfold boolC; rw [List.getElem?_map, h]; rfl
theorem boolC_set (l : List Bool) (i : Nat) (b : Bool) : (boolC l).set i (.bool b) = boolC (l.set i b) := by unfold boolC; rw [List.map_set]
theorem Lies.made2_ (w : World) (o : Obj) (t : TypeId) (cs : Array Value) : Lies ((w.alloc o).alloc (.cells cs t)) (w.heap.size + 1) t cs := by
  have := Lies.made (w.alloc o) t cs
  rwa [World.size_alloc] at this
/-- A literal as a list. -/
theorem seq_lit {w : World} {g n : Nat} {T : TypeId} {cs : Array Value} (h : Lies w g T cs) (hn : cs.size = n) (hm : n ≤ 1000000) : SeqS w 1 (.slice (some ⟨g, 0, none⟩) n n) n cs.toList :=
  ⟨by simp [hn], _, _, rfl, Nat.le_refl _, by unfold maxLen; omega, (fun h => by cases h), fun k u hu => ⟨g, 0, rfl, by rw [Nat.zero_add, h.cell]; simpa using hu⟩⟩
/-- 's[:k]' of a row of the call's own. -/
theorem owns_front {w : World} {B n k cap g : Nat} {e : TypeId} {xs : List Value} (h : w.ownsRow B e 1 (.slice (some ⟨g, 0, none⟩) n cap) n xs) (hk : k ≤ n) : w.ownsRow B e 1 (.slice (some ⟨g, 0, none⟩) k cap) k (xs.take k) := by
  obtain ⟨h1, h2⟩ := h
  rcases h2 with ⟨h2, _⟩ | ⟨g', cap', cur, hv, hb, hh, hc, hm, hs, ht⟩
  · cases h2
  · simp only [Value.slice.injEq, Option.some.injEq, Addr.mk.injEq] at hv
    obtain ⟨⟨rfl, _, _⟩, _, rfl⟩ := hv
    refine ⟨by rw [List.length_take]; omega, .inr ⟨g, cap, cur, rfl, hb, hh, by omega, hm, hs, ?_⟩⟩
    rw [← ht, List.take_take]
    congr 1
    omega
set_option maxHeartbeats 4000000 in
theorem suc_any (x : In) (a : Nat) (w : World) (hk : 15 ≤ x.op → x.op ≤ 17 → x.k ≤ 1000000) (ha : a ≤ 1000000) :
    Calls Try.prog 29 #[.agg (inC x), .int .i64 (a : Int)] w fun e w' => ∃ v, e = .returned v ∧ SeqS w' 1 v (nextX x a).length (ints (nextX x a)) ∧ Below w.heap.size w w' := by
  have hb0 : Below w.heap.size w (w.alloc (.cells (inC x) 48)) := (Below.refl _ _).alloc (Nat.le_refl _) _
  have HB0 := Lib.hid hb0
  clear hb0
  have HN := Lib.hid (show nextX x a = _ by unfold nextX; rfl)
  by_cases h15 : x.op = 15
  · have e1 : (x.op == 15) = true := by simpa using h15
    have hk1 := hk (by omega) (by omega)
    have e2 : IntKind.i64.wrap (x.k : Int) = (x.k : Int) := IntWalk.i64_in _ (by omega)
    have HN2 := Lib.hid (HN.out.trans (if_pos h15))
    clear HN h15 hk
    go_enter Try.func29, Try.ntmps29
    go_wp2
    go_ret
    refine ⟨_, rfl, ?_, HB0.out.alloc HB0.out.size _⟩
    rw [HN2.out]
    exact seq_lit (Lies.made2_ w _ _ _) rfl (by omega)
  have e1 : (x.op == 15) = false := by simpa using h15
  have HN1 := Lib.hid (HN.out.trans (if_neg h15))
  by_cases h16 : x.op = 16 ∨ x.op = 17
  · have hk1 := hk (by omega) (by omega)
    have e2 : IntKind.i64.wrap (x.k : Int) = (x.k : Int) := IntWalk.i64_in _ (by omega)
    have HN2 := Lib.hid (HN1.out.trans (if_pos h16))
    clear HN HN1 h15 hk
    rcases h16 with h16 | h16
    · have e3 : (x.op == 16) = true := by simpa using h16
      clear h16
      go_enter Try.func29, Try.ntmps29
      go_wp2
      go_ret
      refine ⟨_, rfl, ?_, HB0.out.alloc HB0.out.size _⟩
      rw [HN2.out]
      exact seq_lit (Lies.made2_ w _ _ _) rfl (by omega)
    · have e3 : (x.op == 16) = false := by rw [h16]; rfl
      have e4 : (x.op == 17) = true := by simpa using h16
      clear h16
      go_enter Try.func29, Try.ntmps29
      go_wp2
      go_ret
      refine ⟨_, rfl, ?_, HB0.out.alloc HB0.out.size _⟩
      rw [HN2.out]
      exact seq_lit (Lies.made2_ w _ _ _) rfl (by omega)
  have e3 : (x.op == 16) = false := by rw [beq_eq_false_iff_ne]; exact fun h => h16 (.inl h)
  have e4 : (x.op == 17) = false := by rw [beq_eq_false_iff_ne]; exact fun h => h16 (.inr h)
  have HN3 := Lib.hid (HN1.out.trans (if_neg h16))
  by_cases h25 : x.op = 25
  · have e5 : (x.op == 25) = true := by simpa using h25
    have HN4 := Lib.hid (HN3.out.trans (if_pos h25))
    clear HN HN1 HN3 h15 h16 h25 hk
    go_enter Try.func29, Try.ntmps29
    go_wp2
    go_ret
    exact ⟨_, rfl, by rw [HN4.out]; exact SeqS.nil _ _, HB0.out⟩
  have e5 : (x.op == 25) = false := by simpa using h25
  have HN4 := Lib.hid (HN3.out.trans (if_neg h25))
  clear HN HN1 HN3 h15 h16 h25 hk
  go_enter Try.func29, Try.ntmps29
  go_wp2
  go_ret
  refine ⟨_, rfl, ?_, HB0.out.alloc HB0.out.size _⟩
  rw [HN4.out]
  exact seq_lit (Lies.made2_ w _ _ _) rfl (by omega)
end Go.Proofs.Yteecfffgigaomaa
