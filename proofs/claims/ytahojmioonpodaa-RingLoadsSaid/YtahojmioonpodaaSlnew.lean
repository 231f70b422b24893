import Derived.Test.YtahojmioonpodaaSlots5
namespace Go.Proofs.Ytahojmioonpodaa
open Go.RowKit
set_option linter.unusedVariables false
set_option linter.unusedSimpArgs false
set_option maxRecDepth 100000 in
theorem slZero : ∀ w : World, (zeroValue 81).run Try.prog w = .ok (.agg ([Value.int .i64 0, .int .i64 0] ++ rowsOf slF (List.replicate 64 ⟨0, 0, 0⟩)).toArray) w := fun w => by kernel_rfl
/-- The first k of p places laid. -/
def newK (p k : Nat) : List Sl := newS k ++ List.replicate (p - k) ⟨0, 0, 0⟩
theorem newK_length {p k : Nat} (h : k ≤ p) : (newK p k).length = p := by unfold newK; rw [List.length_append, newS_length, List.length_replicate]; omega
theorem newK_ok {p r k : Nat} (h1 : 1 ≤ p) (h2 : p ≤ 64) (h3 : 1 ≤ r) (h4 : r ≤ 8) (h : k ≤ p) : SlOk r (newK p k) := by
  refine ⟨by rw [newK_length h]; exact h1, by rw [newK_length h]; exact h2, h3, h4, fun x hx => ?_⟩
  have := everyN_pos h4
  unfold newK at hx
  rcases List.mem_append.1 hx with hx | hx
  · obtain ⟨i, hi, rfl⟩ := List.mem_map.1 hx
    have := List.mem_range.1 hi
    exact ⟨by simp only; omega, by simp only; omega, by simp only; omega, by simp only; omega⟩
  · obtain ⟨_, rfl⟩ := List.mem_replicate.1 hx
    exact ⟨by simp only; omega, by simp only; omega, by simp only; omega, by simp only; omega⟩
theorem newK_get {p k : Nat} (h : k < p) : (newK p k)[k]? = some ⟨0, 0, 0⟩ := by
  unfold newK
  rw [List.getElem?_append_right (by rw [newS_length]; omega), newS_length, Nat.sub_self, List.getElem?_replicate, if_pos (by omega)]
theorem newK_set {p k : Nat} (h : k < p) : (newK p k).set k ⟨2 * k, 0, 0⟩ = newK p (k + 1) := by
  unfold newK
  rw [List.set_append_right _ _ (by rw [newS_length]; omega), newS_length, Nat.sub_self, show p - k = p - (k + 1) + 1 by omega, List.replicate_succ, List.set_cons_zero]
  unfold newS
  rw [List.range_succ, List.map_append, List.append_assoc]; rfl
theorem newK_full (p : Nat) : newK p p = newS p := by unfold newK; rw [Nat.sub_self, List.replicate_zero, List.append_nil]
theorem sl_start (w : World) (p r : Nat) (T : TypeId) (h1 : 1 ≤ p) (h2 : p ≤ 64) (h3 : 1 ≤ r) (h4 : r ≤ 8) (zs : Array Value) (hzs : zs = ([Value.int .i64 0, .int .i64 0] ++ rowsOf slF (List.replicate 64 ⟨0, 0, 0⟩)).toArray) :
    SlAt (w.alloc (.cells ((zs.setIfInBounds 0 (.int .i64 (p : Int))).setIfInBounds 1 (.int .i64 (r : Int))) T)) w.heap.size T [] [] r (newK p 0) := by
  refine ⟨List.replicate (64 - p) ⟨0, 0, 0⟩, ?_, newK_ok h1 h2 h3 h4 (Nat.zero_le _), ?_⟩
  · rw [List.length_append, newK_length (Nat.zero_le _), List.length_replicate]; omega
  · have e : newK p 0 ++ List.replicate (64 - p) ⟨0, 0, 0⟩ = List.replicate 64 ⟨0, 0, 0⟩ := by
      unfold newK
      rw [show newS 0 = [] from rfl, List.nil_append, Nat.sub_zero, List.replicate_append_replicate]; congr 1; omega
    have e2 : slObj r (newK p 0) (List.replicate (64 - p) ⟨0, 0, 0⟩) = [.int .i64 (p : Int), .int .i64 (r : Int)] ++ rowsOf slF (List.replicate 64 ⟨0, 0, 0⟩) := by
      unfold slObj; rw [e, newK_length (Nat.zero_le _)]
    rw [e2, List.nil_append, List.append_nil, hzs, List.setIfInBounds_toArray, List.setIfInBounds_toArray]
    exact Lies.made _ _ _
set_option maxHeartbeats 1000000 in
set_option maxRecDepth 100000 in
theorem slotsNew (p r : Nat) (w : World) (h1 : 1 ≤ p) (h2 : p ≤ 64) (h3 : 1 ≤ r) (h4 : r ≤ 8) :
    Calls Try.prog 34 #[.int .i64 p, .int .i64 r] w fun e w' =>
      e = .returned (.tuple #[.pointer (some ⟨w.heap.size, 0, none⟩), .int .i64 0]) ∧ SlAt w' w.heap.size 81 [] [] r (newS p) ∧ Below w.heap.size w w' := by
  have e1 : decide ((p : Int) < 1) = false := by rw [decide_eq_false_iff_not]; omega
  have e2 : decide ((64 : Int) < (p : Int)) = false := by rw [decide_eq_false_iff_not]; omega
  have e3 : decide ((r : Int) < 1) = false := by rw [decide_eq_false_iff_not]; omega
  have e4 : decide ((8 : Int) < (r : Int)) = false := by rw [decide_eq_false_iff_not]; omega
  obtain ⟨zs, hzs⟩ : ∃ zs : Array Value, zs = ([Value.int .i64 0, .int .i64 0] ++ rowsOf slF (List.replicate 64 ⟨0, 0, 0⟩)).toArray := ⟨_, rfl⟩
  have hz := slZero
  rw [← hzs] at hz
  have hzn : zs.size = 194 := by rw [hzs]; rfl
  have hne : ¬ zs = #[] := fun e => by rw [e] at hzn; exact absurd hzn (by decide)
  have HS := Lib.hid (sl_start w p r 81 h1 h2 h3 h4 zs hzs)
  have hb0 : Below w.heap.size w (w.alloc (.cells ((zs.setIfInBounds 0 (.int .i64 (p : Int))).setIfInBounds 1 (.int .i64 (r : Int))) 81)) := (Below.refl _ _).alloc (Nat.le_refl _) _
  have HF := Lib.hid (fun (i : Nat) (hi : i < 64) w => slotsFree i w (by omega))
  clear hzs
  go_enter Try.func34, Try.ntmps34
  go_wp2
  clear hz hzn hne
  generalize w.alloc (.cells ((zs.setIfInBounds 0 (.int .i64 (p : Int))).setIfInBounds 1 (.int .i64 (r : Int))) 81) = w0 at *
  go_loopw [27] (fun u wr => ∃ k : Nat, k ≤ p ∧ u = .int .i64 k ∧ SlAt wr w.heap.size 81 [] [] r (newK p k) ∧ Below w.heap.size w wr) (fun u _ => p - (intOf u).toNat)
  case atStart => exact ⟨0, by omega, rfl, HS.out, hb0⟩
  case round =>
    clear HS hb0
    obtain ⟨k, hk, rfl, hs, hb⟩ := hrel
    by_cases hlt : k < p
    · have hki : (k : Int) < (p : Int) := by omega
      have hk64 : (k : Int) < 64 := by omega
      have HFK := Lib.hid (HF.out k (by omega))
      obtain ⟨c0, c1, c2⟩ := hs.cells (newK_get hlt)
      have f0 := hs.free (2 + k * 3)
      have f1 := hs.free (2 + k * 3 + 1)
      have f2 := hs.free (2 + k * 3 + 2)
      have hwk : IntKind.u64.wrap (k : Int) = (k : Int) := by rw [IntKind.wrap_u64]; omega
      have hey := everyN_pos h4
      have hp3 := hs.put3 (y := ⟨2 * k, 0, 0⟩) (newK_get hlt) ⟨by simp only; omega, by simp only; omega, by simp only; omega, by simp only; omega⟩
      rw [newK_set hlt] at hp3
      simp only [List.length_nil, Nat.zero_add] at c0 c1 c2 hp3
      have HP3 := Lib.hid hp3
      have hbn := ((hb.setCell (p := ⟨w.heap.size, 2 + k * 3, none⟩) (Nat.le_refl _) (.int .u64 ((2 * k : Nat) : Int))).setCell (p := ⟨w.heap.size, 2 + k * 3 + 1, none⟩) (Nat.le_refl _) (.int .u64 ((0 : Nat) : Int))).setCell (p := ⟨w.heap.size, 2 + k * 3 + 2, none⟩) (Nat.le_refl _) (.int .i64 0)
      clear hs hp3
      go_wp2
      go_region_with (go_at_call 55; refine (HFK.out _).mono ?_; rintro e w' ⟨rfl, rfl⟩)
      all_goals
        go_wp2
        go_roundw
        case rel => exact ⟨k + 1, by omega, by go_num, HP3.out, below_drewN hbn 1⟩
        case measure => simp [intOf]; omega
    · obtain rfl : k = p := by omega
      rw [newK_full] at hs
      have HS := Lib.hid hs
      clear hs
      go_wp2
      go_ret2
      exact ⟨rfl, HS.out, hb⟩
end Go.Proofs.Ytahojmioonpodaa
