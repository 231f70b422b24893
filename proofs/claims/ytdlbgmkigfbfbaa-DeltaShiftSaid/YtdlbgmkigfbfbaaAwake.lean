import Derived.Test.YtdlbgmkigfbfbaaDref3
namespace Go.Proofs.Ytdlbgmkigfbfbaa
open Go.RowKit
set_option linter.unusedVariables false
/-- A list that is written out in the program's text. -/
theorem lit_seq (w : World) (cs : Array Value) (n : Nat) (l : List Nat) (h : cs.toList = cells64 l) (hn : n = (cells64 l).length) (hm : n ≤ maxLen) : SeqAt (w.alloc (.cells cs 22)) (.slice (some ⟨w.heap.size, 0, none⟩) n n) (cells64 l) := by
  subst hn
  refine ⟨_, _, rfl, Nat.le_refl _, hm, fun k u hu => ⟨_, _, rfl, ?_⟩⟩
  rw [Nat.zero_add, (Lies.made w _ _).cell k, ← hu, ← h]
  simp
set_option maxHeartbeats 4000000 in
theorem awake_any (w : World) : Calls Try.prog 8 #[] w fun e w' => e = .returned (.bool true) ∧ Below w.heap.size w w' := by
  obtain ⟨t, ht⟩ : ∃ t : ByteArray, t = ⟨#[3, 10, 4, 1]⟩ := ⟨_, rfl⟩
  have tz : t.size ≤ maxLen := by rw [ht]; decide
  have tz2 : t.size ≤ 1099511627776 := by rw [ht]; decide
  have l1 : rdListErr t 0 3 = 0 := by rw [ht]; decide +kernel
  have l2 : dlList t 0 3 = [5, 7, 6] := by rw [ht]; decide +kernel
  have l3 : rdListErr t 0 2 = 4 := by rw [ht]; decide +kernel
  have L1 := Lib.hid l1
  have L2 := Lib.hid l2
  have L3 := Lib.hid l3
  clear l1 l2 l3
  go_enter Try.func8, Try.ntmps8
  go_wp2_with fail
  rw [← ht]
  refine (octetNew t w tz).mono ?_
  rintro e w1 ⟨rfl, q1, k1⟩
  have k1 := onto_none (Below.refl w.heap.size w) k1
  have hg1 : w.heap.size < w1.heap.size := q1.1.lt
  go_wp2_with fail
  refine (deltaRead _ t 0 3 w1 q1 tz2 (by omega)).mono ?_
  rintro e w2 ⟨v, rfl, o2, _, k2⟩
  rw [L1.out, L2.out] at *
  have k2 := onto_one k1 k2 (Nat.le_refl _)
  clear q1 k1
  go_wp2_with fail
  rw [← ht]
  refine (octetNew t w2 tz).mono ?_
  rintro e w3 ⟨rfl, q3, k3⟩
  have o3 := owns_kept o2 k3 (fun _ _ _ _ h => h)
  have hg3 : w2.heap.size < w3.heap.size := q3.1.lt
  have hg2 : w.heap.size ≤ w2.heap.size := k2.size
  have k3 := onto_none k2 k3
  clear k2 o2
  go_wp2_with fail
  refine (deltaRead _ t 0 2 w3 q3 tz2 (by omega)).mono ?_
  rintro e w4 ⟨v4, rfl, _, _, k4⟩
  rw [L3.out] at *
  have o4 := owns_kept o3 k4 (fun r cur _ hl (h : r = w2.heap.size) => by subst h; exact absurd (hl.same q3.1).1 (by decide))
  have k4 := onto_one k3 k4 hg2
  clear q3 k3 o3
  clear ht
  go_wp2_with fail
  refine (deltaZig (-2) w4 (by omega) (by omega)).mono ?_
  rintro e w' ⟨rfl, rfl⟩
  rw [show zig (-2) = 3 by decide]
  go_wp2_with fail
  refine (deltaZag 3 w4 (by decide)).mono ?_
  rintro e w' ⟨rfl, rfl⟩
  rw [show zag 3 = -2 by decide]
  go_wp2_with fail
  -- Deltas of 5, 7, 6
  have s5 := lit_seq w4 #[.int .u64 5, .int .u64 7, .int .u64 6] 3 [5, 7, 6] rfl rfl (by decide)
  have o5 := o4.alloc (.cells #[.int .u64 5, .int .u64 7, .int .u64 6] 22)
  have k5 := k4.alloc k4.size (.cells #[.int .u64 5, .int .u64 7, .int .u64 6] 22)
  clear o4
  refine (deltaDeltas _ [5, 7, 6] _ s5 (by decide) (by decide)).mono ?_
  rintro e w6 ⟨v6, rfl, p6, k6⟩
  rw [show deltas 0 [5, 7, 6] = [10, 4, 1] by decide] at p6
  have o6 := owns_kept o5 (Kept.of_below k6) (fun _ _ _ _ h => h)
  have k6 := then_ k5 k6
  clear s5 o5 k5 k4
  go_wp2_with fail
  have s7 := lit_seq w6 #[.int .u64 10, .int .u64 4, .int .u64 1] 3 [10, 4, 1] rfl rfl (by decide)
  have p7 := p6.alloc (.cells #[.int .u64 10, .int .u64 4, .int .u64 1] 22)
  have o7 := o6.alloc (.cells #[.int .u64 10, .int .u64 4, .int .u64 1] 22)
  have k7 := k6.alloc k6.size (.cells #[.int .u64 10, .int .u64 4, .int .u64 1] 22)
  clear p6 o6 k6
  refine (refSameNat _ _ [10, 4, 1] [10, 4, 1] _ (SeqAt.of_owns p7) s7).mono ?_
  rintro e w8' ⟨rfl, n8, rfl⟩
  have o8 : ((w6.alloc (.cells #[.int .u64 10, .int .u64 4, .int .u64 1] 22)).drewN n8).ownsRow w1.heap.size 22 1 v 3 (cells64 [5, 7, 6]) := o7
  have k8 := onto_none k7 (Kept.drewN _ _ n8)
  clear p7 s7 o7 k7
  generalize (w6.alloc (.cells #[.int .u64 10, .int .u64 4, .int .u64 1] 22)).drewN n8 = w8 at *
  go_wp2_with fail
  have s9 := lit_seq w8 #[.int .u64 10, .int .u64 4, .int .u64 1] 3 [10, 4, 1] rfl rfl (by decide)
  have o9 := o8.alloc (.cells #[.int .u64 10, .int .u64 4, .int .u64 1] 22)
  have k9 := k8.alloc k8.size (.cells #[.int .u64 10, .int .u64 4, .int .u64 1] 22)
  clear o8 k8
  refine (deltaSums _ [10, 4, 1] _ s9 (by decide) (by decide)).mono ?_
  rintro e w10 ⟨v10, rfl, p10, k10⟩
  rw [show sums 0 [10, 4, 1] = [5, 7, 6] by decide] at p10
  have o10 := owns_kept o9 (Kept.of_below k10) (fun _ _ _ _ h => h)
  have k10 := then_ k9 k10
  clear s9 o9 k9
  go_wp2_with fail
  have s11 := lit_seq w10 #[.int .u64 5, .int .u64 7, .int .u64 6] 3 [5, 7, 6] rfl rfl (by decide)
  have p11 := p10.alloc (.cells #[.int .u64 5, .int .u64 7, .int .u64 6] 22)
  have o11 := o10.alloc (.cells #[.int .u64 5, .int .u64 7, .int .u64 6] 22)
  have k11 := k10.alloc k10.size (.cells #[.int .u64 5, .int .u64 7, .int .u64 6] 22)
  clear p10 o10 k10
  refine (refSameNat _ _ [5, 7, 6] [5, 7, 6] _ (SeqAt.of_owns p11) s11).mono ?_
  rintro e w12' ⟨rfl, n12, rfl⟩
  have o12 : ((w10.alloc (.cells #[.int .u64 5, .int .u64 7, .int .u64 6] 22)).drewN n12).ownsRow w1.heap.size 22 1 v 3 (cells64 [5, 7, 6]) := o11
  have k12 := onto_none k11 (Kept.drewN _ _ n12)
  clear p11 s11 o11 k11
  generalize (w10.alloc (.cells #[.int .u64 5, .int .u64 7, .int .u64 6] 22)).drewN n12 = w12 at *
  go_wp2_with fail
  have s13 := lit_seq w12 #[.int .u64 5, .int .u64 7, .int .u64 6] 3 [5, 7, 6] rfl rfl (by decide)
  have o13 := o12.alloc (.cells #[.int .u64 5, .int .u64 7, .int .u64 6] 22)
  have k13 := k12.alloc k12.size (.cells #[.int .u64 5, .int .u64 7, .int .u64 6] 22)
  clear o12 k12
  refine (deltaPrint _ [5, 7, 6] _ s13 (by decide) (by decide)).mono ?_
  rintro e w14 ⟨rfl, k14⟩
  rw [show textB (encList (deltas 0 [5, 7, 6])) = ⟨#[3, 10, 4, 1]⟩ by decide +kernel]
  have o14 := owns_kept o13 (Kept.of_below k14) (fun _ _ _ _ h => h)
  have k14 := then_ k13 k14
  clear s13 o13 k13
  go_wp2_with fail
  have s15 := lit_seq w14 #[.int .u64 5, .int .u64 7, .int .u64 6] 3 [5, 7, 6] rfl rfl (by decide)
  have o15 := o14.alloc (.cells #[.int .u64 5, .int .u64 7, .int .u64 6] 22)
  have k15 := k14.alloc k14.size (.cells #[.int .u64 5, .int .u64 7, .int .u64 6] 22)
  clear o14 k14
  refine (refSameNat _ _ [5, 7, 6] [5, 7, 6] _ (SeqAt.of_owns o15) s15).mono ?_
  rintro e w16' ⟨rfl, n16, rfl⟩
  have k16 := onto_none k15 (Kept.drewN _ _ n16)
  go_wp2
  go_ret
  exact ⟨rfl, k16⟩
end Go.Proofs.Ytdlbgmkigfbfbaa
