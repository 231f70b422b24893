import Derived.Test.YthlaadcldkefoaaRefs
namespace Go.Proofs.Ythlaadcldkefoaa
open Go.RowKit
set_option linter.unusedVariables false
theorem octetTakeNil (n : Int) (w : World) : Calls Try.prog 13 #[.pointer none, .int .i64 n] w fun e w' => e = .returned (.tuple #[.string ⟨#[]⟩, .int .i64 15]) ∧ w = w' := by
  go_enter Try.func13, Try.ntmps13
  go_wp2
  go_ret2
  exact ⟨rfl, rfl⟩
theorem octetByteNil (w : World) : Calls Try.prog 21 #[.pointer none] w fun e w' => e = .returned (.tuple #[.int .u8 0, .int .i64 15]) ∧ w = w' := by
  go_enter Try.func21, Try.ntmps21
  go_wp2_with (go_at_call 13; refine (octetTakeNil _ _).mono ?_; rintro e w' ⟨rfl, rfl⟩)
  go_ret2
  exact ⟨rfl, rfl⟩
theorem varintReadNil (w : World) : Calls Try.prog 15 #[.pointer none] w fun e w' => e = .returned (.tuple #[.int .u64 0, .int .i64 15]) ∧ w = w' := by
  go_enter Try.func15, Try.ntmps15
  go_wp2
  refine wp_loop_rounds 1 ?_
  rw [rounds_succ]
  go_wp2_with (go_at_call 21; refine (octetByteNil _).mono ?_; rintro e w' ⟨rfl, rfl⟩)
  go_ret2
  exact ⟨rfl, rfl⟩
set_option maxHeartbeats 2000000 in
theorem awake_any (w : World) : Calls Try.prog 9 #[] w fun e w' => e = .returned (.bool true) ∧ Below w.heap.size w w' := by
  obtain ⟨s, hs⟩ : ∃ s : ByteArray, s = ⟨#[172, 2, 128, 0, 7]⟩ := ⟨_, rfl⟩
  obtain ⟨t, ht⟩ : ∃ t : ByteArray, t = ⟨#[2, 5, 6]⟩ := ⟨_, rfl⟩
  obtain ⟨u, hu⟩ : ∃ u : ByteArray, u = ⟨#[2, 5]⟩ := ⟨_, rfl⟩
  have sz : s.size ≤ maxLen := by rw [hs]; decide
  have tz : t.size ≤ maxLen := by rw [ht]; decide
  have uz : u.size ≤ maxLen := by rw [hu]; decide
  have tz2 : t.size ≤ 1099511627776 := by rw [ht]; decide
  have uz2 : u.size ≤ 1099511627776 := by rw [hu]; decide
  have a1 : rd (restOf s 0) = (300, 0, 2) := by rw [hs]; decide +kernel
  have a2 : rd (restOf s 2) = (0, 3, 2) := by rw [hs]; decide +kernel
  have l1 : rdListErr t 0 2 = 0 := by rw [ht]; decide +kernel
  have l2 : rdListOf t 0 2 = [5, 6] := by rw [ht]; decide +kernel
  have l3 : rdListErr t 0 1 = 4 := by rw [ht]; decide +kernel
  have l4 : rdListErr u 0 2 = 2 := by rw [hu]; decide +kernel
  have A1 := Lib.hid a1
  have A2 := Lib.hid a2
  have L1 := Lib.hid l1
  have L2 := Lib.hid l2
  have L3 := Lib.hid l3
  have L4 := Lib.hid l4
  clear a1 a2 l1 l2 l3 l4
  go_enter Try.func9, Try.ntmps9
  go_wp2_with fail
  rw [← hs]
  clear hs
  refine (octetNew s w sz).mono ?_
  rintro e w1 ⟨rfl, r1, k1⟩
  have k1 := onto_none (Below.refl w.heap.size w) k1
  have hg : w.heap.size < w1.heap.size := r1.1.lt
  generalize hgg : w.heap.size = g at *
  go_wp2_with fail
  refine (varintRead g s 0 w1 r1).mono ?_
  rintro e w2 ⟨rfl, r2, k2⟩
  rw [A1.out] at r2 ⊢
  go_wp2_with fail
  refine (varintRead g s _ w2 r2).mono ?_
  rintro e w3 ⟨rfl, r3, k3⟩
  simp only [Nat.zero_add] at r3 ⊢
  rw [A2.out] at r3 ⊢
  go_wp2_with fail
  rw [← ht]
  have k3b := (k1.trans (k2.below (B := g) (by omega) (fun i hi (e : i = g) => by omega))).trans (k3.below (B := g) (Nat.le_trans (by omega) k2.size) (fun i hi (e : i = g) => by omega))
  have hg3 : g < w3.heap.size := r3.1.lt
  clear k1 k2 k3 r1 r2
  refine (octetNew t w3 tz).mono ?_
  rintro e w4 ⟨rfl, q4, k4⟩
  have r4 := r3.kept k4 (fun h => h)
  have k4b := k3b.trans (k4.below (B := g) (by omega) (fun _ _ h => h))
  have hg4 : w3.heap.size < w4.heap.size := q4.1.lt
  generalize w3.heap.size = g2 at *
  clear k3b k4 r3
  go_wp2_with fail
  refine (varintReadList g2 t 0 2 w4 q4 tz2 (by omega)).mono ?_
  rintro e w5 ⟨v, rfl, o5, q5, k5⟩
  rw [L1.out, L2.out] at *
  have r5 := r4.kept k5 (fun (h : g = g2) => by omega)
  have k5b := k4b.trans (k5.below (B := g) (by omega) (fun i hi (h : i = g2) => by omega))
  have hg5 : g < w5.heap.size := r5.1.lt
  clear k4b k5 r4 q4 q5
  go_wp2_with fail
  rw [← ht]
  refine (octetNew t w5 tz).mono ?_
  rintro e w6 ⟨rfl, q6, k6⟩
  have r6 := r5.kept k6 (fun h => h)
  have o6 := owns_kept o5 k6 (fun _ _ _ _ h => h)
  have k6b := k5b.trans (k6.below (B := g) (by omega) (fun _ _ h => h))
  have hg6 : w5.heap.size < w6.heap.size := q6.1.lt
  generalize w5.heap.size = g3 at *
  clear k5b k6 r5 o5
  go_wp2_with fail
  refine (varintReadList g3 t 0 1 w6 q6 tz2 (by omega)).mono ?_
  rintro e w7 ⟨v7, rfl, _, _, k7⟩
  rw [L3.out]
  have r7 := r6.kept k7 (fun (h : g = g3) => by omega)
  have o7 := owns_kept o6 k7 (fun r cur _ hl (h : r = g3) => by subst h; exact absurd (hl.same q6.1).1 (by decide))
  have k7b := k6b.trans (k7.below (B := g) (by omega) (fun i hi (h : i = g3) => by omega))
  have hg7 : g < w7.heap.size := r7.1.lt
  clear k6b k7 r6 o6 q6
  clear ht
  go_wp2_with fail
  rw [← hu]
  clear hu
  refine (octetNew u w7 uz).mono ?_
  rintro e w8 ⟨rfl, q8, k8⟩
  have r8 := r7.kept k8 (fun h => h)
  have o8 := owns_kept o7 k8 (fun _ _ _ _ h => h)
  have k8b := k7b.trans (k8.below (B := g) (by omega) (fun _ _ h => h))
  have hg8 : w7.heap.size < w8.heap.size := q8.1.lt
  generalize w7.heap.size = g4 at *
  clear k7b k8 r7 o7
  go_wp2_with fail
  refine (varintReadList g4 u 0 2 w8 q8 uz2 (by omega)).mono ?_
  rintro e w9 ⟨v9, rfl, _, _, k9⟩
  rw [L4.out]
  have r9 := r8.kept k9 (fun (h : g = g4) => by omega)
  have o9 := owns_kept o8 k9 (fun r cur _ hl (h : r = g4) => by subst h; exact absurd (hl.same q8.1).1 (by decide))
  have k9b := k8b.trans (k9.below (B := g) (by omega) (fun i hi (h : i = g4) => by omega))
  have hg9 : g < w9.heap.size := r9.1.lt
  clear k8b k9 r8 o8 q8
  go_wp2_with fail
  refine (varintReadNil w9).mono ?_
  rintro e w' ⟨rfl, rfl⟩
  go_wp2_with fail
  refine (varintPrint 300 w9 (by decide)).mono ?_
  rintro e w10 ⟨rfl, k10⟩
  have r10 := r9.kept (Kept.of_below k10) (fun h => h)
  have o10 := owns_kept o9 (Kept.of_below k10) (fun _ _ _ _ h => h)
  have k10b := k9b.trans (k10.mono (by omega))
  rw [show textB (enc 300) = ⟨#[172, 2]⟩ by decide +kernel]
  have hg10 : g < w10.heap.size := r10.1.lt
  clear k9b k10 r9 o9
  go_wp2_with fail
  refine (varintSize 300 w10 (by decide)).mono ?_
  rintro e w' ⟨rfl, rfl⟩
  rw [show (enc 300).length = 2 by decide +kernel]
  go_wp2_with fail
  refine (octetAt g s _ w10 r10).mono ?_
  rintro e w' ⟨rfl, rfl⟩
  go_wp2_with fail
  have hl := Lies.made w10 22 #[.int .u64 5, .int .u64 6]
  have o11 := o10.alloc (.cells #[.int .u64 5, .int .u64 6] 22)
  have k11 := k10b.alloc (by omega) (.cells #[.int .u64 5, .int .u64 6] 22)
  generalize w10.alloc (.cells #[.int .u64 5, .int .u64 6] 22) = w11 at *
  refine (refSame v _ [5, 6] [5, 6] w11 ?_ ?_).mono ?_
  · exact SeqAt.of_owns o11
  · refine ⟨some ⟨w10.heap.size, 0, none⟩, 2, rfl, by decide, by decide, fun k u hu => ⟨_, _, rfl, ?_⟩⟩
    rw [Nat.zero_add, hl.cell k, ← hu]
    match k with
    | 0 => rfl
    | 1 => rfl
    | k + 2 => simp [vals]
  rintro e w12 ⟨rfl, n12, rfl⟩
  go_wp2
  go_ret
  exact ⟨rfl, by rw [hgg]; exact k11.trans ⟨rfl, rfl, rfl, Nat.le_refl _, fun _ _ => rfl⟩⟩
end Go.Proofs.Ythlaadcldkefoaa
