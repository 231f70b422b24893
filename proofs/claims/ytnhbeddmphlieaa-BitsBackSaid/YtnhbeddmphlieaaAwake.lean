import Derived.Test.YtnhbeddmphlieaaBits6
namespace Go.Proofs.Ytnhbeddmphlieaa
open Go.RowKit
set_option linter.unusedVariables false
set_option linter.unusedSimpArgs false
theorem aw_b : bitsN 5 3 ++ bitsN 1 1 = [true, false, true, true] := by decide
theorem aw_s : textB (packB [true, false, true, true]) = ⟨#[176]⟩ := by decide +kernel
theorem aw_n : numB (cutB ⟨#[176]⟩ 0 3) = 5 := by decide +kernel
theorem aw_m : numB (cutB ⟨#[176]⟩ 3 1) = 1 := by decide +kernel
theorem aw_e : doneE ⟨#[176]⟩ 3 = 3 := by decide +kernel
theorem aw_d : doneE ⟨#[176]⟩ 4 = 0 := by decide +kernel
theorem BwAt.fresh (w : World) (B : Nat) : BwAt (w.alloc (.cells #[.slice none 0 0, .int .i64 0] 26)) B w.heap.size [] :=
  ⟨_, Lies.made _ _ _, World.ownsRow_nil _ _ _ _⟩
theorem below_bw {w0 w w' : World} {B B2 g : Nat} (h : Below B w0 w) (k : Kept (bwRows w B2 g) w w') (hB : B ≤ B2) (hg : B ≤ g) (hs : B ≤ w.heap.size) : Below B w0 w' :=
  h.trans (k.below hs (fun i hi hh => by rcases hh with h | ⟨h, _⟩ <;> omega))
set_option maxHeartbeats 2000000 in
set_option maxRecDepth 100000 in
theorem awake_any (w : World) : Calls Try.prog 8 #[] w fun e w' => e = .returned (.bool true) ∧ Below w.heap.size w w' := by
  have hb0 : Below w.heap.size w (w.alloc (.cells #[.slice none 0 0, .int .i64 0] 26)) := (Below.refl _ _).alloc (Nat.le_refl _) _
  have HW := Lib.hid (BwAt.fresh w w.heap.size)
  go_enter Try.func8, Try.ntmps8
  go_wp2_with fail
  generalize w.alloc (.cells #[.slice none 0 0, .int .i64 0] 26) = w0 at *
  refine (bitsPut w.heap.size w.heap.size 5 3 [] w0 HW.out hb0.size (by simp) (by omega) (by omega)).mono ?_
  rintro e w1 ⟨rfl, hw1, hk1⟩
  have hb1 := below_bw hb0 hk1 (Nat.le_refl _) (Nat.le_refl _) hb0.size
  have HW1 := Lib.hid hw1
  clear HW hw1 hk1 hb0
  go_wp2_with fail
  refine (bitsPut w.heap.size w.heap.size 1 1 _ w1 HW1.out hb1.size (by simp [bitsN_length]) (by omega) (by omega)).mono ?_
  rintro e w2 ⟨rfl, hw2, hk2⟩
  have hb2 := below_bw hb1 hk2 (Nat.le_refl _) (Nat.le_refl _) hb1.size
  rw [List.nil_append, aw_b] at hw2
  have HW2 := Lib.hid hw2
  clear HW1 hw2 hk2 hb1
  go_wp2_with fail
  refine (bitsPutNo w.heap.size 0 65 w2 (by omega)).mono ?_
  rintro e w3 ⟨rfl, rfl⟩
  have hst := bitsString w.heap.size w.heap.size _ w2 HW2.out
  rw [aw_s] at hst
  have HST := Lib.hid hst
  clear hst
  go_wp2_with fail
  refine HST.out.mono ?_
  rintro e w3 ⟨rfl, rfl⟩
  go_wp2_with fail
  refine (bitsNew ⟨#[176]⟩ w2 (by decide)).mono ?_
  rintro e w4 ⟨rfl, hr4, hk4⟩
  have hk4 := hk4.mono (T := oneRow w2.heap.size) (fun _ _ hf => hf.elim)
  have HR4 := Lib.hid hr4
  clear hr4
  have ht := bitsTakeOk w2.heap.size ⟨#[176]⟩ 0 3 w4 HR4.out (by omega) (by decide)
  rw [aw_n] at ht
  have HT := Lib.hid ht
  clear ht
  go_wp2_with fail
  refine HT.out.mono ?_
  rintro e w5 ⟨rfl, hr5, hk5⟩
  have hk5 := hk4.trans hk5 (fun _ _ h => h)
  have HR5 := Lib.hid hr5
  clear hr5 HT HR4 hk4
  have hd := bitsDone w2.heap.size ⟨#[176]⟩ 3 w5 HR5.out
  rw [aw_e] at hd
  have HD := Lib.hid hd
  clear hd
  go_wp2_with fail
  refine HD.out.mono ?_
  rintro e w6 ⟨rfl, hb6⟩
  have HR6 := Lib.hid (HR5.out.later hb6)
  have hk6 := kept_below_ hk5 hb6
  clear HD HR5 hk5 hb6
  have ht := bitsTakeOk w2.heap.size ⟨#[176]⟩ 3 1 w6 HR6.out (by omega) (by decide)
  rw [aw_m] at ht
  have HT := Lib.hid ht
  clear ht
  go_wp2_with fail
  refine HT.out.mono ?_
  rintro e w7 ⟨rfl, hr7, hk7⟩
  have hk7 := hk6.trans hk7 (fun _ _ h => h)
  have HR7 := Lib.hid hr7
  clear hr7 HT HR6 hk6
  go_wp2_with fail
  refine (bitsTakeEnd w2.heap.size ⟨#[176]⟩ 4 5 w7 HR7.out (by omega) (by decide)).mono ?_
  rintro e w8 ⟨rfl, n8, hw8⟩
  have hb78 : Below w7.heap.size w7 w8 := by rw [hw8]; exact below_drewN (Below.refl _ _) _
  have HR8 := Lib.hid (HR7.out.later hb78)
  have hk8 := kept_below_ hk7 hb78
  have hb28 : Below w2.heap.size w2 w8 := hk8.below (Nat.le_refl _) (fun k hk (e : k = _) => by omega)
  have HW8 := Lib.hid (HW2.out.later hb28)
  have hbel := hb2.trans (hb28.mono hb2.size)
  clear hw8 hb78 hk7 hk8 HR7 hb28
  go_wp2_with fail
  refine (bitsLen w.heap.size w.heap.size _ w8 HW8.out).mono ?_
  rintro e w9 ⟨rfl, rfl⟩
  have hst := bitsString w.heap.size w.heap.size _ w8 HW8.out
  rw [aw_s] at hst
  have HST8 := Lib.hid hst
  clear hst
  go_wp2_with fail
  refine HST8.out.mono ?_
  rintro e w9 ⟨rfl, rfl⟩
  go_wp2_with fail
  refine (bitsAt w2.heap.size _ 4 w8 HR8.out).mono ?_
  rintro e w9 ⟨rfl, rfl⟩
  have hd := bitsDone w2.heap.size ⟨#[176]⟩ 4 w8 HR8.out
  rw [aw_d] at hd
  have HD := Lib.hid hd
  clear hd
  go_wp2_with fail
  refine HD.out.mono ?_
  rintro e w9 ⟨rfl, hb9⟩
  have hbel := hbel.trans (hb9.mono hbel.size)
  go_wp2
  go_ret
  exact ⟨rfl, hbel⟩
end Go.Proofs.Ytnhbeddmphlieaa
