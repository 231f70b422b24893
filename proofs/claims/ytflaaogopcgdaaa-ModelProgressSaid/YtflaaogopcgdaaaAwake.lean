/-
  Whether the law is awake.
-/
import Derived.Test.YtflaaogopcgdaaaMd3
namespace Go.Proofs.Ytflaaogopcgdaaa
open Go.RowKit
set_option linter.unusedVariables false
set_option linter.unusedSimpArgs false
theorem MdStep.below {w0 w w' : World} {B g gb : Nat} {vb : Option Nat} {M M' : Md} (h : MdStep w w' B g gb vb M') (hm : MdAt w B g gb vb M) (hb : Below B w0 w) : Below B w0 w' := by
  obtain ⟨vb', _, hk, _⟩ := h
  obtain ⟨_, a2, a3, _, _, _, A, c, cg, hl, ho, _, rfl⟩ := hm
  have hlt := hl.lt
  refine hb.trans (hk.below (by omega) (fun i hi hs => ?_))
  rcases hs with rfl | rfl | hs
  · omega
  · omega
  · have := (ho.lt i hs).1
    omega
theorem MdAt.vlt {w : World} {B g gb : Nat} {vb : Option Nat} {M : Md} (h : MdAt w B g gb vb M) : g < w.heap.size ∧ gb < w.heap.size ∧ ∀ k, vb = some k → k < w.heap.size := by
  obtain ⟨_, a2, a3, _, _, _, A, c, cg, hl, ho, hg, rfl⟩ := h
  exact ⟨hl.lt, (hg.lt gb rfl).2, fun k e => (ho.lt k e).2⟩
/-- Cells that lie in no block of the log stay. -/
theorem owns_step {w w' : World} {B B' g gb : Nat} {vb : Option Nat} {M : Md} {e : TypeId} {v : Value} {n : Nat} {xs : List Value} (h : w.ownsRow B' e 1 v n xs) (hs : MdStep w w' B g gb vb M)
    (hn : ∀ r, v.ownBlock = some r → r ≠ g ∧ r ≠ gb ∧ vb ≠ some r) : w'.ownsRow B' e 1 v n xs := by
  obtain ⟨vb', _, hk, _⟩ := hs
  refine owns_kept h hk (fun r cur e _ hr => ?_)
  obtain ⟨h1, h2, h3⟩ := hn r e
  rcases hr with hr | hr | hr
  · exact h1 hr
  · exact h2 hr
  · exact h3 hr
theorem seq_one (w : World) (x : Int) : SeqAt (w.alloc (.cells #[.int .u64 x] 36)) (.slice (some ⟨w.heap.size, 0, none⟩) 1 1) (vals [x]) :=
  ⟨_, 1, rfl, by simp [vals], by unfold maxLen; omega, fun k u hu => ⟨w.heap.size, 0, rfl, by
    match k, hu with
    | 0, hu =>
      simp [vals] at hu
      subst hu
      simp [World.cell?_alloc_at]⟩⟩
set_option maxHeartbeats 4000000 in
set_option maxRecDepth 100000 in
theorem awake_any (w : World) : Calls Try.prog 9 #[] w fun e w' => e = .returned (.bool true) ∧ Below w.heap.size w w' := by
  have HN := Lib.hid (fun w => mdNew 1 1 1 w (by omega) (by omega) (by omega) (by omega) (.inl ⟨rfl, rfl⟩))
  have HNN := Lib.hid (fun w => mdNewNo 0 0 0 w (by decide))
  go_enter Try.func9, Try.ntmps9
  go_wp2_with fail
  refine (HN.out _).mono ?_
  rintro e w1 ⟨g, gb, rfl, hm1, hb1⟩
  have HM1 := Lib.hid hm1
  have HB1 := Lib.hid hb1
  clear hm1 hb1 HN
  go_wp2_with fail
  refine (HNN.out _).mono ?_
  rintro e w2 ⟨rfl, hb2⟩
  have hm2 : MdAt w2 w.heap.size g gb none (newM 1 1) := HM1.out.later hb2
  have hb2 := HB1.out.trans (hb2.mono HB1.out.size)
  have hP : Calls Try.prog 13 #[.pointer (some ⟨g, 0, none⟩), .int .u64 7] w2 fun e w' => e = .returned (.tuple #[.int .u64 0, .int .i64 0]) ∧ MdStep w2 w' w.heap.size g gb none ⟨1, false, 0, [7], [0]⟩ := mdPut 7 hm2 (by decide)
  have HP := Lib.hid hP
  have HM2 := Lib.hid hm2
  have HB2 := Lib.hid hb2
  clear hm2 hb2 HNN HM1 HB1 hP
  go_wp2_with fail
  refine HP.out.mono ?_
  rintro e w3 ⟨rfl, hst⟩
  have hb3 := hst.below HM2.out HB2.out
  obtain ⟨vb3, hm3, _, _⟩ := hst
  have hP : Calls Try.prog 13 #[.pointer (some ⟨g, 0, none⟩), .int .u64 8] w3 fun e w' => e = .returned (.tuple #[.int .u64 0, .int .i64 8]) ∧ MdStep w3 w' w.heap.size g gb vb3 ⟨1, false, 0, [7], [0]⟩ := mdPut 8 hm3 (by decide)
  have HP := Lib.hid hP
  have HM3 := Lib.hid hm3
  have HB3 := Lib.hid hb3
  clear hm3 hb3 HM2 HB2 hP
  go_wp2_with fail
  refine HP.out.mono ?_
  rintro e w4 ⟨rfl, hst⟩
  have hb4 := hst.below HM3.out HB3.out
  obtain ⟨vb4, hm4, _, _⟩ := hst
  have hP : Calls Try.prog 19 #[.pointer (some ⟨g, 0, none⟩), .int .i64 0] w4 fun e w' => ∃ A c, e = .returned (.slice A 1 c) ∧ w'.ownsRow w4.heap.size 36 1 (.slice A 1 c) 1 (vals [7]) ∧ Below w4.heap.size w4 w' := mdLeft 0 hm4
  have HP := Lib.hid hP
  have HM4 := Lib.hid hm4
  have HB4 := Lib.hid hb4
  clear hm4 hb4 HM3 HB3 hP
  go_wp2_with fail
  refine HP.out.mono ?_
  rintro e w5 ⟨A, c, rfl, ho5, hb5⟩
  have hm5 := HM4.out.later hb5
  have hb5' := HB4.out.trans (hb5.mono HB4.out.size)
  obtain ⟨v1, v2, v3⟩ := HM4.out.vlt
  have hnb : ∀ r, (Value.slice A 1 c).ownBlock = some r → r ≠ g ∧ r ≠ gb ∧ vb4 ≠ some r := fun r e => by
    have := (ho5.lt r e).1
    refine ⟨by omega, by omega, fun e2 => ?_⟩
    have := v3 r e2
    omega
  have hnl : ∀ r, (Value.slice A 1 c).ownBlock = some r → r < w5.heap.size := fun r e => (ho5.lt r e).2
  have hP : Calls Try.prog 15 #[.pointer (some ⟨g, 0, none⟩), .int .i64 0] w5 fun e w' => e = .returned (.tuple #[.int .u64 7, .int .i64 0]) ∧ MdStep w5 w' w.heap.size g gb vb4 ⟨1, false, 1, [], [1]⟩ := mdGet 0 hm5
  have HP := Lib.hid hP
  have HM5 := Lib.hid hm5
  have HB5 := Lib.hid hb5'
  have HO5 := Lib.hid ho5
  have HNB := Lib.hid hnb
  have HNL := Lib.hid hnl
  clear hm5 hb5 hb5' HM4 HB4 hP ho5 hnb hnl v1 v2 v3
  go_wp2_with fail
  refine HP.out.mono ?_
  rintro e w6 ⟨rfl, hst⟩
  have hb6 := hst.below HM5.out HB5.out
  have ho6 := owns_step HO5.out hst HNB.out
  obtain ⟨vb6, hm6, hk6, hv6⟩ := hst
  have hnb : ∀ r, (Value.slice A 1 c).ownBlock = some r → r ≠ g ∧ r ≠ gb ∧ vb6 ≠ some r := fun r e => by
    obtain ⟨h1, h2, h3⟩ := HNB.out r e
    refine ⟨h1, h2, fun e2 => ?_⟩
    rcases hv6 with rfl | ⟨k, rfl, hk⟩
    · exact h3 e2
    · simp only [Option.some.injEq] at e2
      have := HNL.out r e
      omega
  have hnl : ∀ r, (Value.slice A 1 c).ownBlock = some r → r < w6.heap.size := fun r e => (ho6.lt r e).2
  have hP : Calls Try.prog 15 #[.pointer (some ⟨g, 0, none⟩), .int .i64 0] w6 fun e w' => e = .returned (.tuple #[.int .u64 0, .int .i64 9]) ∧ MdStep w6 w' w.heap.size g gb vb6 ⟨1, false, 1, [], [1]⟩ := mdGet 0 hm6
  have HP := Lib.hid hP
  have HM6 := Lib.hid hm6
  have HB6 := Lib.hid hb6
  have HO6 := Lib.hid ho6
  have HNB := Lib.hid hnb
  have HNL := Lib.hid hnl
  clear hm6 hb6 HM5 HB5 hP ho6 hnb hnl hk6 hv6 HO5
  go_wp2_with fail
  refine HP.out.mono ?_
  rintro e w7 ⟨rfl, hst⟩
  have hb7 := hst.below HM6.out HB6.out
  have ho7 := owns_step HO6.out hst HNB.out
  obtain ⟨vb7, hm7, hk7, hv7⟩ := hst
  have hnb : ∀ r, (Value.slice A 1 c).ownBlock = some r → r ≠ g ∧ r ≠ gb ∧ vb7 ≠ some r := fun r e => by
    obtain ⟨h1, h2, h3⟩ := HNB.out r e
    refine ⟨h1, h2, fun e2 => ?_⟩
    rcases hv7 with rfl | ⟨k, rfl, hk⟩
    · exact h3 e2
    · simp only [Option.some.injEq] at e2
      have := HNL.out r e
      omega
  have hnl : ∀ r, (Value.slice A 1 c).ownBlock = some r → r < w7.heap.size := fun r e => (ho7.lt r e).2
  have hP : Calls Try.prog 17 #[.pointer (some ⟨g, 0, none⟩)] w7 fun e w' => e = .returned (.int .i64 0) ∧ MdStep w7 w' w.heap.size g gb vb7 ⟨1, true, 1, [], [1]⟩ := mdClose hm7
  have HP := Lib.hid hP
  have HM7 := Lib.hid hm7
  have HB7 := Lib.hid hb7
  have HO7 := Lib.hid ho7
  have HNB := Lib.hid hnb
  have HNL := Lib.hid hnl
  clear hm7 hb7 HM6 HB6 hP ho7 hnb hnl hk7 hv7 HO6
  go_wp2_with fail
  refine HP.out.mono ?_
  rintro e w8 ⟨rfl, hst⟩
  have hb8 := hst.below HM7.out HB7.out
  have ho8 := owns_step HO7.out hst HNB.out
  obtain ⟨vb8, hm8, hk8, hv8⟩ := hst
  have hnb : ∀ r, (Value.slice A 1 c).ownBlock = some r → r ≠ g ∧ r ≠ gb ∧ vb8 ≠ some r := fun r e => by
    obtain ⟨h1, h2, h3⟩ := HNB.out r e
    refine ⟨h1, h2, fun e2 => ?_⟩
    rcases hv8 with rfl | ⟨k, rfl, hk⟩
    · exact h3 e2
    · simp only [Option.some.injEq] at e2
      have := HNL.out r e
      omega
  have hnl : ∀ r, (Value.slice A 1 c).ownBlock = some r → r < w8.heap.size := fun r e => (ho8.lt r e).2
  have hP : Calls Try.prog 15 #[.pointer (some ⟨g, 0, none⟩), .int .i64 0] w8 fun e w' => e = .returned (.tuple #[.int .u64 0, .int .i64 10]) ∧ MdStep w8 w' w.heap.size g gb vb8 ⟨1, true, 1, [], [1]⟩ := mdGet 0 hm8
  have HP := Lib.hid hP
  have HM8 := Lib.hid hm8
  have HB8 := Lib.hid hb8
  have HO8 := Lib.hid ho8
  have HNB := Lib.hid hnb
  have HNL := Lib.hid hnl
  clear hm8 hb8 HM7 HB7 hP ho8 hnb hnl hk8 hv8 HO7
  go_wp2_with fail
  refine HP.out.mono ?_
  rintro e w9 ⟨rfl, hst⟩
  have hb9 := hst.below HM8.out HB8.out
  have ho9 := owns_step HO8.out hst HNB.out
  obtain ⟨vb9, hm9, hk9, hv9⟩ := hst
  have hnb : ∀ r, (Value.slice A 1 c).ownBlock = some r → r ≠ g ∧ r ≠ gb ∧ vb9 ≠ some r := fun r e => by
    obtain ⟨h1, h2, h3⟩ := HNB.out r e
    refine ⟨h1, h2, fun e2 => ?_⟩
    rcases hv9 with rfl | ⟨k, rfl, hk⟩
    · exact h3 e2
    · simp only [Option.some.injEq] at e2
      have := HNL.out r e
      omega
  have hP : Calls Try.prog 15 #[.pointer (some ⟨g, 0, none⟩), .int .i64 1] w9 fun e w' => e = .returned (.tuple #[.int .u64 0, .int .i64 1]) ∧ MdStep w9 w' w.heap.size g gb vb9 ⟨1, true, 1, [], [1]⟩ := mdGet 1 hm9
  have HP := Lib.hid hP
  have HM9 := Lib.hid hm9
  have HB9 := Lib.hid hb9
  have HO9 := Lib.hid ho9
  have HNB := Lib.hid hnb
  clear hm9 hb9 HM8 HB8 hP ho9 hnb hk9 hv9 HO8 HNL
  go_wp2_with fail
  refine HP.out.mono ?_
  rintro e w10 ⟨rfl, hst⟩
  have hb10 := hst.below HM9.out HB9.out
  have ho10 := owns_step HO9.out hst HNB.out
  have hbA := (Below.refl w10.heap.size w10).alloc (Nat.le_refl _) (.cells #[.int .u64 7] 36)
  have hsm := refSame (.slice A 1 c) (.slice (some ⟨w10.heap.size, 0, none⟩) 1 1) [7] [7] _ ((SeqAt.of_owns ho10).later_ hbA) (seq_one w10 7)
  have HSM := Lib.hid hsm
  have HB10 := Lib.hid (hb10.trans (hbA.mono hb10.size))
  clear hst hb10 ho10 hbA hsm HM9 HB9 HO9 HNB
  go_wp2_with fail
  refine HSM.out.mono ?_
  rintro e w11 ⟨rfl, n, rfl⟩
  go_wp2
  go_ret
  exact ⟨rfl, below_drewN HB10.out n⟩
end Go.Proofs.Ytflaaogopcgdaaa
