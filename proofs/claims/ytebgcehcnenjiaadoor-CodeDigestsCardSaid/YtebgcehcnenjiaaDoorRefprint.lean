/-
  The ref's printing of a number.
-/
import Derived.Test.YtebgcehcnenjiaaDoorVarint
namespace Go.Proofs.YtebgcehcnenjiaaDoor
open Go.RowKit
set_option linter.unusedVariables false
set_option linter.unusedSimpArgs false
set_option maxHeartbeats 1000000 in
theorem refPrint (n : Nat) (w : World) (hn : n < M64) :
    Calls Tryd.prog 42 #[.int .u64 n] w fun e w' => e = .returned (.string (textB (enc n))) ∧ Below w.heap.size w w' := by
  have hn2 : n ≤ 18446744073709551615 := by unfold M64 at hn; omega
  go_enter Tryd.func42, Tryd.ntmps42
  go_wp2
  have ho0 := World.ownsRow_made (base := w.heap.size) (e := 5) (size := 1) w #[] 0 (Nat.le_refl _) (by unfold maxLen; omega) rfl
  have hb0 := (Below.refl w.heap.size w).alloc (Nat.le_refl _) (.cells #[] 5)
  go_loopw [0, 3] (fun i t wr => ∃ (f m : Nat) (d : List UInt8), i = .int .u64 m ∧ m ≤ 18446744073709551615 ∧ f ≤ 9 ∧ Hid (m < 128 ^ (f + 1)) ∧ Hid (d ++ leb f m = [] ++ enc n) ∧ d.length + (f + 1) ≤ 10 ∧ wr.ownsRow w.heap.size 5 1 t d.length (cellsB d) ∧ Below w.heap.size w wr)
    (fun i _ _ => (intOf i).toNat)
  case atStart => exact ⟨9, n, [], rfl, hn2, by omega, Nat.lt_of_lt_of_le hn m64_lt, rfl, by simp, ho0, hb0⟩
  case round =>
    clear ho0 hb0
    obtain ⟨f, m, d, rfl, hm, hf, hp, hd, hdl, ho, hb⟩ := hrel
    have hBr : w.heap.size ≤ wr.heap.size := hb.size
    by_cases h : m < 128
    · have e0 : decide ((127 : Int) < (m : Int)) = false := by simp; omega
      have hx := last_byte m h
      have hg := Lib.hid (grow_done hd.out h)
      generalize UInt8.ofNat m = b at *
      have HX := Lib.hid hx
      clear hx
      have hcv : ∀ (w1 : World) (v : Value), w1.ownsRow w.heap.size 5 1 v (d.length + 1) (cellsB d ++ [.int .u8 (b.toNat : Int)]) → (convert 62 9 v).run Tryd.prog w1 = .ok (.string (textB (d ++ [b]))) w1 := by
        intro w1 v h
        rw [cellsB_push] at h
        exact convert_owned w1 _ v _ _ (by simp) h
      have HCV := Lib.hid hcv
      clear hcv
      go_wp2_with (at_builtin; rw [HX.out]; refine append_one wr (.int .u8 b.toNat) rfl (.tmp 16) (.tmp 19) 62 rfl w.heap.size 5 _ _ Tryd.underlying62 Tryd.infoU8 rfl rfl _ _ _ rfl ho rfl (by unfold maxLen; omega) (by omega) hBr ?_; intro v' w1 hown1 hb1 _; have hcv1 := HCV.out w1 v' hown1; clear hown1)
      go_ret
      exact ⟨ret_text (by rw [hg.out]; rfl), hb.trans hb1⟩
    · have e0 : decide ((127 : Int) < (m : Int)) = true := by simp; omega
      obtain ⟨f', rfl, hd', hp'⟩ := grow_step hd.out hp.out h
      have HD := Lib.hid hd'
      have HP := Lib.hid hp'
      have hx : (m : Int) % 128 + 128 = ((UInt8.ofNat (m % 128 + 128)).toNat : Int) := by rw [UInt8.toNat_ofNat']; omega
      clear hd hp hd' hp'
      generalize UInt8.ofNat (m % 128 + 128) = b at *
      go_wp2_with (at_builtin; refine append_one wr (.int .u8 b.toNat) rfl (.tmp 7) (.tmp 12) 62 rfl w.heap.size 5 _ _ Tryd.underlying62 Tryd.infoU8 rfl rfl _ _ _ rfl ho rfl (by unfold maxLen; omega) (by omega) hBr ?_; intro v' w1 hown1 hb1 _)
      rw [cellsB_push] at hown1
      go_roundw
      case rel => exact ⟨f', m / 128, d ++ [b], by go_num, by omega, by omega, HP, HD, by rw [List.length_append]; simp; omega, by rw [List.length_append]; exact hown1, hb.trans hb1⟩
      case measure => simp [intOf]; omega
end Go.Proofs.YtebgcehcnenjiaaDoor
