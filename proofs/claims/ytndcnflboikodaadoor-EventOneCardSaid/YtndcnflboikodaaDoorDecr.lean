/-
  The document's Number (layer 10): a number in digits of ten.
-/
import Derived.Test.YtndcnflboikodaaDoorDec
namespace Go.Proofs.YtndcnflboikodaaDoor
open Go.RowKit
set_option linter.unusedVariables false
set_option linter.unusedSimpArgs false
theorem ret_text9 {a b : ByteArray} (h : b = a) : Ending.returned (.string a) = .returned (.string b) := by rw [h]
theorem pow20 {n : Nat} (h : n < 18446744073709551616) : n < 10 ^ (19 + 1) := Nat.lt_trans h (by decide)
theorem digit_small {m : Nat} (h : m < 10) : ((UInt8.ofNat (48 + m)).toNat : Int) = 48 + (m : Int) := by
  rw [UInt8.toNat_ofNat', Nat.mod_eq_of_lt (by omega)]; omega
theorem decF_small {f m : Nat} (h : m < 10) : decF f m = [UInt8.ofNat (48 + m)] := by
  cases f with
  | zero => rw [decF, Nat.mod_eq_of_lt h]
  | succ f => rw [decF, if_pos h]
theorem lit_text (w : World) (b : UInt8) (z : Int) (hz : (b.toNat : Int) = z) : (convert 53 9 (.slice (some ⟨w.heap.size, 0, none⟩) 1 1)).run Tryd.prog (w.alloc (.cells #[.int .u8 z] 5)) = .ok (.string (textB [b])) (w.alloc (.cells #[.int .u8 z] 5)) := by
  subst hz
  have h := World.ownsRow_lit (base := w.heap.size) (e := 5) (size := 1) w #[.int .u8 (b.toNat : Int)] 1 (Nat.le_refl _) (by unfold maxLen; omega) (by simp)
  exact convert_owned _ w.heap.size _ [b] 1 rfl h
set_option maxHeartbeats 4000000 in
theorem rfNumber (n : Nat) (w : World) (h64 : n < 18446744073709551616) : Calls Tryd.prog 33 #[.int .u64 (n : Int)] w fun e w' => e = .returned (.string (textB (decE n))) ∧ Below w.heap.size w w' := by
  have HB := Lib.hid (Below.refl w.heap.size w)
  go_enter Tryd.func33, Tryd.ntmps33
  go_wp2_with fail
  go_loopw [0, 3] (fun u v wr => ∃ (f m : Nat) (o : List UInt8), f ≤ 19 ∧ m < 10 ^ (f + 1) ∧ Hid (m < 18446744073709551616) ∧ o.length + f ≤ 19 ∧ u = .int .u64 (m : Int) ∧ v = .string (textB o) ∧ Hid (decE n = decF f m ++ o) ∧ Hid (Below w.heap.size w wr)) (fun u _ _ => (intOf u).toNat)
  case atStart => exact ⟨19, n, [], by omega, pow20 h64, h64, by simp, rfl, rfl, (by show decE n = _; rw [List.append_nil]; rfl), HB⟩
  case round =>
    clear HB h64
    obtain ⟨f, m, o, hf, hm, H64, ho, rfl, rfl, HD, HB⟩ := hrel
    by_cases h10 : m < 10
    · have hm9 : (m : Int) ≤ 9 := by omega
      have e1 : decide ((9 : Int) < (m : Int)) = false := decide_eq_false (by omega)
      have e2 : decide (9 < m) = false := decide_eq_false (by omega)
      have hd := digit_small h10
      have hx : decE n = UInt8.ofNat (48 + m) :: o := by
        rw [HD.out, decF_small h10]; rfl
      generalize UInt8.ofNat (48 + m) = bt at *
      have HX := Lib.hid hx
      clear hx
      have hcv := lit_text wr bt (48 + (m : Int)) hd
      have HB2 := Lib.hid (HB.out.alloc HB.out.size (.cells #[.int .u8 (48 + (m : Int))] 5))
      have htx : textB [bt] ++ textB o = textB (bt :: o) := text_append _ _
      have hw1 : IntKind.u8.wrap (48 + (m : Int)) = 48 + (m : Int) := by rw [IntKind.wrap_u8]; omega
      have hsz : (textB [bt]).size + (textB o).size ≤ 9223372036854775807 := by rw [textB_size, textB_size]; simp; omega
      have hsz9 : ¬ 9223372036854775807 < (textB [bt]).size + (textB o).size := by omega
      clear hsz
      clear HD HB hd hm
      go_wp2
      go_ret
      exact ⟨ret_text9 (by first | (rw [HX.out]; done) | (rw [HX.out]; exact htx)), HB2.out⟩
    · cases f with
      | zero => exact absurd (show m < 10 from by simpa using hm) h10
      | succ f =>
      have hmi : ¬ (m : Int) < 10 := by omega
      have e1 : decide ((9 : Int) < (m : Int)) = true := decide_eq_true (by omega)
      have hs1 : (m : Int) ≤ 18446744073709551615 := by have := H64.out; omega
      have hd := digit_val m
      have hx : decE n = decF f (m / 10) ++ (UInt8.ofNat (48 + m % 10) :: o) := by
        rw [HD.out, decF, if_neg h10, List.append_assoc]; rfl
      generalize UInt8.ofNat (48 + m % 10) = bt at *
      have HX := Lib.hid hx
      clear hx
      have hcv := lit_text wr bt (48 + (m : Int) % 10) hd
      have HB2 := Lib.hid (HB.out.alloc HB.out.size (.cells #[.int .u8 (48 + (m : Int) % 10)] 5))
      have htx : textB [bt] ++ textB o = textB (bt :: o) := text_append _ _
      have hw1 : IntKind.u8.wrap (48 + (m : Int) % 10) = 48 + (m : Int) % 10 := by rw [IntKind.wrap_u8]; omega
      have hdv : (m : Int) / 10 = ((m / 10 : Nat) : Int) := by omega
      have H64' : Hid (m / 10 < 18446744073709551616) := by have := H64.out; show _ < _; omega
      have hm' : m / 10 < 10 ^ (f + 1) := by rw [Nat.pow_succ] at hm; omega
      have hlt : m / 10 < m := by omega
      have hsz : (textB [bt]).size + (textB o).size ≤ 9223372036854775807 := by rw [textB_size, textB_size]; simp; omega
      have hsz9 : ¬ 9223372036854775807 < (textB [bt]).size + (textB o).size := by omega
      clear hsz
      clear HD HB hd hm H64
      generalize hS : (m : Int) = S at *
      go_wp2
      go_roundw
      case rel => exact ⟨f, m / 10, bt :: o, by omega, hm', H64', by simp; omega, (by first | rfl | rw [hdv]), (by first | rfl | rw [htx]), HX, HB2⟩
      case measure => simp [intOf]; omega
end Go.Proofs.YtndcnflboikodaaDoor
