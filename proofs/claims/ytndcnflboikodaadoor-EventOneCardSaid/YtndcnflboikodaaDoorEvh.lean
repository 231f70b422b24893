/-
  The document's has and Right of events (layer 15).
-/
import Derived.Test.YtndcnflboikodaaDoorEvn
import Derived.Test.YtndcnflboikodaaDoorEvr
namespace Go.Proofs.YtndcnflboikodaaDoor
open Go.RowKit
set_option linter.unusedVariables false
set_option linter.unusedSimpArgs false
def hasB (s : ByteArray) (c i : Nat) : Bool := (s.data.toList.drop i).any (fun b => b.toNat == c)
theorem hasB_next {s : ByteArray} {c i : Nat} (h : i < s.size) : hasB s c i = (((s[i]'h).toNat == c) || hasB s c (i + 1)) := by
  unfold hasB
  have hl : i < s.data.toList.length := by simpa using h
  rw [List.drop_eq_getElem_cons hl, List.any_cons]
  rfl
theorem hasB_end (s : ByteArray) (c : Nat) : hasB s c s.size = false := by
  unfold hasB
  rw [List.drop_of_length_le (by simp)]; rfl
set_option maxHeartbeats 4000000 in
theorem rfHas (s : ByteArray) (c : Nat) (w : World) (hs : s.size ≤ 1000) (hc : c < 256) : Calls Tryd.prog 29 #[.string s, .int .u8 (c : Int)] w fun e w' => e = .returned (.bool (hasB s c 0)) ∧ w = w' := by
  go_enter Tryd.func29, Tryd.ntmps29
  go_wp2_with fail
  go_loopw [5] (fun u wr => ∃ i : Nat, i ≤ s.size ∧ u = .int .i64 i ∧ Hid (hasB s c 0 = hasB s c i) ∧ wr = w) (fun u _ => s.size - (intOf u).toNat)
  case atStart => exact ⟨0, by omega, rfl, (by show _ = _; rfl), rfl⟩
  case round =>
    obtain ⟨i, hi, rfl, hq, rfl⟩ := hrel
    by_cases hlt : i < s.size
    · have hii : (i : Int) < (s.size : Int) := by omega
      have hn := hasB_next (c := c) hlt
      obtain ⟨x, hx⟩ : ∃ x, (s[i]'hlt).toNat = x := ⟨_, rfl⟩
      rw [hx] at hn
      by_cases he : x = c
      · have HE : Hid (hasB s c 0 = true) := by
          show _ = _
          rw [hq.out, hn, he]; simp
        clear hn hq
        subst he
        have e1 : ((x : Int) == (x : Int)) = true := by simp
        go_wp2
        go_ret
        exact ⟨ret_bool (by rw [HE.out]), rfl⟩
      · have HQ : Hid (hasB s c 0 = hasB s c (i + 1)) := by
          show _ = _
          rw [hq.out, hn, beq_eq_false_iff_ne.2 he]; rfl
        have e1 : ((x : Int) == (c : Int)) = false := by rw [beq_eq_false_iff_ne]; omega
        have e2 : (x == c) = false := beq_eq_false_iff_ne.2 he
        clear hn hq
        go_wp2
        go_roundw
        case rel => exact ⟨i + 1, by omega, by go_num, HQ, trivial⟩
        case measure => simp [intOf]; omega
    · obtain rfl : i = s.size := by omega
      have HE : Hid (hasB s c 0 = false) := hq.out.trans (hasB_end s c)
      clear hq
      go_wp2
      go_ret
      exact ⟨ret_bool (by rw [HE.out]), rfl⟩
theorem has_ring (k : Int) : hasB (nmsB k) 82 0 = ringB k := by
  unfold nmsB
  rcases kinds_apart k with ⟨h1, h2, h3⟩ | ⟨h1, h2, h3⟩ | ⟨h1, h2, h3⟩ | ⟨h1, h2, h3⟩ <;> simp only [h1, h2, h3] <;> decide +kernel
theorem has_ticket (k : Int) : hasB (nmsB k) 84 0 = ticketB k := by
  unfold nmsB
  rcases kinds_apart k with ⟨h1, h2, h3⟩ | ⟨h1, h2, h3⟩ | ⟨h1, h2, h3⟩ | ⟨h1, h2, h3⟩ <;> simp only [h1, h2, h3] <;> decide +kernel
theorem has_value (k : Int) : hasB (nmsB k) 86 0 = valueB k := by
  unfold nmsB
  rcases kinds_apart k with ⟨h1, h2, h3⟩ | ⟨h1, h2, h3⟩ | ⟨h1, h2, h3⟩ | ⟨h1, h2, h3⟩ <;> simp only [h1, h2, h3] <;> decide +kernel
theorem nms_size (k : Int) : (nmsB k).size ≤ 1000 := by
  unfold nmsB
  rcases kinds_apart k with ⟨h1, h2, h3⟩ | ⟨h1, h2, h3⟩ | ⟨h1, h2, h3⟩ | ⟨h1, h2, h3⟩ <;> simp only [h1, h2, h3] <;> decide +kernel
theorem rfHasRing (k : Int) (w : World) : Calls Tryd.prog 29 #[.string (nmsB k), .int .u8 82] w fun e w' => e = .returned (.bool (ringB k)) ∧ w = w' := by
  have h := rfHas (nmsB k) 82 w (nms_size k) (by omega)
  rw [has_ring] at h
  exact h
theorem rfHasTicket (k : Int) (w : World) : Calls Tryd.prog 29 #[.string (nmsB k), .int .u8 84] w fun e w' => e = .returned (.bool (ticketB k)) ∧ w = w' := by
  have h := rfHas (nmsB k) 84 w (nms_size k) (by omega)
  rw [has_ticket] at h
  exact h
theorem rfHasValue (k : Int) (w : World) : Calls Tryd.prog 29 #[.string (nmsB k), .int .u8 86] w fun e w' => e = .returned (.bool (valueB k)) ∧ w = w' := by
  have h := rfHas (nmsB k) 86 w (nms_size k) (by omega)
  rw [has_value] at h
  exact h
end Go.Proofs.YtndcnflboikodaaDoor
