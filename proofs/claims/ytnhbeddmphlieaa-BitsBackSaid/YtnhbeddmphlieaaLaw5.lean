import Derived.Test.YtnhbeddmphlieaaLaw2
import Derived.Test.YtnhbeddmphlieaaLaw3
namespace Go.Proofs.Ytnhbeddmphlieaa
open Go.RowKit
set_option linter.unusedVariables false
set_option linter.unusedSimpArgs false
theorem bitD_get (l : List Bool) (m : Nat) (h : m < l.length) : l[m]? = some (decide (bitD l m = 1)) := by
  unfold bitD
  rw [List.getD_eq_getElem?_getD, List.getElem?_eq_getElem h]
  cases l[m] <;> simp
theorem byteN_bit (l : List Bool) (j r : Nat) (hr : r < 8) : byteN l j / 2 ^ (7 - r) % 2 = bitD l (8 * j + r) := by
  unfold byteN
  have := bitD_le l (8 * j); have := bitD_le l (8 * j + 1); have := bitD_le l (8 * j + 2); have := bitD_le l (8 * j + 3)
  have := bitD_le l (8 * j + 4); have := bitD_le l (8 * j + 5); have := bitD_le l (8 * j + 6); have := bitD_le l (8 * j + 7)
  rcases (show r = 0 ∨ r = 1 ∨ r = 2 ∨ r = 3 ∨ r = 4 ∨ r = 5 ∨ r = 6 ∨ r = 7 by omega) with rfl | rfl | rfl | rfl | rfl | rfl | rfl | rfl
  all_goals simp only [Nat.add_zero, Nat.reducePow, Nat.reduceSub]; omega
theorem allB_pack (l : List Bool) : allB (textB (packB l)) = l ++ List.replicate (8 * ((l.length + 7) / 8) - l.length) false := by
  have hsz : (textB (packB l)).size = (l.length + 7) / 8 := by rw [textB_size, packB_length]
  apply List.ext_getElem?
  intro p
  by_cases hp : p / 8 < (l.length + 7) / 8
  · rw [allB_get _ p (by rw [hsz]; exact hp)]
    have hb : ((textB (packB l))[p / 8]'(by rw [hsz]; exact hp)).toNat = byteN l (p / 8) := by
      have h1 := byte_of (textB (packB l)) (p / 8) (by rw [hsz]; exact hp)
      have h2 := packB_get l (p / 8) hp
      have h3 : (textB (packB l)).data.toList = packB l := by simp [textB]
      rw [h3, h2] at h1
      injection h1 with h1
      rw [← h1, byte_val]
    rw [hb, byteN_bit l (p / 8) (p % 8) (by omega), show 8 * (p / 8) + p % 8 = p by omega]
    rcases Nat.lt_or_ge p l.length with h | h
    · rw [List.getElem?_append_left h, bitD_get l p h]
    · rw [List.getElem?_append_right h, bitD_out l p h, List.getElem?_replicate, if_pos (by omega)]
      rfl
  · rw [List.getElem?_eq_none (by rw [allB_length, hsz]; omega), List.getElem?_eq_none (by rw [List.length_append, List.length_replicate]; omega)]
theorem numB_zeros (n : Nat) : numB (List.replicate n false) = 0 := by
  induction n with
  | zero => rfl
  | succ n ih => rw [List.replicate_succ, numB_cons, ih]; simp
theorem done_pack (l : List Bool) : doneE (textB (packB l)) l.length = 0 := by
  have hsz : (textB (packB l)).size = (l.length + 7) / 8 := by rw [textB_size, packB_length]
  unfold doneE doneB
  rw [cutB_rest, allB_pack, List.drop_left' rfl, numB_zeros, hsz, decide_eq_true ⟨by omega, rfl⟩, if_pos rfl]
theorem cut_pack {ps : List (Nat × Int)} {k n c : Nat} (h : ps[k]? = some (n, (c : Int))) (hc : countsB (c : Int) = true) :
    cutB (textB (packB (putBits ps))) (putBits (ps.take k)).length c = bitsN n c ∧ (putBits (ps.take k)).length + c = (putBits (ps.take (k + 1))).length ∧ (putBits (ps.take k)).length + c ≤ (putBits ps).length := by
  have hn := putBits_next h
  simp only [hc, if_true, Int.toNat_natCast] at hn
  have hsplit : putBits ps = putBits (ps.take k) ++ bitsN n c ++ putBits (ps.drop (k + 1)) := by
    rw [← hn]
    conv => lhs; rw [← List.take_append_drop (k + 1) ps]
    simp only [putBits, List.flatMap_append]
  refine ⟨?_, by rw [hn, List.length_append, bitsN_length], by rw [hsplit]; simp only [List.length_append, bitsN_length]; omega⟩
  unfold cutB
  rw [allB_pack]
  conv => lhs; rw [hsplit]
  rw [List.append_assoc, List.append_assoc, List.drop_left' rfl, List.append_assoc]
  conv => lhs; rw [List.take_append_of_le_length (by rw [bitsN_length]; omega)]
  rw [List.take_of_length_le (by rw [bitsN_length]; omega)]
end Go.Proofs.Ytnhbeddmphlieaa
