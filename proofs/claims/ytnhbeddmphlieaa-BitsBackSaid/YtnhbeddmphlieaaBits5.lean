import Derived.Test.YtnhbeddmphlieaaBits4
namespace Go.Proofs.Ytnhbeddmphlieaa
open Go.RowKit
set_option linter.unusedVariables false
set_option linter.unusedSimpArgs false
theorem Try.infoBool : (Try.prog.info? 4).map (fun i => (i.zero, i.size, i.bytes)) = some (some (.bool false), 1, 1) := by kernel_rfl
theorem back_next (m : Nat) (b : Bool) (d : List Bool) : (List.replicate (m + 1) (Value.bool false) ++ cellsL d).set m (.bool b) = List.replicate m (Value.bool false) ++ cellsL (b :: d) := by
  rw [List.set_append_left _ _ (by simp), List.replicate_succ', List.set_append_right _ _ (by simp)]
  simp [cellsL]
set_option maxHeartbeats 1000000 in
set_option maxRecDepth 100000 in
theorem refBits (n c : Nat) (w : World) (hn : n < 18446744073709551616) (hc : c ≤ 64) :
    Calls Try.prog 10 #[.int .u64 n, .int .i64 c] w fun e w' => ∃ v, e = .returned v ∧ w'.ownsRow w.heap.size 4 1 v c (cellsL (bitsN n c)) ∧ Below w.heap.size w w' := by
  have hmk := fun w => run_make_row' (P := Try.prog) 27 4 (.bool false) 1 Try.underlying27 Try.infoBool rfl .i64 .i64 c (by omega) (by omega) w
  have ho0 := owns_made w 4 (.bool false) rfl c (by unfold maxLen; omega)
  have hb0 : Below w.heap.size w (w.alloc (.cells (madeCells #[Value.bool false] c) 4)) := (Below.refl _ _).alloc (Nat.le_refl _) _
  have hmk := hmk w
  have HO := Lib.hid ho0
  have hn2 : n ≤ 18446744073709551615 := by omega
  clear ho0 hn
  go_enter Try.func10, Try.ntmps10
  go_wp2
  clear hmk
  generalize w.alloc (.cells (madeCells #[Value.bool false] c) 4) = w0 at *
  obtain ⟨g, hg⟩ : ∃ g, g = w.heap.size := ⟨_, rfl⟩
  have hgl : w.heap.size ≤ g := by omega
  rw [← hg] at HO ⊢
  rw [← hg] at hb0
  clear hg
  go_loopw [0, 6] (fun x t wr => ∃ j k : Nat, j + k = c ∧ t = .int .i64 ((j : Int) - 1) ∧ x = .int .u64 (n / 2 ^ k : Nat) ∧ wr.ownsRow g 4 1 (.slice (some ⟨g, 0, none⟩) c c) c (List.replicate j (Value.bool false) ++ cellsL (bitsN n k)) ∧ Below g w wr)
    (fun _ t _ => (intOf t + 1).toNat)
  case atStart => exact ⟨c, 0, by omega, rfl, by rw [Nat.pow_zero, Nat.div_one], by simpa [bitsN, cellsL] using HO.out, hb0⟩
  case round =>
    clear HO hb0
    obtain ⟨j, k, hjk, rfl, rfl, ho, hb⟩ := hrel
    have hNl : n / 2 ^ k ≤ n := Nat.div_le_self _ _
    rcases Nat.eq_zero_or_pos j with h0 | h0
    · subst h0
      obtain rfl : k = c := by omega
      have ho2 : World.ownsRow _ _ _ _ _ _ _ := ho
      rw [List.replicate_zero, List.nil_append] at ho2
      have HO := Lib.hid ho2
      clear ho ho2
      generalize n / 2 ^ k = N at *
      go_wp2
      go_ret
      exact ⟨_, rfl, owns_mono HO.out hgl, hb.mono hgl⟩
    · obtain ⟨m, rfl⟩ : ∃ m, j = m + 1 := ⟨j - 1, by omega⟩
      have hj1 : ((m + 1 : Nat) : Int) - 1 = (m : Int) := by omega
      have hmc : m < c := by omega
      have hmi : (m : Int) < (c : Int) := by omega
      have hcl := owns_cell ho (k := m) (u := .bool false) (by rw [List.getElem?_append_left (by simp)]; simp)
      have hfr := owns_free ho hmc
      have hset := owns_set (u := .bool (decide (n / 2 ^ k % 2 = 1))) ho hmc
      rw [back_next] at hset
      have hnx : decide (n / 2 ^ k % 2 = 1) :: bitsN n k = bitsN n (k + 1) := rfl
      rw [hnx] at hset
      have hdv : n / 2 ^ (k + 1) = n / 2 ^ k / 2 := by rw [Nat.pow_succ, Nat.div_div_eq_div_mul]
      have hbn := hb.setCell (p := ⟨g, m, none⟩) (Nat.le_refl _) (.bool (decide (n / 2 ^ k % 2 = 1)))
      have HSET := Lib.hid hset
      have HBN := Lib.hid hbn
      have HDV := Lib.hid hdv
      have hm0 : (0 : Int) ≤ (m : Int) := by omega
      rw [hj1]
      clear ho hset hbn hdv hnx hb hj1
      generalize n / 2 ^ k = N at *
      by_cases hN : N % 2 = 1
      · have e1 : ((N : Int) % 2 == 1) = true := by rw [beq_iff_eq]; omega
        rw [decide_eq_true hN] at HSET HBN
        clear hN
        go_wp2
        go_roundw
        case rel => exact ⟨m, k + 1, by omega, by go_num, by rw [HDV.out]; go_num, HSET.out, HBN.out⟩
        case measure => simp [intOf]
      · have e1 : ((N : Int) % 2 == 1) = false := by rw [beq_eq_false_iff_ne]; omega
        rw [decide_eq_false hN] at HSET HBN
        clear hN
        go_wp2
        go_roundw
        case rel => exact ⟨m, k + 1, by omega, by go_num, by rw [HDV.out]; go_num, HSET.out, HBN.out⟩
        case measure => simp [intOf]
theorem cellsL_take_bytes (s : ByteArray) {k : Nat} {b : UInt8} (h : s.data.toList[k]? = some b) : (s.data.toList.take (k + 1)).flatMap (fun b => bitsN b.toNat 8) = (s.data.toList.take k).flatMap (fun b => bitsN b.toNat 8) ++ bitsN b.toNat 8 := by
  rw [List.take_add_one, h]; simp
set_option maxHeartbeats 1000000 in
set_option maxRecDepth 100000 in
theorem refAll (s : ByteArray) (w : World) (hs : s.size ≤ 1099511627776) :
    Calls Try.prog 15 #[.string s] w fun e w' => ∃ v, e = .returned v ∧ w'.ownsRow w.heap.size 4 1 v (allB s).length (cellsL (allB s)) ∧ Below w.heap.size w w' := by
  go_enter Try.func15, Try.ntmps15
  go_wp2
  go_loopw [3, 4] (fun t u wr => ∃ k : Nat, k ≤ s.size ∧ u = .int .i64 k ∧ wr.ownsRow w.heap.size 4 1 t (8 * k) (cellsL ((s.data.toList.take k).flatMap (fun b => bitsN b.toNat 8))) ∧ Below w.heap.size w wr)
    (fun _ u _ => s.size - (intOf u).toNat)
  case atStart => exact ⟨0, by omega, rfl, World.ownsRow_nil _ _ _ _, Below.refl _ _⟩
  case round =>
    obtain ⟨k, hk, rfl, ho, hb⟩ := hrel
    by_cases hlt : k < s.size
    · have hki : (k : Int) < (s.size : Int) := by omega
      have hnx := cellsL_take_bytes s (byte_of s k hlt)
      have hbl := (s[k]'hlt).toNat_lt
      have hB := fun w => refBits (s[k]'hlt).toNat 8 w (by omega) (by omega)
      have HB := Lib.hid hB
      have HNX := Lib.hid hnx
      have HO := Lib.hid ho
      have hbs := hb.size
      obtain ⟨A2, cp2, hv2, _⟩ := (SeqS.of_owns ho).form
      rw [hv2] at HO
      rw [hv2]
      clear hnx hB ho hv2
      go_wp2_with fail
      refine (HB.out _).mono ?_
      rintro e w2 ⟨vb, rfl, hob, hb2⟩
      have ho2 := owns_below HO.out hb2
      have hbw := hb.trans (hb2.mono hbs)
      have hbws := hbw.size
      obtain ⟨A3, cp3, hv3, h31, h32, h30⟩ := (SeqS.of_owns hob).form
      rw [hv3] at hob
      rw [hv3]
      have hsrc := SeqS.of_owns hob
      have HO2 := Lib.hid ho2
      have HSRC := Lib.hid hsrc
      clear hob hsrc ho2 HO hb2 hv3 hb
      go_wp2_with (at_builtin; refine append_argS _ 1 rfl (.tmp 11) (.tmp 16) 27 rfl w.heap.size 4 _ 1 Try.underlying27 Try.infoBool rfl (by omega) _ _ _ rfl HO2.out _ 8 cp3 rfl (cellsL (bitsN (s[k]'hlt).toNat 8)) HSRC.out (cellsL_one _) (by unfold maxLen; omega) (by omega) hbws ?_)
      intro v' w3 ho3 hb3 _
      have ho3' : w3.ownsRow w.heap.size 4 1 v' (8 * (k + 1)) (cellsL ((s.data.toList.take (k + 1)).flatMap (fun b => bitsN b.toNat 8))) := by
        rw [HNX.out, cellsL_append, show 8 * (k + 1) = 8 * k + 8 by omega]; exact ho3
      have HO3 := Lib.hid ho3'
      have HB3 := Lib.hid (hbw.trans hb3)
      clear ho3 ho3' hb3 HSRC HO2 hbw
      go_wp2
      go_roundw
      case rel => exact ⟨k + 1, by omega, by go_num, HO3.out, HB3.out⟩
      case measure => simp [intOf]; omega
    · obtain rfl : k = s.size := by omega
      have hfull : s.data.toList.take s.size = s.data.toList := List.take_of_length_le (by simp)
      rw [hfull] at ho
      have HO := Lib.hid ho
      clear hfull ho
      go_wp2
      go_ret
      exact ⟨_, rfl, by rw [allB_length]; exact HO.out, hb⟩
end Go.Proofs.Ytnhbeddmphlieaa
