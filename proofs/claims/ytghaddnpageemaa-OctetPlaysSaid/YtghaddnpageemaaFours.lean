import Derived.Test.YtghaddnpageemaaAwake
import Derived.LoopN
namespace Go.Proofs.Ytghaddnpageemaa
open Go.RowKit
set_option linter.unusedVariables false
set_option maxHeartbeats 1000000 in
theorem refFour (s : ByteArray) (w : World) (hs : s.size = 4) : Calls Try.prog 21 #[.string s] w fun e w' => e = .returned (.int .u32 (fourNum s 0)) ∧ w = w' := by
  have g0 : 0 < s.size := by omega
  have g1 : 1 < s.size := by omega
  have g2 : 2 < s.size := by omega
  have g3 : 3 < s.size := by omega
  have hb : ∀ j (hj : j < s.size), (s[j]'hj).toNat = (s.data.toList.getD (0 + j) 0).toNat := by
    intro j hj
    rw [List.getD_eq_getElem?_getD, byte_at s (0 + j) (by omega)]
    simp
  have HB := Lib.hid hb
  clear hb hs
  have k0 : (0 : Int) < (s.size : Int) := by omega
  have k1 : (1 : Int) < (s.size : Int) := by omega
  have k2 : (2 : Int) < (s.size : Int) := by omega
  have k3 : (3 : Int) < (s.size : Int) := by omega
  have u0 := (s[0]'g0).toNat_lt
  have u1 := (s[1]'g1).toNat_lt
  have u2 := (s[2]'g2).toNat_lt
  have u3 := (s[3]'g3).toNat_lt
  go_enter Try.func21, Try.ntmps21
  go_wp2
  refine wp_loop_rounds 5 ?_
  rw [rounds_succ]
  go_wp2
  rw [rounds_succ]
  go_wp2
  rw [rounds_succ]
  go_wp2
  rw [rounds_succ]
  go_wp2
  rw [rounds_succ]
  go_wp2
  go_ret
  refine ⟨ret_int ?_, rfl⟩
  rw [fourNum, ← HB.out 0 g0, ← HB.out 1 g1, ← HB.out 2 g2, ← HB.out 3 g3]
  omega

theorem four_again (s : ByteArray) (h : 4 ≤ s.size) : fourBytes (fourNum s 0) = s.extract 0 4 := by
  apply ByteArray.ext_getElem
  · rw [ByteArray.size_extract]; simp only [fourBytes]; show 4 = _; omega
  · intro i hi hj
    have hi4 : i < 4 := hi
    have b : ∀ j (hj : j < s.size), (s[j]'hj).toNat = (s.data.toList.getD (0 + j) 0).toNat := by
      intro j hj
      rw [List.getD_eq_getElem?_getD, byte_at s (0 + j) (by omega)]
      simp
    have b0 := b 0 (by omega)
    have b1 := b 1 (by omega)
    have b2 := b 2 (by omega)
    have b3 := b 3 (by omega)
    have hf : fourNum s 0 = (s[0]'(by omega)).toNat + (s[1]'(by omega)).toNat * 256 + (s[2]'(by omega)).toNat * 65536 + (s[3]'(by omega)).toNat * 16777216 := by
      unfold fourNum; rw [b0, b1, b2, b3]
    have u0 := (s[0]'(by omega)).toNat_lt
    have u1 := (s[1]'(by omega)).toNat_lt
    have u2 := (s[2]'(by omega)).toNat_lt
    have u3 := (s[3]'(by omega)).toNat_lt
    rw [ByteArray.getElem_extract]
    apply UInt8.toNat_inj.1
    have h4 : i = 0 ∨ i = 1 ∨ i = 2 ∨ i = 3 := by omega
    rcases h4 with rfl | rfl | rfl | rfl
    · show (UInt8.ofNat (fourNum s 0)).toNat = _; rw [UInt8.toNat_ofNat']; simp only [Nat.zero_add]; omega
    · show (UInt8.ofNat (fourNum s 0 / 256)).toNat = _; rw [UInt8.toNat_ofNat']; simp only [Nat.zero_add]; omega
    · show (UInt8.ofNat (fourNum s 0 / 65536)).toNat = _; rw [UInt8.toNat_ofNat']; simp only [Nat.zero_add]; omega
    · show (UInt8.ofNat (fourNum s 0 / 16777216)).toNat = _; rw [UInt8.toNat_ofNat']; simp only [Nat.zero_add]; omega
theorem fourBytes_size (n : Nat) : (fourBytes n).size = 4 := rfl
set_option maxHeartbeats 1000000 in
theorem fours_walk (n : Int) (s : ByteArray) (w : World) (w0 : (Lit.int .u32 n).wf = true) (w1 : s.size ≤ maxLen) :
    Calls Try.prog 6 #[.int .u32 n, .string s] w fun e w' => e = .returned (.bool true) ∧ Below w.heap.size w w' := by
  obtain ⟨n0, n1⟩ := Go.bounds_u32 w0
  obtain ⟨N, rfl⟩ := Int.eq_ofNat_of_zero_le n0
  have hN : N < 4294967296 := by omega
  clear w0 n0
  go_enter Try.func6, Try.ntmps6
  go_wp2_with fail
  have ha := WrAt.fresh w w.heap.size (Nat.le_refl _)
  have k1 := (Below.refl w.heap.size w).alloc (Nat.le_refl _) (.cells #[.slice none 0 0] 48)
  generalize hu : w.alloc (.cells #[.slice none 0 0] 48) = u at *
  have hus : u.heap.size = w.heap.size + 1 := by rw [← hu]; simp
  have HU := Lib.hid hus
  clear hu hus
  have hx := Lies.made u 48 #[.slice none 0 0]
  have hb := ha.kept (Kept.alloc noRow u (.cells #[.slice none 0 0] 48)) (fun h => h) (fun _ _ _ h => h)
  have k2 := k1.alloc k1.size (.cells #[.slice none 0 0] 48)
  generalize u.alloc (.cells #[.slice none 0 0] 48) = u2 at *
  clear ha
  rw [← HU.out]
  refine (octetPutFour _ _ _ N u2 hb hN (by decide)).mono ?_
  rintro e u3 ⟨rfl, h3, k3⟩
  rw [show ByteArray.empty ++ fourBytes N = fourBytes N by simp] at h3
  have hx3 := hx.kept k3 (by
    rintro ⟨_, h | ⟨cur, h⟩⟩
    · have := HU.out; omega
    · exact absurd (hx.same h).1 (by decide))
  have k3 := onto_wr k2 k3 (Nat.le_refl _)
  clear hx hb k1 k2
  go_wp2_with fail
  refine (octetString _ _ _ u3 h3 (by rw [fourBytes_size]; decide)).mono ?_
  rintro e w' ⟨rfl, rfl⟩
  go_wp2_with fail
  refine (octetNew _ u3 (by rw [fourBytes_size]; decide)).mono ?_
  rintro e u4 ⟨rfl, r4, k4⟩
  have h4 := h3.kept k4 (fun h => h) (fun _ _ _ h => h)
  have hx4 := hx3.kept k4 (fun h => h)
  have k4 := onto_none k3 k4
  have hg4 : w.heap.size ≤ u3.heap.size := k3.size
  clear h3 k3 hx3
  generalize u3.heap.size = g4 at *
  go_wp2_with fail
  refine (octetFourOk _ _ 0 u4 r4 (by rw [fourBytes_size]; omega)).mono ?_
  rintro e u5 ⟨rfl, r5, k5⟩
  rw [four_back N hN]
  have h5 := h4.one k5 r4
  have hx5 := hx4.kept k5 (by rintro (h : _ = _); rw [h] at hx4; exact absurd (hx4.same r4.1).1 (by decide))
  have k5 := onto_one k4 k5 hg4
  clear h4 r4 k4 hx4 r5
  go_wp2_with fail
  refine (awake_any u5).mono ?_
  rintro e u6 ⟨rfl, k6⟩
  have h6 := h5.kept (Kept.of_below k6) (fun h => h) (fun _ _ _ h => h)
  have hx6 := hx5.kept (Kept.of_below k6) (fun h => h)
  have k6 := then_ k5 k6
  clear h5 k5 hx5
  have HF := Lib.hid (four_back N hN)
  go_wp2_with (first
    | (go_at_call 20; refine (octetString _ _ _ u6 h6 (by rw [fourBytes_size]; decide)).mono ?_; rintro e w' ⟨rfl, rfl⟩)
    | (go_at_call 21; refine (refFour _ _ rfl).mono ?_; rintro e w' ⟨rfl, rfl⟩; rw [HF.out])
    | fail)
  refine (octetNew s u6 w1).mono ?_
  rintro e u7 ⟨rfl, r7, k7⟩
  have hx7 := hx6.kept k7 (fun h => h)
  have k7 := onto_none k6 k7
  have hg7 : w.heap.size ≤ u6.heap.size := k6.size
  have hug : w.heap.size < u.heap.size := by have := HU.out; omega
  clear h6 hx6 k6
  generalize u6.heap.size = g7 at *
  go_wp2_with fail
  by_cases hs : s.size < 4
  · refine (octetFourEnd g7 s 0 u7 r7 (by omega)).mono ?_
    rintro e u8 ⟨rfl, n8, rfl⟩
    have hlt : decide ((s.size : Int) < 4) = true := by simp; omega
    go_wp2
    go_ret
    exact ⟨rfl, onto_none k7 (Kept.drewN _ _ _)⟩
  · refine (octetFourOk g7 s 0 u7 r7 (by omega)).mono ?_
    rintro e u8 ⟨rfl, r8, k8⟩
    have hx8 := hx7.kept k8 (by rintro (h : _ = _); rw [h] at hx7; exact absurd (hx7.same r7.1).1 (by decide))
    have k8 := onto_one k7 k8 hg7
    have hlt : decide ((s.size : Int) < 4) = false := by simp; omega
    have hw8 : WrAt u8 w.heap.size u.heap.size ByteArray.empty := ⟨by omega, _, hx8, World.ownsRow_nil _ _ _ _⟩
    clear hx7 r7 r8 hx8 k7
    go_wp2_with fail
    refine (octetPutFour _ _ _ (fourNum s 0) u8 hw8 (fourNum_lt _ _) (by decide)).mono ?_
    rintro e u9 ⟨rfl, h9, k9⟩
    have k9 := onto_wr k8 k9 (Nat.le_refl _)
    rw [show ByteArray.empty ++ fourBytes (fourNum s 0) = fourBytes (fourNum s 0) by simp, four_again s (by omega)] at h9
    have hsl : (4 : Int) ≤ (s.size : Int) := by omega
    go_wp2_with fail
    go_quiet ((go_at_call 20; exact Calls.quiet_of_same ((octetString w.heap.size u.heap.size (s.extract 0 4) _ (by exact h9) (by rw [ByteArray.size_extract]; unfold maxLen; omega)).mono (fun _ _ h => ⟨h.1, h.2.symm⟩))))
    go_wp2
    go_ret
    exact ⟨rfl, onto_none k9 (Kept.drewN _ _ _)⟩
end Go.Proofs.Ytghaddnpageemaa
