import Derived.Test.YtghaddnpageemaaAwake
import Derived.Test.YtghaddnpageemaaRefBytes
namespace Go.Proofs.Ytghaddnpageemaa
open Go.RowKit
set_option linter.unusedVariables false
/-- What is written by the first k rounds. -/
def writ (ss : List ByteArray) (zs : List Int) : Nat → ByteArray
  | 0 => ByteArray.empty
  | k + 1 => writ ss zs k ++ ss.getD k ByteArray.empty ++ (if k < zs.length then fourBytes (zs.getD k 0).toNat else ByteArray.empty)
theorem writ_yes {ss : List ByteArray} {zs : List Int} {k : Nat} {s : ByteArray} {n : Int} (h : ss[k]? = some s) (hz : zs[k]? = some n) : writ ss zs (k + 1) = writ ss zs k ++ s ++ fourBytes n.toNat := by
  have : k < zs.length := (List.getElem?_eq_some_iff.1 hz).1
  rw [writ, if_pos this, List.getD_eq_getElem?_getD, List.getD_eq_getElem?_getD, h, hz]; rfl
theorem writ_no {ss : List ByteArray} {zs : List Int} {k : Nat} {s : ByteArray} (h : ss[k]? = some s) (hz : zs.length ≤ k) : writ ss zs (k + 1) = writ ss zs k ++ s := by
  have : ¬ k < zs.length := by omega
  simp [writ, List.getD_eq_getElem?_getD, h, this]

theorem fourBytes_sz (n : Nat) : (fourBytes n).size = 4 := rfl
set_option maxHeartbeats 2000000 in
theorem writes_walk (a0 : Option Addr) (len0 cap0 : Nat) (ss : List ByteArray) (a1 : Option Addr) (len1 cap1 : Nat) (zs : List Int) (w : World) (w0 : ArgStrs w a0 len0 cap0 ss) (w1 : ArgInts .u32 w a1 len1 cap1 zs) :
    Calls Try.prog 4 #[.slice a0 len0 cap0, .slice a1 len1 cap1] w fun e w' => e = .returned (.bool true) ∧ Below w.heap.size w w' := by
  obtain ⟨_, _, hl0, hr0, hm0⟩ := w0
  obtain ⟨_, _, hl1, hr1, hm1⟩ := w1
  have hc1 : cap1 ≤ 9223372036854775807 := by rename_i h; unfold maxLen at h; omega
  have hc0 : cap0 ≤ 9223372036854775807 := by rename_i h _ _; unfold maxLen at h; omega
  by_cases hb : len0 > 100 ∨ len1 > 200
  · have hbel := Below.refl w.heap.size w
    by_cases hb0 : len0 > 100
    · have e0 : decide ((100 : Int) < (len0 : Int)) = true := by simp; omega
      go_enter Try.func4, Try.ntmps4
      go_wp2_with (go_at_call 8; refine (awake_any _).mono ?_; rintro e w1 ⟨rfl, hb⟩; have hbel := then_ hbel hb; clear hb)
      go_ret
      exact ⟨rfl, hbel⟩
    · have e0 : decide ((100 : Int) < (len0 : Int)) = false := by simp; omega
      have e1 : decide ((200 : Int) < (len1 : Int)) = true := by simp; omega
      go_enter Try.func4, Try.ntmps4
      go_wp2_with (go_at_call 8; refine (awake_any _).mono ?_; rintro e w1 ⟨rfl, hb⟩; have hbel := then_ hbel hb; clear hb)
      go_ret
      exact ⟨rfl, hbel⟩
  have e0 : decide ((100 : Int) < (len0 : Int)) = false := by simp; omega
  have e1 : decide ((200 : Int) < (len1 : Int)) = false := by simp; omega
  have hb0 : len0 ≤ 100 := by omega
  have hb1 : len1 ≤ 200 := by omega
  have HR0 := Lib.hid hr0
  have HR1 := Lib.hid hr1
  have HL0 := Lib.hid hl0
  have HL1 := Lib.hid hl1
  clear hl0 hl1 hr0 hr1
  go_enter Try.func4, Try.ntmps4
  go_wp2_with fail
  refine (awake_any w).mono ?_
  rintro e w2 ⟨rfl, k2⟩
  go_wp2_with fail
  have ha := WrAt.fresh w2 w2.heap.size (Nat.le_refl _)
  have k3 := k2.alloc k2.size (.cells #[.slice none 0 0] 48)
  have hw2 : w.heap.size ≤ w2.heap.size := k2.size
  generalize w2.alloc (.cells #[.slice none 0 0] 48) = w3 at *
  generalize w2.heap.size = g at *
  clear k2
  go_loopw [6, 24] (fun t i wr => ∃ k : Nat, k ≤ len0 ∧ i = .int .i64 k ∧ t = .string (writ ss zs k) ∧ (writ ss zs k).size ≤ k * 204 ∧ WrAt wr g g (writ ss zs k) ∧ Below w.heap.size w wr)
    (fun _ i _ => len0 - (intOf i).toNat)
  case atStart => exact ⟨0, by omega, rfl, rfl, Nat.le_refl _, ha, k3⟩
  case round =>
    obtain ⟨k, hk, rfl, rfl, hsz, hw, kb⟩ := hrel
    clear ha k3
    by_cases hlt : k < len0
    · have hki : (k : Int) < (len0 : Int) := by omega
      have hkl : k < ss.length := by rw [HL0.out]; exact hlt
      obtain ⟨s, hs⟩ : ∃ s, ss[k]? = some s := ⟨ss[k], List.getElem?_eq_getElem hkl⟩
      obtain ⟨b, off, rfl, hc⟩ := HR0.out.get kb (k := k) (v := .string s) (by rw [List.getElem?_map, hs]; rfl)
      have HS := Lib.hid hs
      clear hs hkl
      by_cases hbig : 200 < s.size
      · have e2 : decide ((200 : Int) < (s.size : Int)) = true := by simp; omega
        go_wp2
        go_ret
        exact ⟨rfl, kb⟩
      · have e2 : decide ((200 : Int) < (s.size : Int)) = false := by simp; omega
        -- the text goes in, by Text or by Put
        have hgw : w.heap.size ≤ g := hw2
        have hwf : Calls Try.prog 17 #[.pointer (some ⟨g, 0, none⟩), .string s] wr fun e w' => e = .returned (.tuple #[]) ∧ WrAt w' g g (writ ss zs k ++ s) ∧ Below w.heap.size w w' :=
          (octetText g g _ s wr hw (by omega)).mono fun e w' ⟨h1, h2, h3⟩ => ⟨h1, h2, onto_wr kb h3 hw2⟩
        obtain ⟨T, hT⟩ : ∃ T, T = writ ss zs k ++ s := ⟨_, rfl⟩
        have hTs : T.size ≤ k * 204 + 200 := by rw [hT, ByteArray.size_append]; omega
        have hadd : ∀ W : World, (Op.stringOp .add (writ ss zs k) s).run Try.prog W = .ok (.string T) W := fun W => by rw [hT]; exact run_string_add_sum W _ _ (by omega)
        rw [← hT] at hwf
        have HT := Lib.hid hT
        have HW := Lib.hid hwf
        clear hT hwf
        by_cases hpar : k % 2 = 0
        · have e3 : ((k : Int) % 2 == 0) = true := by simp; omega
          clear hpar
          go_wp2_with fail
          refine HW.out.mono ?_
          rintro e w5 ⟨rfl, h5, k5⟩
          clear kb hw
          by_cases hz : k < len1
          · have e4 : decide (k < len1) = true := by simp; omega
            have hz2 : (k : Int) < (len1 : Int) := by omega
            have hkl : k < zs.length := by rw [HL1.out]; exact hz
            obtain ⟨n, hn⟩ : ∃ n, zs[k]? = some n := ⟨zs[k], List.getElem?_eq_getElem hkl⟩
            obtain ⟨n0, n1⟩ := Go.bounds_u32 (hm1 n (List.mem_of_getElem? hn))
            obtain ⟨N, rfl⟩ := Int.eq_ofNat_of_zero_le n0
            have hN : N < 4294967296 := by omega
            have HN := Lib.hid (writ_yes HS.out hn)
            obtain ⟨b1, off1, rfl, hc1⟩ := HR1.out.get k5 (k := k) (v := .int .u32 N) (by rw [List.getElem?_map, hn]; rfl)
            have hadd2 : ∀ W : World, (Op.stringOp .add T (fourBytes N)).run Try.prog W = .ok (.string (T ++ fourBytes N)) W := fun W => run_string_add_sum W _ _ (by rw [fourBytes_sz]; omega)
            have HZ := Lib.hid hn
            clear hn hkl
            go_wp2_with fail
            refine (octetPutFour g g T N w5 h5 hN (by omega)).mono ?_
            rintro e w6 ⟨rfl, h6, k6⟩
            have k6 := onto_wr k5 k6 hw2
            have hc2 : w6.cell? ⟨b1, off1 + k, none⟩ = some (.int .u32 N) := by
              obtain ⟨b2, off2, he2, hc2⟩ := HR1.out.get k6 (k := k) (v := .int .u32 N) (by rw [List.getElem?_map, HZ.out]; rfl)
              injection he2 with he2
              injection he2 with q1 q2
              subst q1 q2
              exact hc2
            clear h5 k5
            go_wp2_with fail
            refine (refBytes N w6 hN).mono ?_
            rintro e w7 ⟨rfl, k7⟩
            have h7 := h6.kept k7 (fun h => h) (fun _ _ _ h => h)
            have k7 := onto_none k6 k7
            clear h6 k6
            go_wp2
            go_roundw
            case rel => exact ⟨k + 1, by omega, by go_num, v_text (by rw [HN.out, HT.out]; rfl), by rw [HN.out, ← HT.out, ByteArray.size_append]; rw [fourBytes_sz]; omega, by rw [HN.out, ← HT.out]; exact h7, k7⟩
            case measure => simp [intOf]; omega
          · have e4 : decide (k < len1) = false := by simp; omega
            have HN := Lib.hid (writ_no HS.out (by rw [HL1.out]; omega))
            go_wp2
            go_roundw
            case rel => exact ⟨k + 1, by omega, by go_num, v_text (by rw [HN.out, HT.out]), by rw [HN.out, ← HT.out]; omega, by rw [HN.out, ← HT.out]; exact h5, k5⟩
            case measure => simp [intOf]; omega
        · have e3 : ((k : Int) % 2 == 0) = false := by simp; omega
          clear hpar
          have hcv := run_bytes_of_string (P := Try.prog) wr 9 36 5 s Try.underlying9 Try.underlying36 Try.underlying5
          obtain ⟨m1, m2⟩ := bytes_made wr 5 s (grownCap wr s.size 0 5) ((bytesRow s (grownCap wr s.size 0 5)).size, (bytesRow s (grownCap wr s.size 0 5)).size + 1)
          have M1 := Lib.hid m1
          have M2 := Lib.hid m2
          clear m1 m2
          go_wp2_with fail
          refine (octetPutSome g g _ s ⟨wr.heap.size, 0, none⟩ s.size _ _ rfl (hw.kept M1.out (fun h => h) (fun _ _ _ h => h)) M2.out (by omega)).mono ?_
          rintro e w5 ⟨rfl, h5, k5⟩
          have k5 := onto_wr (onto_none kb M1.out) k5 hw2
          rw [← HT.out] at h5
          clear kb hw hcv M1 M2
          by_cases hz : k < len1
          · have e4 : decide (k < len1) = true := by simp; omega
            have hz2 : (k : Int) < (len1 : Int) := by omega
            have hkl : k < zs.length := by rw [HL1.out]; exact hz
            obtain ⟨n, hn⟩ : ∃ n, zs[k]? = some n := ⟨zs[k], List.getElem?_eq_getElem hkl⟩
            obtain ⟨n0, n1⟩ := Go.bounds_u32 (hm1 n (List.mem_of_getElem? hn))
            obtain ⟨N, rfl⟩ := Int.eq_ofNat_of_zero_le n0
            have hN : N < 4294967296 := by omega
            have HN := Lib.hid (writ_yes HS.out hn)
            obtain ⟨b1, off1, rfl, hc1⟩ := HR1.out.get k5 (k := k) (v := .int .u32 N) (by rw [List.getElem?_map, hn]; rfl)
            have hadd2 : ∀ W : World, (Op.stringOp .add T (fourBytes N)).run Try.prog W = .ok (.string (T ++ fourBytes N)) W := fun W => run_string_add_sum W _ _ (by rw [fourBytes_sz]; omega)
            have HZ := Lib.hid hn
            clear hn hkl
            go_wp2_with fail
            refine (octetPutFour g g T N w5 h5 hN (by omega)).mono ?_
            rintro e w6 ⟨rfl, h6, k6⟩
            have k6 := onto_wr k5 k6 hw2
            have hc2 : w6.cell? ⟨b1, off1 + k, none⟩ = some (.int .u32 N) := by
              obtain ⟨b2, off2, he2, hc2⟩ := HR1.out.get k6 (k := k) (v := .int .u32 N) (by rw [List.getElem?_map, HZ.out]; rfl)
              injection he2 with he2
              injection he2 with q1 q2
              subst q1 q2
              exact hc2
            clear h5 k5
            go_wp2_with fail
            refine (refBytes N w6 hN).mono ?_
            rintro e w7 ⟨rfl, k7⟩
            have h7 := h6.kept k7 (fun h => h) (fun _ _ _ h => h)
            have k7 := onto_none k6 k7
            clear h6 k6
            go_wp2
            go_roundw
            case rel => exact ⟨k + 1, by omega, by go_num, v_text (by rw [HN.out, HT.out]; rfl), by rw [HN.out, ← HT.out, ByteArray.size_append]; rw [fourBytes_sz]; omega, by rw [HN.out, ← HT.out]; exact h7, k7⟩
            case measure => simp [intOf]; omega
          · have e4 : decide (k < len1) = false := by simp; omega
            have HN := Lib.hid (writ_no HS.out (by rw [HL1.out]; omega))
            go_wp2
            go_roundw
            case rel => exact ⟨k + 1, by omega, by go_num, v_text (by rw [HN.out, HT.out]), by rw [HN.out, ← HT.out]; omega, by rw [HN.out, ← HT.out]; exact h5, k5⟩
            case measure => simp [intOf]; omega
    · obtain rfl : k = len0 := by omega
      go_wp2_with fail
      refine (octetString g g _ wr hw (by unfold maxLen; omega)).mono ?_
      rintro e w' ⟨rfl, rfl⟩
      go_wp2
      go_ret
      exact ⟨rfl, kb⟩
end Go.Proofs.Ytghaddnpageemaa
