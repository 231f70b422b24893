import Derived.Test.YtghaddnpageemaaAwake
namespace Go.Proofs.Ytghaddnpageemaa
open Go.RowKit
set_option linter.unusedVariables false
/-! What was written, and where each piece lies in it: no Go in sight. -/
def cat : List ByteArray → ByteArray
  | [] => ByteArray.empty
  | x :: l => x ++ cat l
theorem cat_append (l m : List ByteArray) : cat (l ++ m) = cat l ++ cat m := by
  induction l with
  | nil => simp [cat]
  | cons x l ih => simp [cat, ih, ByteArray.append_assoc]
theorem cat_one (x : ByteArray) : cat [x] = x := by simp [cat]
/-- The first k pieces, the next one, and the rest. -/
theorem cat_split (l : List ByteArray) (k : Nat) (x : ByteArray) (h : l[k]? = some x) : cat l = cat (l.take k) ++ x ++ cat (l.drop (k + 1)) ∧ cat (l.take (k + 1)) = cat (l.take k) ++ x := by
  have hk := (List.getElem?_eq_some_iff.1 h).1
  have hx : l[k] = x := (List.getElem?_eq_some_iff.1 h).2
  have e1 : l.take (k + 1) = l.take k ++ [x] := by rw [List.take_succ_eq_append_getElem hk, hx]
  refine ⟨?_, by rw [e1, cat_append, cat_one]⟩
  conv => lhs; rw [← List.take_append_drop (k + 1) l]
  rw [cat_append, e1, cat_append, cat_one]
theorem part_of (a x c : ByteArray) : (a ++ x ++ c).extract a.size (a.size + x.size) = x := by
  apply eq_of_data
  simp
  rw [List.drop_of_length_le (by simp), List.take_of_length_le (l := x.data.toList) (by simp)]
  simp
theorem four_of (a c : ByteArray) (n : Nat) (hn : n < 4294967296) : fourNum (a ++ fourBytes n ++ c) a.size = n := by
  have h : ∀ j, j < 4 → (a ++ fourBytes n ++ c).data.toList.getD (a.size + j) 0 = (fourBytes n).data.toList.getD (0 + j) 0 := by
    intro j hj
    rw [List.getD_eq_getElem?_getD, List.getD_eq_getElem?_getD]
    congr 1
    simp only [ByteArray.data_append, Array.toList_append, List.append_assoc]
    rw [List.getElem?_append_right (by simp), List.getElem?_append_left (by simp [fourBytes]; omega)]
    congr 1
    simp
  have h0 := h 0 (by omega)
  rw [fourNum, h 1 (by omega), h 2 (by omega), h 3 (by omega)]
  rw [Nat.add_zero] at h0
  rw [h0]
  exact four_back n hn
/-- All pieces: the texts, then the numbers. -/
def pieces (ss : List ByteArray) (zs : List Int) : List ByteArray := ss ++ zs.map (fun n => fourBytes n.toNat)
theorem piece_text {ss : List ByteArray} {zs : List Int} {k : Nat} {s : ByteArray} (h : ss[k]? = some s) : (pieces ss zs)[k]? = some s := by
  rw [pieces, List.getElem?_append_left (List.getElem?_eq_some_iff.1 h).1]; exact h
theorem piece_num {ss : List ByteArray} {zs : List Int} {k : Nat} {n : Int} (h : zs[k]? = some n) : (pieces ss zs)[ss.length + k]? = some (fourBytes n.toNat) := by
  rw [pieces, List.getElem?_append_right (by omega), Nat.add_sub_cancel_left, List.getElem?_map, h]; rfl
/-- The text that the first k pieces make. -/
def upto (ss : List ByteArray) (zs : List Int) (k : Nat) : ByteArray := cat ((pieces ss zs).take k)
def whole (ss : List ByteArray) (zs : List Int) : ByteArray := cat (pieces ss zs)
theorem upto_all (ss : List ByteArray) (zs : List Int) : upto ss zs (ss.length + zs.length) = whole ss zs := by
  rw [upto, List.take_of_length_le (by simp [pieces])]; rfl
theorem upto_succ {ss : List ByteArray} {zs : List Int} {k : Nat} {x : ByteArray} (h : (pieces ss zs)[k]? = some x) : upto ss zs (k + 1) = upto ss zs k ++ x := (cat_split _ _ _ h).2
theorem whole_at {ss : List ByteArray} {zs : List Int} {k : Nat} {x : ByteArray} (h : (pieces ss zs)[k]? = some x) : ∃ c, whole ss zs = upto ss zs k ++ x ++ c := ⟨_, (cat_split _ _ _ h).1⟩

set_option maxHeartbeats 2000000 in
theorem back_walk (a0 : Option Addr) (len0 cap0 : Nat) (ss : List ByteArray) (a1 : Option Addr) (len1 cap1 : Nat) (zs : List Int) (w : World) (w0 : ArgStrs w a0 len0 cap0 ss) (w1 : ArgInts .u32 w a1 len1 cap1 zs) :
    Calls Try.prog 5 #[.slice a0 len0 cap0, .slice a1 len1 cap1] w fun e w' => e = .returned (.bool true) ∧ Below w.heap.size w w' := by
  obtain ⟨hx0, hy0, hl0, hr0, hm0⟩ := w0
  obtain ⟨hx1, hy1, hl1, hr1, hm1⟩ := w1
  have hc0 : cap0 ≤ 9223372036854775807 := by unfold maxLen at hy0; omega
  have hc1 : cap1 ≤ 9223372036854775807 := by unfold maxLen at hy1; omega
  clear hy0 hy1
  by_cases hb : len0 > 100 ∨ len1 > 100
  · have hbel := Below.refl w.heap.size w
    by_cases hb0 : len0 > 100
    · have e0 : decide ((100 : Int) < (len0 : Int)) = true := by simp; omega
      go_enter Try.func5, Try.ntmps5
      go_wp2_with (go_at_call 8; refine (awake_any _).mono ?_; rintro e w1 ⟨rfl, hb⟩; have hbel := then_ hbel hb; clear hb)
      go_ret
      exact ⟨rfl, hbel⟩
    · have e0 : decide ((100 : Int) < (len0 : Int)) = false := by simp; omega
      have e1 : decide ((100 : Int) < (len1 : Int)) = true := by simp; omega
      go_enter Try.func5, Try.ntmps5
      go_wp2_with (go_at_call 8; refine (awake_any _).mono ?_; rintro e w1 ⟨rfl, hb⟩; have hbel := then_ hbel hb; clear hb)
      go_ret
      exact ⟨rfl, hbel⟩
  have e0 : decide ((100 : Int) < (len0 : Int)) = false := by simp; omega
  have e1 : decide ((100 : Int) < (len1 : Int)) = false := by simp; omega
  have hb0 : len0 ≤ 100 := by omega
  have hb1 : len1 ≤ 100 := by omega
  have HR0 := Lib.hid hr0
  have HR1 := Lib.hid hr1
  have HL0 := Lib.hid hl0
  have HL1 := Lib.hid hl1
  clear hl0 hl1 hr0 hr1
  go_enter Try.func5, Try.ntmps5
  go_wp2_with fail
  refine (awake_any w).mono ?_
  rintro e w2 ⟨rfl, k2⟩
  go_wp2_with fail
  have ha := WrAt.fresh w2 w2.heap.size (Nat.le_refl _)
  have k3 := k2.alloc k2.size (.cells #[.slice none 0 0] 48)
  have hw2 : w.heap.size ≤ w2.heap.size := k2.size
  generalize w2.alloc (.cells #[.slice none 0 0] 48) = w3 at *
  generalize w2.heap.size = g at *
  clear k2
  go_loopw [34] (fun i wr => ∃ k : Nat, k ≤ len0 ∧ i = .int .i64 k ∧ (upto ss zs k).size ≤ k * 200 ∧ WrAt wr g g (upto ss zs k) ∧ Below w.heap.size w wr)
    (fun i _ => len0 - (intOf i).toNat)
  case atStart => exact ⟨0, by omega, rfl, Nat.le_refl _, ha, k3⟩
  case round =>
    obtain ⟨k, hk, rfl, hsz, hw, kb⟩ := hrel
    clear ha k3
    by_cases hlt : k < len0
    · have hki : (k : Int) < (len0 : Int) := by omega
      have hkl : k < ss.length := by rw [HL0.out]; exact hlt
      obtain ⟨s, hs⟩ : ∃ s, ss[k]? = some s := ⟨ss[k], List.getElem?_eq_getElem hkl⟩
      obtain ⟨b, off, rfl, hc⟩ := HR0.out.get kb (k := k) (v := .string s) (by rw [List.getElem?_map, hs]; rfl)
      have HS := Lib.hid (upto_succ (piece_text (zs := zs) hs))
      clear hs hkl
      by_cases hbig : 200 < s.size
      · have e2 : decide ((200 : Int) < (s.size : Int)) = true := by simp; omega
        go_wp2
        go_ret
        exact ⟨rfl, kb⟩
      · have e2 : decide ((200 : Int) < (s.size : Int)) = false := by simp; omega
        go_wp2_with fail
        refine (octetText g g _ s wr hw (by omega)).mono ?_
        rintro e w5 ⟨rfl, h5, k5⟩
        have k5 := onto_wr kb k5 hw2
        clear kb hw
        go_wp2
        go_roundw
        case rel => exact ⟨k + 1, by omega, by go_num, by rw [HS.out, ByteArray.size_append]; omega, by rw [HS.out]; exact h5, k5⟩
        case measure => simp [intOf]; omega
    · obtain rfl : len0 = k := by omega
      clear hlt hk
      go_wp2_with fail
      go_loopw [46] (fun i wr => ∃ k : Nat, k ≤ len1 ∧ i = .int .i64 k ∧ (upto ss zs (ss.length + k)).size ≤ 20000 + k * 4 ∧ WrAt wr g g (upto ss zs (ss.length + k)) ∧ Below w.heap.size w wr)
        (fun i _ => len1 - (intOf i).toNat)
      case atStart => exact ⟨0, by omega, rfl, by rw [HL0.out]; simp only [Nat.add_zero]; omega, by rw [HL0.out]; exact hw, kb⟩
      case round =>
        clear hw kb hsz
        obtain ⟨k, hk, rfl, hsz, hw, kb⟩ := hrel
        by_cases hlt : k < len1
        · have hki : (k : Int) < (len1 : Int) := by omega
          have hkl : k < zs.length := by rw [HL1.out]; exact hlt
          obtain ⟨n, hn⟩ : ∃ n, zs[k]? = some n := ⟨zs[k], List.getElem?_eq_getElem hkl⟩
          obtain ⟨n0, n1⟩ := Go.bounds_u32 (hm1 n (List.mem_of_getElem? hn))
          obtain ⟨N, rfl⟩ := Int.eq_ofNat_of_zero_le n0
          have hN : N < 4294967296 := by omega
          have HS := Lib.hid (upto_succ (piece_num (ss := ss) hn))
          obtain ⟨b, off, rfl, hc⟩ := HR1.out.get kb (k := k) (v := .int .u32 N) (by rw [List.getElem?_map, hn]; rfl)
          clear hn hkl
          go_wp2_with fail
          refine (octetPutFour g g _ N wr hw hN (by omega)).mono ?_
          rintro e w5 ⟨rfl, h5, k5⟩
          have k5 := onto_wr kb k5 hw2
          clear kb hw
          go_wp2
          go_roundw
          case rel => exact ⟨k + 1, by omega, by go_num, by rw [← Nat.add_assoc, HS.out, ByteArray.size_append]; show _ + 4 ≤ _; omega, by rw [← Nat.add_assoc, HS.out]; exact h5, k5⟩
          case measure => simp [intOf]; omega
        · obtain rfl : len1 = k := by omega
          clear hlt hk
          have HU := Lib.hid (upto_all ss zs)
          rw [show ss.length + len1 = ss.length + zs.length by rw [HL1.out], HU.out] at hw hsz
          generalize hal : whole ss zs = all at *
          have HAL := Lib.hid hal
          clear hal
          go_wp2_with fail
          refine (octetString g g _ wr hw (by unfold maxLen; omega)).mono ?_
          rintro e w' ⟨rfl, rfl⟩
          go_wp2_with fail
          refine (octetNew all wr (by unfold maxLen; omega)).mono ?_
          rintro e w6 ⟨rfl, r6, k6⟩
          have k6 := onto_none kb k6
          have hq : w.heap.size ≤ wr.heap.size := kb.size
          clear hw kb
          generalize wr.heap.size = q at *
          go_wp2_with fail
          go_loopw [57] (fun i wr => ∃ k : Nat, k ≤ len0 ∧ i = .int .i64 k ∧ RdAt wr q all (upto ss zs k).size ∧ Below w.heap.size w wr)
            (fun i _ => len0 - (intOf i).toNat)
          case atStart => exact ⟨0, by omega, rfl, r6, k6⟩
          case round =>
            clear r6 k6
            obtain ⟨k, hk, rfl, rr, kb⟩ := hrel
            by_cases hlt : k < len0
            · have hki : (k : Int) < (len0 : Int) := by omega
              have hkl : k < ss.length := by rw [HL0.out]; exact hlt
              obtain ⟨s, hs⟩ : ∃ s, ss[k]? = some s := ⟨ss[k], List.getElem?_eq_getElem hkl⟩
              have hsm := hm0 s (List.mem_of_getElem? hs)
              obtain ⟨b, off, he, hc⟩ := HR0.out.get kb (k := k) (v := .string s) (by rw [List.getElem?_map, hs]; rfl)
              subst he
              have HS := Lib.hid (upto_succ (piece_text (zs := zs) hs))
              obtain ⟨c, hall⟩ := whole_at (piece_text (zs := zs) hs)
              rw [HAL.out] at hall
              have hpart : all.extract (upto ss zs k).size ((upto ss zs k).size + s.size) = s := by rw [hall]; exact part_of _ _ _
              have hfit : (upto ss zs k).size + s.size ≤ all.size := by rw [hall, ByteArray.size_append, ByteArray.size_append]; omega
              have HP := Lib.hid hpart
              unfold maxLen at hsm
              clear hs hkl hall hpart
              go_wp2_with fail
              refine (octetTakeOk q all _ s.size wr rr (by omega) (by omega)).mono ?_
              rintro e w7 ⟨rfl, r7, k7⟩
              rw [Int.toNat_natCast] at *
              rw [HP.out]
              have k7 := onto_one kb k7 hq
              clear rr kb
              go_wp2
              go_roundw
              case rel => exact ⟨k + 1, by omega, by go_num, by rw [HS.out, ByteArray.size_append]; exact r7, k7⟩
              case measure => simp [intOf]; omega
            · obtain rfl : len0 = k := by omega
              clear hlt hk
              go_wp2_with fail
              go_loopw [78] (fun i wr => ∃ k : Nat, k ≤ len1 ∧ i = .int .i64 k ∧ RdAt wr q all (upto ss zs (ss.length + k)).size ∧ Below w.heap.size w wr)
                (fun i _ => len1 - (intOf i).toNat)
              case atStart => exact ⟨0, by omega, rfl, by rw [HL0.out]; exact rr, kb⟩
              case round =>
                clear rr kb
                obtain ⟨k, hk, rfl, rr, kb⟩ := hrel
                by_cases hlt : k < len1
                · have hki : (k : Int) < (len1 : Int) := by omega
                  have hkl : k < zs.length := by rw [HL1.out]; exact hlt
                  obtain ⟨n, hn⟩ : ∃ n, zs[k]? = some n := ⟨zs[k], List.getElem?_eq_getElem hkl⟩
                  obtain ⟨n0, n1⟩ := Go.bounds_u32 (hm1 n (List.mem_of_getElem? hn))
                  obtain ⟨N, rfl⟩ := Int.eq_ofNat_of_zero_le n0
                  have hN : N < 4294967296 := by omega
                  obtain ⟨b, off, he, hc⟩ := HR1.out.get kb (k := k) (v := .int .u32 N) (by rw [List.getElem?_map, hn]; rfl)
                  subst he
                  have HS := Lib.hid (upto_succ (piece_num (ss := ss) hn))
                  obtain ⟨c, hall⟩ := whole_at (piece_num (ss := ss) hn)
                  rw [HAL.out] at hall
                  have hpart : fourNum all (upto ss zs (ss.length + k)).size = N := by rw [hall]; exact four_of _ _ _ hN
                  have hfit : (upto ss zs (ss.length + k)).size + 4 ≤ all.size := by rw [hall, ByteArray.size_append, ByteArray.size_append]; show _ + 4 ≤ _ + 4 + _; omega
                  have HP := Lib.hid hpart
                  clear hn hkl hall hpart
                  go_wp2_with fail
                  refine (octetFourOk q all _ wr rr (by omega)).mono ?_
                  rintro e w7 ⟨rfl, r7, k7⟩
                  rw [HP.out]
                  have k7 := onto_one kb k7 hq
                  clear rr kb
                  go_wp2
                  go_roundw
                  case rel => exact ⟨k + 1, by omega, by go_num, by rw [← Nat.add_assoc, HS.out, ByteArray.size_append]; exact r7, k7⟩
                  case measure => simp [intOf]; omega
                · obtain rfl : len1 = k := by omega
                  rw [show ss.length + len1 = ss.length + zs.length by rw [HL1.out], HU.out] at rr
                  go_wp2_with fail
                  refine (octetLeft q all _ wr rr).mono ?_
                  rintro e w' ⟨rfl, n9, rfl⟩
                  go_wp2
                  go_ret
                  exact ⟨rfl, onto_none kb (Kept.drewN _ _ _)⟩
end Go.Proofs.Ytghaddnpageemaa
