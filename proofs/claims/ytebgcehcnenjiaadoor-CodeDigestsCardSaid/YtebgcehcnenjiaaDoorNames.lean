/-
  The instructions' names (layer 9): code.Name, code.Find and the document's Name.
-/
import Derived.Test.YtebgcehcnenjiaaDoorCode2
namespace Go.Proofs.YtebgcehcnenjiaaDoor
open Go.RowKit
set_option linter.unusedVariables false
set_option linter.unusedSimpArgs false
def nmL : List ByteArray := [⟨#[]⟩, ⟨#[115, 101, 116]⟩, ⟨#[109, 111, 118]⟩, ⟨#[97, 100, 100]⟩, ⟨#[115, 117, 98]⟩, ⟨#[109, 117, 108]⟩, ⟨#[100, 105, 118]⟩, ⟨#[109, 111, 100]⟩, ⟨#[97, 110, 100]⟩, ⟨#[111, 114]⟩, ⟨#[120, 111, 114]⟩, ⟨#[115, 104, 108]⟩, ⟨#[115, 104, 114]⟩, ⟨#[108, 116]⟩, ⟨#[101, 113]⟩, ⟨#[106, 109, 112]⟩, ⟨#[106, 122]⟩, ⟨#[106, 110, 122]⟩, ⟨#[115, 101, 110, 100]⟩, ⟨#[114, 101, 99, 118]⟩, ⟨#[99, 108, 111, 115, 101]⟩, ⟨#[99, 108, 111, 99, 107]⟩, ⟨#[100, 114, 97, 119]⟩, ⟨#[114, 101, 97, 100]⟩, ⟨#[115, 101, 101]⟩, ⟨#[104, 97, 108, 116]⟩]
theorem nmL_length : nmL.length = 26 := rfl
/-- The table of names, where it lies. -/
def NamesAt (w : World) : Prop := ∀ (i : Nat) (b : ByteArray), nmL[i]? = some b → w.cell? ⟨0, i, none⟩ = some (.string b)
theorem NamesAt.later {w w' : World} {B : Nat} (h : NamesAt w) (k : Below B w w') (hB : 0 < B) : NamesAt w' := fun i b hb => (k.cell (p := ⟨0, i, none⟩) hB).trans (h i b hb)
theorem NamesAt.lt {w : World} (h : NamesAt w) : 0 < w.heap.size := World.block_lt_of_cell? w _ (h 0 _ rfl)
def nmB (op : Int) : ByteArray := if opB op = true then nmL.getD op.toNat ByteArray.empty else ByteArray.empty
theorem nmB_get {op : Int} (h : opB op = true) : nmL[op.toNat]? = some (nmB op) := by
  rcases op_lit h with e | e | e | e | e | e | e | e | e | e | e | e | e | e | e | e | e | e | e | e | e | e | e | e | e
  all_goals rw [e]; rfl
set_option maxHeartbeats 4000000 in
theorem name_any (op : Int) (w : World) (h : NamesAt w) : Calls Tryd.prog 12 #[.int .i64 op] w fun e w' => e = .returned (.string (nmB op)) ∧ w = w' := by
  have hs := op_split op
  have HG := Lib.hid (@nmB_get op)
  have HF : Hid (opB op = false → nmB op = ByteArray.empty) := fun h => by unfold nmB; rw [h, if_neg (by decide)]
  have C1 := Lib.hid (fun w => plain_any op w)
  have C2 := Lib.hid (fun w => seen_any op w)
  have hop : opB op = true → 1 ≤ op ∧ op ≤ 25 := fun h => of_decide_eq_true h
  generalize (decide (1 ≤ op) && decide (op ≤ 17)) = b1 at *
  generalize (decide (18 ≤ op) && decide (op ≤ 25)) = b2 at *
  have HH := Lib.hid h
  clear h
  cases b1
  case true =>
    have h1 : opB op = true := hs
    obtain ⟨r1, r2⟩ := hop h1
    obtain ⟨n, rfl⟩ : ∃ n : Nat, op = n := ⟨op.toNat, by omega⟩
    have g0 := HH.out n (nmB (n : Int)) (by have := HG.out h1; rwa [Int.toNat_natCast] at this)
    have gl := World.block_lt_of_cell? _ _ g0
    have hn : (n : Int) < 26 := by omega
    clear hs h1 hop
    go_enter Tryd.func12, Tryd.ntmps12
    go_wp2_with fail
    refine (C1.out _).mono ?_
    rintro e w' ⟨rfl, rfl⟩
    go_wp2
    go_ret
    exact ⟨rfl, rfl⟩
  case false =>
    cases b2
    case true =>
      have h1 : opB op = true := hs
      obtain ⟨r1, r2⟩ := hop h1
      obtain ⟨n, rfl⟩ : ∃ n : Nat, op = n := ⟨op.toNat, by omega⟩
      have g0 := HH.out n (nmB (n : Int)) (by have := HG.out h1; rwa [Int.toNat_natCast] at this)
      have gl := World.block_lt_of_cell? _ _ g0
      have hn : (n : Int) < 26 := by omega
      clear hs h1 hop
      go_enter Tryd.func12, Tryd.ntmps12
      go_wp2_with fail
      refine (C1.out _).mono ?_
      rintro e w' ⟨rfl, rfl⟩
      go_wp2_with fail
      refine (C2.out _).mono ?_
      rintro e w' ⟨rfl, rfl⟩
      go_wp2
      go_ret
      exact ⟨rfl, rfl⟩
    case false =>
      have HE := Lib.hid (HF.out hs)
      clear hs hop
      go_enter Tryd.func12, Tryd.ntmps12
      go_wp2_with fail
      refine (C1.out _).mono ?_
      rintro e w' ⟨rfl, rfl⟩
      go_wp2_with fail
      refine (C2.out _).mono ?_
      rintro e w' ⟨rfl, rfl⟩
      go_wp2
      go_ret
      exact ⟨by rw [HE.out]; rfl, rfl⟩
/-- The instruction that has a name; 0: none has. -/
def fdN (s : ByteArray) : Nat := ((List.range' 1 25).find? (fun k => decide (nmL.getD k ByteArray.empty = s))).getD 0
theorem fdN_at {s : ByteArray} {i : Nat} (h1 : 1 ≤ i) (hi : i ≤ 25) (hno : ∀ k, 1 ≤ k → k < i → nmL.getD k ByteArray.empty ≠ s) (h : nmL.getD i ByteArray.empty = s) : fdN s = i := by
  unfold fdN
  have : (List.range' 1 25).find? (fun k => decide (nmL.getD k ByteArray.empty = s)) = some i := by
    rw [List.find?_eq_some_iff_getElem]
    refine ⟨by simpa using h, i - 1, by simp; omega, by simp; omega, fun j hj => ?_⟩
    have := hno (1 + j) (by omega) (by omega)
    simpa using this
  rw [this]; rfl
theorem fdN_none {s : ByteArray} (hno : ∀ k, 1 ≤ k → k < 26 → nmL.getD k ByteArray.empty ≠ s) : fdN s = 0 := by
  unfold fdN
  have : (List.range' 1 25).find? (fun k => decide (nmL.getD k ByteArray.empty = s)) = none := by
    rw [List.find?_eq_none]
    intro k hk
    have := List.mem_range'_1.1 hk
    simpa using hno k (by omega) (by omega)
  rw [this]; rfl
set_option maxHeartbeats 4000000 in
theorem find_any (s : ByteArray) (w : World) (h : NamesAt w) : Calls Tryd.prog 11 #[.string s] w fun e w' => e = .returned (.tuple #[.int .i64 (fdN s : Nat), .bool (fdN s != 0)]) ∧ w = w' := by
  have HH := Lib.hid h
  have gl := h.lt
  have HAT := Lib.hid (fun i => @fdN_at s i)
  have HNO := Lib.hid (@fdN_none s)
  clear h
  go_enter Tryd.func11, Tryd.ntmps11
  go_wp2_with fail
  go_loopw [4] (fun u wr => ∃ i : Nat, 1 ≤ i ∧ i ≤ 26 ∧ u = .int .i64 i ∧ Hid (∀ k, 1 ≤ k → k < i → nmL.getD k ByteArray.empty ≠ s) ∧ wr = w) (fun u _ => 26 - (intOf u).toNat)
  case atStart => exact ⟨1, by omega, by omega, rfl, (fun k h1 h2 => by omega), rfl⟩
  case round =>
    obtain ⟨i, hi1, hi, rfl, hq, rfl⟩ := hrel
    by_cases hlt : i ≤ 25
    · have hii : (i : Int) ≤ 25 := by omega
      have hii2 : (i : Int) < 26 := by omega
      obtain ⟨b, hb⟩ : ∃ b, nmL[i]? = some b := ⟨_, List.getElem?_eq_getElem (by rw [nmL_length]; omega)⟩
      have hgd : nmL.getD i ByteArray.empty = b := by rw [List.getD_eq_getElem?_getD, hb]; rfl
      have g0 := HH.out i b hb
      by_cases he : b = s
      · have HE := Lib.hid (HAT.out i hi1 hlt hq.out (hgd.trans he))
        have HIZ : Hid ((fdN s != 0) = true) := by show _ = _; rw [HE.out, bne_iff_ne]; omega
        clear hb hgd hq
        subst he
        go_wp2
        go_ret2
        exact ⟨by rw [HIZ.out, HE.out]; rfl, rfl⟩
      · have HQ : Hid (∀ k, 1 ≤ k → k < i + 1 → nmL.getD k ByteArray.empty ≠ s) := fun k h1 h2 => by
          by_cases hk : k = i
          · subst hk; rw [hgd]; exact he
          · exact hq.out k h1 (by omega)
        have e1 := text_ne he
        clear hb hgd hq
        go_wp2
        go_roundw
        case rel => exact ⟨i + 1, by omega, by omega, by go_num, HQ, trivial⟩
        case measure => simp [intOf]; omega
    · obtain rfl : i = 26 := by omega
      have HE := Lib.hid (HNO.out hq.out)
      clear hq
      go_wp2
      go_ret2
      exact ⟨by rw [HE.out]; rfl, rfl⟩
/-- The 25 names as cells. -/
abbrev nmC : Array Value := #[.string ⟨#[115, 101, 116]⟩, .string ⟨#[109, 111, 118]⟩, .string ⟨#[97, 100, 100]⟩, .string ⟨#[115, 117, 98]⟩, .string ⟨#[109, 117, 108]⟩, .string ⟨#[100, 105, 118]⟩, .string ⟨#[109, 111, 100]⟩, .string ⟨#[97, 110, 100]⟩, .string ⟨#[111, 114]⟩, .string ⟨#[120, 111, 114]⟩, .string ⟨#[115, 104, 108]⟩, .string ⟨#[115, 104, 114]⟩, .string ⟨#[108, 116]⟩, .string ⟨#[101, 113]⟩, .string ⟨#[106, 109, 112]⟩, .string ⟨#[106, 122]⟩, .string ⟨#[106, 110, 122]⟩, .string ⟨#[115, 101, 110, 100]⟩, .string ⟨#[114, 101, 99, 118]⟩, .string ⟨#[99, 108, 111, 115, 101]⟩, .string ⟨#[99, 108, 111, 99, 107]⟩, .string ⟨#[100, 114, 97, 119]⟩, .string ⟨#[114, 101, 97, 100]⟩, .string ⟨#[115, 101, 101]⟩, .string ⟨#[104, 97, 108, 116]⟩]
theorem nmC_get {n : Nat} (h : n < 25) : nmC[n]? = some (.string (nmL.getD (n + 1) ByteArray.empty)) := by
  have h2 : n + 1 < nmL.length := by rw [nmL_length]; omega
  rw [show nmC = ((nmL.drop 1).map Value.string).toArray from rfl, List.getElem?_toArray, List.getElem?_map, List.getElem?_drop, show 1 + n = n + 1 by omega, List.getElem?_eq_getElem h2, List.getD_eq_getElem?_getD, List.getElem?_eq_getElem h2]; rfl
set_option maxHeartbeats 4000000 in
theorem rfName (op : Int) (w : World) : Calls Tryd.prog 10 #[.int .i64 op] w fun e w' => e = .returned (.string (nmB op)) ∧ Below w.heap.size w w' := by
  have hb0 : Below w.heap.size w (w.alloc (.cells nmC 9)) := (Below.refl _ _).alloc (Nat.le_refl _) _
  have l0 := Lies.made w 9 nmC
  by_cases h1 : op < 1
  · have e1 : decide (op < 1) = true := decide_eq_true h1
    have HE : Hid (nmB op = ByteArray.empty) := by
      show _ = _
      unfold nmB
      rw [if_neg (fun h => by have := of_decide_eq_true h; omega)]
    have HB := Lib.hid hb0
    clear h1 hb0 l0
    go_enter Tryd.func10, Tryd.ntmps10
    go_wp2
    go_ret
    exact ⟨by rw [HE.out]; rfl, HB.out⟩
  have e1 : decide (op < 1) = false := decide_eq_false h1
  by_cases h2 : 25 < op
  · have e2 : decide (25 < op) = true := decide_eq_true h2
    have HE : Hid (nmB op = ByteArray.empty) := by
      show _ = _
      unfold nmB
      rw [if_neg (fun h => by have := of_decide_eq_true h; omega)]
    have HB := Lib.hid hb0
    clear h1 h2 hb0 l0
    go_enter Tryd.func10, Tryd.ntmps10
    go_wp2
    go_ret
    exact ⟨by rw [HE.out]; rfl, HB.out⟩
  have e2 : decide (25 < op) = false := decide_eq_false h2
  obtain ⟨n, rfl⟩ : ∃ n : Nat, op = (n : Int) + 1 := ⟨(op - 1).toNat, by omega⟩
  have hn : n < 25 := by omega
  have hni : (n : Int) < 25 := by omega
  have HE : Hid (nmB ((n : Int) + 1) = nmL.getD (n + 1) ByteArray.empty) := by
    show _ = _
    unfold nmB
    rw [if_pos (show opB ((n : Int) + 1) = true from decide_eq_true (by omega)), show ((n : Int) + 1).toNat = n + 1 by omega]
  have q0 := (l0.cell n).trans (nmC_get hn)
  have q1 := l0.lt
  have HB := Lib.hid hb0
  clear h1 h2 hb0 l0
  go_enter Tryd.func10, Tryd.ntmps10
  go_upto_region 2 with (fail)
  generalize w.alloc (.cells nmC 9) = w1 at *
  go_wp2
  go_ret
  exact ⟨by rw [HE.out]; rfl, HB.out⟩
end Go.Proofs.YtebgcehcnenjiaaDoor
