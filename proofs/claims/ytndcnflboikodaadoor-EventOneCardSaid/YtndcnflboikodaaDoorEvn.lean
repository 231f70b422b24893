/-
  The kinds' names (layer 15): event.Name, event.Find and the document's Name.
-/
import Derived.Test.YtndcnflboikodaaDoorEv
import Derived.Test.YtndcnflboikodaaDoorOwn
import Derived.Deep.DeepCutAuto
namespace Go.Proofs.YtndcnflboikodaaDoor
open Go.RowKit
set_option linter.unusedVariables false
set_option linter.unusedSimpArgs false
def evL : List ByteArray := [⟨#[]⟩, ⟨#[99, 108, 97, 105, 109]⟩, ⟨#[112, 117, 98, 108, 105, 115, 104]⟩, ⟨#[116, 97, 107, 101]⟩, ⟨#[114, 101, 108, 101, 97, 115, 101]⟩, ⟨#[110, 111]⟩, ⟨#[115, 104, 117, 116]⟩, ⟨#[116, 105, 109, 101]⟩, ⟨#[99, 108, 111, 99, 107]⟩, ⟨#[100, 114, 97, 119]⟩, ⟨#[114, 101, 97, 100]⟩, ⟨#[101, 110, 100]⟩, ⟨#[115, 101, 101]⟩, ⟨#[99, 108, 111, 115, 101]⟩, ⟨#[104, 97, 108, 116]⟩, ⟨#[115, 112, 105, 110]⟩]
theorem evL_length : evL.length = 16 := rfl
/-- The table of the kinds' names, where it lies. -/
def EvnAt (w : World) : Prop := ∀ (i : Nat) (b : ByteArray), evL[i]? = some b → w.cell? ⟨0, i, none⟩ = some (.string b)
theorem EvnAt.later {w w' : World} {B : Nat} (h : EvnAt w) (k : Below B w w') (hB : 0 < B) : EvnAt w' := fun i b hb => (k.cell (p := ⟨0, i, none⟩) hB).trans (h i b hb)
theorem EvnAt.lt {w : World} (h : EvnAt w) : 0 < w.heap.size := World.block_lt_of_cell? w _ (h 0 _ rfl)
theorem kindB_iff {k : Int} : kindB k = true ↔ 1 ≤ k ∧ k ≤ 15 := by
  unfold kindB
  simp only [Bool.and_eq_true, decide_eq_true_eq]
def evnB (k : Int) : ByteArray := if kindB k = true then evL.getD k.toNat ByteArray.empty else ByteArray.empty
theorem evnB_get {k : Int} (h : kindB k = true) : evL[k.toNat]? = some (evnB k) := by
  have h2 := kindB_iff.1 h
  unfold evnB
  rw [h, if_pos rfl, List.getD_eq_getElem?_getD, List.getElem?_eq_getElem (by rw [evL_length]; omega)]; rfl
set_option maxHeartbeats 4000000 in
theorem evname_any (k : Int) (w : World) (h : EvnAt w) : Calls Tryd.prog 17 #[.int .i64 k] w fun e w' => e = .returned (.string (evnB k)) ∧ w = w' := by
  have HG := Lib.hid (@evnB_get k)
  have HF : Hid (kindB k = false → evnB k = ByteArray.empty) := fun h => by unfold evnB; rw [h, if_neg (by decide)]
  have C1 := Lib.hid (fun w => isKind_any k w)
  have hop := @kindB_iff k
  generalize hkb : kindB k = kb at *
  clear hkb
  have HH := Lib.hid h
  clear h
  cases kb
  case true =>
    obtain ⟨r1, r2⟩ := hop.1 rfl
    obtain ⟨n, rfl⟩ : ∃ n : Nat, k = n := ⟨k.toNat, by omega⟩
    have g0 := HH.out n (evnB (n : Int)) (by have := HG.out rfl; rwa [Int.toNat_natCast] at this)
    have gl := World.block_lt_of_cell? _ _ g0
    have hn : (n : Int) < 16 := by omega
    clear hop
    go_enter Tryd.func17, Tryd.ntmps17
    go_wp2_with fail
    refine (C1.out _).mono ?_
    rintro e w' ⟨rfl, rfl⟩
    go_wp2
    go_ret
    exact ⟨rfl, rfl⟩
  case false =>
    have HE := Lib.hid (HF.out rfl)
    clear hop
    go_enter Tryd.func17, Tryd.ntmps17
    go_wp2_with fail
    refine (C1.out _).mono ?_
    rintro e w' ⟨rfl, rfl⟩
    go_wp2
    go_ret
    exact ⟨by rw [HE.out]; rfl, rfl⟩
/-- The kind that has a name; 0: none has. -/
def efN (s : ByteArray) : Nat := ((List.range' 1 15).find? (fun k => decide (evL.getD k ByteArray.empty = s))).getD 0
theorem efN_at {s : ByteArray} {i : Nat} (h1 : 1 ≤ i) (hi : i ≤ 15) (hno : ∀ k, 1 ≤ k → k < i → evL.getD k ByteArray.empty ≠ s) (h : evL.getD i ByteArray.empty = s) : efN s = i := by
  unfold efN
  have : (List.range' 1 15).find? (fun k => decide (evL.getD k ByteArray.empty = s)) = some i := by
    rw [List.find?_eq_some_iff_getElem]
    refine ⟨by simpa using h, i - 1, by simp; omega, by simp; omega, fun j hj => ?_⟩
    have := hno (1 + j) (by omega) (by omega)
    simpa using this
  rw [this]; rfl
theorem efN_none {s : ByteArray} (hno : ∀ k, 1 ≤ k → k < 16 → evL.getD k ByteArray.empty ≠ s) : efN s = 0 := by
  unfold efN
  have : (List.range' 1 15).find? (fun k => decide (evL.getD k ByteArray.empty = s)) = none := by
    rw [List.find?_eq_none]
    intro k hk
    have := List.mem_range'_1.1 hk
    simpa using hno k (by omega) (by omega)
  rw [this]; rfl
set_option maxHeartbeats 4000000 in
theorem efind_any (s : ByteArray) (w : World) (h : EvnAt w) : Calls Tryd.prog 15 #[.string s] w fun e w' => e = .returned (.tuple #[.int .i64 (efN s : Nat), .bool (efN s != 0)]) ∧ w = w' := by
  have HH := Lib.hid h
  have gl := h.lt
  have HAT := Lib.hid (fun i => @efN_at s i)
  have HNO := Lib.hid (@efN_none s)
  clear h
  go_enter Tryd.func15, Tryd.ntmps15
  go_wp2_with fail
  go_loopw [4] (fun u wr => ∃ i : Nat, 1 ≤ i ∧ i ≤ 16 ∧ u = .int .i64 i ∧ Hid (∀ k, 1 ≤ k → k < i → evL.getD k ByteArray.empty ≠ s) ∧ wr = w) (fun u _ => 16 - (intOf u).toNat)
  case atStart => exact ⟨1, by omega, by omega, rfl, (fun k h1 h2 => by omega), rfl⟩
  case round =>
    obtain ⟨i, hi1, hi, rfl, hq, rfl⟩ := hrel
    by_cases hlt : i ≤ 15
    · have hii : (i : Int) ≤ 15 := by omega
      have hii2 : (i : Int) < 16 := by omega
      obtain ⟨b, hb⟩ : ∃ b, evL[i]? = some b := ⟨_, List.getElem?_eq_getElem (by rw [evL_length]; omega)⟩
      have hgd : evL.getD i ByteArray.empty = b := by rw [List.getD_eq_getElem?_getD, hb]; rfl
      have g0 := HH.out i b hb
      by_cases he : b = s
      · have HE := Lib.hid (HAT.out i hi1 hlt hq.out (hgd.trans he))
        have HIZ : Hid ((efN s != 0) = true) := by show _ = _; rw [HE.out, bne_iff_ne]; omega
        clear hb hgd hq
        subst he
        go_wp2
        go_ret2
        exact ⟨by rw [HIZ.out, HE.out]; rfl, rfl⟩
      · have HQ : Hid (∀ k, 1 ≤ k → k < i + 1 → evL.getD k ByteArray.empty ≠ s) := fun k h1 h2 => by
          by_cases hk : k = i
          · subst hk; rw [hgd]; exact he
          · exact hq.out k h1 (by omega)
        have e1 := text_ne he
        clear hb hgd hq
        go_wp2
        go_roundw
        case rel => exact ⟨i + 1, by omega, by omega, by go_num, HQ, trivial⟩
        case measure => simp [intOf]; omega
    · obtain rfl : i = 16 := by omega
      have HE := Lib.hid (HNO.out hq.out)
      clear hq
      go_wp2
      go_ret2
      exact ⟨by rw [HE.out]; rfl, rfl⟩
/-- The 15 names as cells. -/
abbrev evnC : Array Value := #[.string ⟨#[99, 108, 97, 105, 109]⟩, .string ⟨#[112, 117, 98, 108, 105, 115, 104]⟩, .string ⟨#[116, 97, 107, 101]⟩, .string ⟨#[114, 101, 108, 101, 97, 115, 101]⟩, .string ⟨#[110, 111]⟩, .string ⟨#[115, 104, 117, 116]⟩, .string ⟨#[116, 105, 109, 101]⟩, .string ⟨#[99, 108, 111, 99, 107]⟩, .string ⟨#[100, 114, 97, 119]⟩, .string ⟨#[114, 101, 97, 100]⟩, .string ⟨#[101, 110, 100]⟩, .string ⟨#[115, 101, 101]⟩, .string ⟨#[99, 108, 111, 115, 101]⟩, .string ⟨#[104, 97, 108, 116]⟩, .string ⟨#[115, 112, 105, 110]⟩]
theorem evnC_get {n : Nat} (h : n < 15) : evnC[n]? = some (.string (evL.getD (n + 1) ByteArray.empty)) := by
  have h2 : n + 1 < evL.length := by rw [evL_length]; omega
  rw [show evnC = ((evL.drop 1).map Value.string).toArray from rfl, List.getElem?_toArray, List.getElem?_map, List.getElem?_drop, show 1 + n = n + 1 by omega, List.getElem?_eq_getElem h2, List.getD_eq_getElem?_getD, List.getElem?_eq_getElem h2]; rfl
set_option maxHeartbeats 4000000 in
theorem rfEvName (op : Int) (w : World) : Calls Tryd.prog 14 #[.int .i64 op] w fun e w' => e = .returned (.string (evnB op)) ∧ Below w.heap.size w w' := by
  have hb0 : Below w.heap.size w (w.alloc (.cells evnC 9)) := (Below.refl _ _).alloc (Nat.le_refl _) _
  have l0 := Lies.made w 9 evnC
  by_cases h1 : op < 1
  · have e1 : decide (op < 1) = true := decide_eq_true h1
    have HE : Hid (evnB op = ByteArray.empty) := by
      show _ = _
      unfold evnB
      rw [if_neg (fun h => by have := kindB_iff.1 h; omega)]
    have HB := Lib.hid hb0
    clear h1 hb0 l0
    go_enter Tryd.func14, Tryd.ntmps14
    go_wp2
    go_ret
    exact ⟨by rw [HE.out]; rfl, HB.out⟩
  have e1 : decide (op < 1) = false := decide_eq_false h1
  by_cases h2 : 15 < op
  · have e2 : decide (15 < op) = true := decide_eq_true h2
    have HE : Hid (evnB op = ByteArray.empty) := by
      show _ = _
      unfold evnB
      rw [if_neg (fun h => by have := kindB_iff.1 h; omega)]
    have HB := Lib.hid hb0
    clear h1 h2 hb0 l0
    go_enter Tryd.func14, Tryd.ntmps14
    go_wp2
    go_ret
    exact ⟨by rw [HE.out]; rfl, HB.out⟩
  have e2 : decide (15 < op) = false := decide_eq_false h2
  obtain ⟨n, rfl⟩ : ∃ n : Nat, op = (n : Int) + 1 := ⟨(op - 1).toNat, by omega⟩
  have hn : n < 15 := by omega
  have hni : (n : Int) < 15 := by omega
  have HE : Hid (evnB ((n : Int) + 1) = evL.getD (n + 1) ByteArray.empty) := by
    show _ = _
    unfold evnB
    rw [if_pos (show kindB ((n : Int) + 1) = true from kindB_iff.2 (by omega)), show ((n : Int) + 1).toNat = n + 1 by omega]
  have q0 := (l0.cell n).trans (evnC_get hn)
  have q1 := l0.lt
  have HB := Lib.hid hb0
  clear h1 h2 hb0 l0
  go_enter Tryd.func14, Tryd.ntmps14
  go_upto_region 2 with (fail)
  generalize w.alloc (.cells evnC 9) = w1 at *
  go_wp2
  go_ret
  exact ⟨by rw [HE.out]; rfl, HB.out⟩
end Go.Proofs.YtndcnflboikodaaDoor
