import Derived.Test.YtiegmpjoiekekaaEv
import Derived.Test.YtiegmpjoiekekaaOwn
import Derived.Deep.DeepCutAuto
import Derived.Test.YtiegmpjoiekekaaEvr
/-
  The kinds' names (layer 15): the document's Name (a seat without the program's table).
-/
namespace Go.Proofs.Ytiegmpjoiekekaa
open Go.RowKit
set_option linter.unusedVariables false
set_option linter.unusedSimpArgs false
def evL : List ByteArray := [⟨#[]⟩, ⟨#[99, 108, 97, 105, 109]⟩, ⟨#[112, 117, 98, 108, 105, 115, 104]⟩, ⟨#[116, 97, 107, 101]⟩, ⟨#[114, 101, 108, 101, 97, 115, 101]⟩, ⟨#[110, 111]⟩, ⟨#[115, 104, 117, 116]⟩, ⟨#[116, 105, 109, 101]⟩, ⟨#[99, 108, 111, 99, 107]⟩, ⟨#[100, 114, 97, 119]⟩, ⟨#[114, 101, 97, 100]⟩, ⟨#[101, 110, 100]⟩, ⟨#[115, 101, 101]⟩, ⟨#[99, 108, 111, 115, 101]⟩, ⟨#[104, 97, 108, 116]⟩, ⟨#[115, 112, 105, 110]⟩]
theorem evL_length : evL.length = 16 := rfl
theorem kindB_iff {k : Int} : kindB k = true ↔ 1 ≤ k ∧ k ≤ 15 := by
  unfold kindB
  simp only [Bool.and_eq_true, decide_eq_true_eq]
def evnB (k : Int) : ByteArray := if kindB k = true then evL.getD k.toNat ByteArray.empty else ByteArray.empty
theorem evnB_get {k : Int} (h : kindB k = true) : evL[k.toNat]? = some (evnB k) := by
  have h2 := kindB_iff.1 h
  unfold evnB
  rw [h, if_pos rfl, List.getD_eq_getElem?_getD, List.getElem?_eq_getElem (by rw [evL_length]; omega)]; rfl
/-- The kind that has a name; 0: none has. -/
def efN (s : ByteArray) : Nat := ((List.range' 1 15).find? (fun k => decide (evL.getD k ByteArray.empty = s))).getD 0
theorem efN_at {s : ByteArray} {i : Nat} (h1 : 1 ≤ i) (hi : i ≤ 15) (hno : ∀ k, 1 ≤ k → k < i → evL.getD k ByteArray.empty ≠ s) (h : evL.getD i ByteArray.empty = s) : efN s = i := by
  unfold efN
  have : (List.range' 1 15).find? (fun k => decide (evL.getD k ByteArray.empty = s)) = some i := by
    rw [List.find?_eq_some_iff_getElem]
    refine ⟨by simpa using h, i - 1, by simp; omega, by simp; omega, fun j hj => ?_⟩
    have := hno (1 + j) (by omega) (by omega)
    simpa using this
  rw [this]; rfl
theorem efN_none {s : ByteArray} (hno : ∀ k, 1 ≤ k → k < 16 → evL.getD k ByteArray.empty ≠ s) : efN s = 0 := by
  unfold efN
  have : (List.range' 1 15).find? (fun k => decide (evL.getD k ByteArray.empty = s)) = none := by
    rw [List.find?_eq_none]
    intro k hk
    have := List.mem_range'_1.1 hk
    simpa using hno k (by omega) (by omega)
  rw [this]; rfl
/-- The 15 names as cells. -/
abbrev evnC : Array Value := #[.string ⟨#[99, 108, 97, 105, 109]⟩, .string ⟨#[112, 117, 98, 108, 105, 115, 104]⟩, .string ⟨#[116, 97, 107, 101]⟩, .string ⟨#[114, 101, 108, 101, 97, 115, 101]⟩, .string ⟨#[110, 111]⟩, .string ⟨#[115, 104, 117, 116]⟩, .string ⟨#[116, 105, 109, 101]⟩, .string ⟨#[99, 108, 111, 99, 107]⟩, .string ⟨#[100, 114, 97, 119]⟩, .string ⟨#[114, 101, 97, 100]⟩, .string ⟨#[101, 110, 100]⟩, .string ⟨#[115, 101, 101]⟩, .string ⟨#[99, 108, 111, 115, 101]⟩, .string ⟨#[104, 97, 108, 116]⟩, .string ⟨#[115, 112, 105, 110]⟩]
theorem evnC_get {n : Nat} (h : n < 15) : evnC[n]? = some (.string (evL.getD (n + 1) ByteArray.empty)) := by
  have h2 : n + 1 < evL.length := by rw [evL_length]; omega
  rw [show evnC = ((evL.drop 1).map Value.string).toArray from rfl, List.getElem?_toArray, List.getElem?_map, List.getElem?_drop, show 1 + n = n + 1 by omega, List.getElem?_eq_getElem h2, List.getD_eq_getElem?_getD, List.getElem?_eq_getElem h2]; rfl
set_option maxHeartbeats 4000000 in
theorem rfEvName (op : Int) (w : World) : Calls Try.prog 38 #[.int .i64 op] w fun e w' => e = .returned (.string (evnB op)) ∧ Below w.heap.size w w' := by
  have hb0 : Below w.heap.size w (w.alloc (.cells evnC 9)) := (Below.refl _ _).alloc (Nat.le_refl _) _
  have l0 := Lies.made w 9 evnC
  by_cases h1 : op < 1
  · have e1 : decide (op < 1) = true := decide_eq_true h1
    have HE : Hid (evnB op = ByteArray.empty) := by
      show _ = _
      unfold evnB
      rw [if_neg (fun h => by have := kindB_iff.1 h; omega)]
    have HB := Lib.hid hb0
    clear h1 hb0 l0
    go_enter Try.func38, Try.ntmps38
    go_wp2
    go_ret
    exact ⟨by rw [HE.out]; rfl, HB.out⟩
  have e1 : decide (op < 1) = false := decide_eq_false h1
  by_cases h2 : 15 < op
  · have e2 : decide (15 < op) = true := decide_eq_true h2
    have HE : Hid (evnB op = ByteArray.empty) := by
      show _ = _
      unfold evnB
      rw [if_neg (fun h => by have := kindB_iff.1 h; omega)]
    have HB := Lib.hid hb0
    clear h1 h2 hb0 l0
    go_enter Try.func38, Try.ntmps38
    go_wp2
    go_ret
    exact ⟨by rw [HE.out]; rfl, HB.out⟩
  have e2 : decide (15 < op) = false := decide_eq_false h2
  obtain ⟨n, rfl⟩ : ∃ n : Nat, op = (n : Int) + 1 := ⟨(op - 1).toNat, by omega⟩
  have hn : n < 15 := by omega
  have hni : (n : Int) < 15 := by omega
  have HE : Hid (evnB ((n : Int) + 1) = evL.getD (n + 1) ByteArray.empty) := by
    show _ = _
    unfold evnB
    rw [if_pos (show kindB ((n : Int) + 1) = true from kindB_iff.2 (by omega)), show ((n : Int) + 1).toNat = n + 1 by omega]
  have q0 := (l0.cell n).trans (evnC_get hn)
  have q1 := l0.lt
  have HB := Lib.hid hb0
  clear h1 h2 hb0 l0
  go_enter Try.func38, Try.ntmps38
  go_upto_region 2 with (fail)
  generalize w.alloc (.cells evnC 9) = w1 at *
  go_wp2
  go_ret
  exact ⟨by rw [HE.out]; rfl, HB.out⟩
end Go.Proofs.Ytiegmpjoiekekaa
/-
  The document's has and Right of events (layer 15).
-/
namespace Go.Proofs.Ytiegmpjoiekekaa
open Go.RowKit
set_option linter.unusedVariables false
set_option linter.unusedSimpArgs false
def hasB (s : ByteArray) (c i : Nat) : Bool := (s.data.toList.drop i).any (fun b => b.toNat == c)
theorem hasB_next {s : ByteArray} {c i : Nat} (h : i < s.size) : hasB s c i = (((s[i]'h).toNat == c) || hasB s c (i + 1)) := by
  unfold hasB
  have hl : i < s.data.toList.length := by simpa using h
  rw [List.drop_eq_getElem_cons hl, List.any_cons]
  rfl
theorem hasB_end (s : ByteArray) (c : Nat) : hasB s c s.size = false := by
  unfold hasB
  rw [List.drop_of_length_le (by simp)]; rfl
set_option maxHeartbeats 4000000 in
theorem rfHas (s : ByteArray) (c : Nat) (w : World) (hs : s.size ≤ 1000) (hc : c < 256) : Calls Try.prog 39 #[.string s, .int .u8 (c : Int)] w fun e w' => e = .returned (.bool (hasB s c 0)) ∧ w = w' := by
  go_enter Try.func39, Try.ntmps39
  go_wp2_with fail
  go_loopw [5] (fun u wr => ∃ i : Nat, i ≤ s.size ∧ u = .int .i64 i ∧ Hid (hasB s c 0 = hasB s c i) ∧ wr = w) (fun u _ => s.size - (intOf u).toNat)
  case atStart => exact ⟨0, by omega, rfl, (by show _ = _; rfl), rfl⟩
  case round =>
    obtain ⟨i, hi, rfl, hq, rfl⟩ := hrel
    by_cases hlt : i < s.size
    · have hii : (i : Int) < (s.size : Int) := by omega
      have hn := hasB_next (c := c) hlt
      obtain ⟨x, hx⟩ : ∃ x, (s[i]'hlt).toNat = x := ⟨_, rfl⟩
      rw [hx] at hn
      by_cases he : x = c
      · have HE : Hid (hasB s c 0 = true) := by
          show _ = _
          rw [hq.out, hn, he]; simp
        clear hn hq
        subst he
        have e1 : ((x : Int) == (x : Int)) = true := by simp
        go_wp2
        go_ret
        exact ⟨ret_bool (by rw [HE.out]), rfl⟩
      · have HQ : Hid (hasB s c 0 = hasB s c (i + 1)) := by
          show _ = _
          rw [hq.out, hn, beq_eq_false_iff_ne.2 he]; rfl
        have e1 : ((x : Int) == (c : Int)) = false := by rw [beq_eq_false_iff_ne]; omega
        have e2 : (x == c) = false := beq_eq_false_iff_ne.2 he
        clear hn hq
        go_wp2
        go_roundw
        case rel => exact ⟨i + 1, by omega, by go_num, HQ, trivial⟩
        case measure => simp [intOf]; omega
    · obtain rfl : i = s.size := by omega
      have HE : Hid (hasB s c 0 = false) := hq.out.trans (hasB_end s c)
      clear hq
      go_wp2
      go_ret
      exact ⟨ret_bool (by rw [HE.out]), rfl⟩
theorem has_ring (k : Int) : hasB (nmsB k) 82 0 = ringB k := by
  unfold nmsB
  rcases kinds_apart k with ⟨h1, h2, h3⟩ | ⟨h1, h2, h3⟩ | ⟨h1, h2, h3⟩ | ⟨h1, h2, h3⟩ <;> simp only [h1, h2, h3] <;> decide +kernel
theorem has_ticket (k : Int) : hasB (nmsB k) 84 0 = ticketB k := by
  unfold nmsB
  rcases kinds_apart k with ⟨h1, h2, h3⟩ | ⟨h1, h2, h3⟩ | ⟨h1, h2, h3⟩ | ⟨h1, h2, h3⟩ <;> simp only [h1, h2, h3] <;> decide +kernel
theorem has_value (k : Int) : hasB (nmsB k) 86 0 = valueB k := by
  unfold nmsB
  rcases kinds_apart k with ⟨h1, h2, h3⟩ | ⟨h1, h2, h3⟩ | ⟨h1, h2, h3⟩ | ⟨h1, h2, h3⟩ <;> simp only [h1, h2, h3] <;> decide +kernel
theorem nms_size (k : Int) : (nmsB k).size ≤ 1000 := by
  unfold nmsB
  rcases kinds_apart k with ⟨h1, h2, h3⟩ | ⟨h1, h2, h3⟩ | ⟨h1, h2, h3⟩ | ⟨h1, h2, h3⟩ <;> simp only [h1, h2, h3] <;> decide +kernel
theorem rfHasRing (k : Int) (w : World) : Calls Try.prog 39 #[.string (nmsB k), .int .u8 82] w fun e w' => e = .returned (.bool (ringB k)) ∧ w = w' := by
  have h := rfHas (nmsB k) 82 w (nms_size k) (by omega)
  rw [has_ring] at h
  exact h
theorem rfHasTicket (k : Int) (w : World) : Calls Try.prog 39 #[.string (nmsB k), .int .u8 84] w fun e w' => e = .returned (.bool (ticketB k)) ∧ w = w' := by
  have h := rfHas (nmsB k) 84 w (nms_size k) (by omega)
  rw [has_ticket] at h
  exact h
theorem rfHasValue (k : Int) (w : World) : Calls Try.prog 39 #[.string (nmsB k), .int .u8 86] w fun e w' => e = .returned (.bool (valueB k)) ∧ w = w' := by
  have h := rfHas (nmsB k) 86 w (nms_size k) (by omega)
  rw [has_value] at h
  exact h
end Go.Proofs.Ytiegmpjoiekekaa
/-
  The document's Right of events (layer 15).
-/
namespace Go.Proofs.Ytiegmpjoiekekaa
open Go.RowKit
set_option linter.unusedVariables false
set_option linter.unusedSimpArgs false
def inB (x : Ev) : Bool := decide (0 ≤ x.th ∧ x.th ≤ 7 ∧ 0 ≤ x.rg ∧ x.rg ≤ 7 ∧ x.tk < 4611686018427387904)
theorem rightE2 (x : Ev) : rightE x = (kindB x.kd && (inB x && ((ringB x.kd || x.rg == 0) && ((ticketB x.kd || x.tk == 0) && (valueB x.kd || x.vl == 0))))) := by
  obtain ⟨th, kd, rg, tk, vl⟩ := x
  unfold rightE inB
  simp only
  rw [Bool.eq_iff_iff]
  cases kindB kd <;> cases ringB kd <;> cases ticketB kd <;> cases valueB kd
  all_goals
    simp only [Bool.true_and, Bool.false_and, Bool.and_eq_true, decide_eq_true_eq, Bool.or_eq_true, if_true, if_false, Bool.false_eq_true, false_or, true_or, beq_iff_eq, false_and, and_true, true_and]
  all_goals omega
theorem evL_pos : ∀ i, i < 16 → 1 ≤ i → evL.getD i ByteArray.empty ≠ ByteArray.empty := by decide +kernel
theorem evn_cons {k : Int} (h : kindB k = true) : ∃ b r, (evnB k).toList = b :: r := by
  have h2 := kindB_iff.1 h
  have hne : evnB k ≠ ByteArray.empty := by
    unfold evnB
    rw [h, if_pos rfl]
    exact evL_pos _ (by omega) (by omega)
  cases hl : (evnB k).toList with
  | nil =>
    exfalso
    apply hne
    rw [ByteArray.toList_eq] at hl
    exact eq_of_data hl
  | cons b r => exact ⟨b, r, rfl⟩
theorem evn_no {k : Int} (h : kindB k = false) : evnB k = ⟨#[]⟩ := by unfold evnB; rw [h]; rfl
set_option maxHeartbeats 16000000 in
set_option maxRecDepth 100000 in
theorem rfRight15 (x : Ev) (w : World) : Calls Try.prog 20 #[.agg (evC x)] w fun e w' => e = .returned (.bool (rightE x)) ∧ Below w.heap.size w w' := by
  have hb0 : Below w.heap.size w (w.alloc (.cells (evC x) 42)) := (Below.refl _ _).alloc (Nat.le_refl _) _
  have l0 := Lies.made w 42 (evC x)
  have HB := Lib.hid hb0
  have HL := Lib.hid l0
  have HR := Lib.hid (rightE2 x)
  have HN := Lib.hid (fun w => rfEvName x.kd w)
  clear hb0 l0
  go_enter Try.func20, Try.ntmps20
  go_wp2_with fail
  generalize w.alloc (.cells (evC x) 42) = w1 at *
  have c0 := (HL.out.cell 0).trans (show _ = some (Value.int .i64 x.th) from rfl)
  have c1 := (HL.out.cell 1).trans (show _ = some (Value.int .i64 x.kd) from rfl)
  have c2 := (HL.out.cell 2).trans (show _ = some (Value.int .i64 x.rg) from rfl)
  have c3 := (HL.out.cell 3).trans (show _ = some (Value.int .u64 (x.tk : Int)) from rfl)
  have c4 := (HL.out.cell 4).trans (show _ = some (Value.int .u64 (x.vl : Int)) from rfl)
  have cl := HL.out.lt
  refine (rfNames x.kd _).mono ?_
  rintro e w2 ⟨rfl, rfl⟩
  go_wp2_with fail
  refine (HN.out _).mono ?_
  rintro e w3 ⟨rfl, hbm⟩
  have HB3 := Lib.hid (HB.out.trans (hbm.mono HB.out.size))
  have HL3 := Lib.hid (HL.out.below hbm HL.out.lt)
  clear hbm c0 c1 c2 c3 c4 cl HN HB HL
  have c0 := (HL3.out.cell 0).trans (show _ = some (Value.int .i64 x.th) from rfl)
  have c1 := (HL3.out.cell 1).trans (show _ = some (Value.int .i64 x.kd) from rfl)
  have c2 := (HL3.out.cell 2).trans (show _ = some (Value.int .i64 x.rg) from rfl)
  have c3 := (HL3.out.cell 3).trans (show _ = some (Value.int .u64 (x.tk : Int)) from rfl)
  have c4 := (HL3.out.cell 4).trans (show _ = some (Value.int .u64 (x.vl : Int)) from rfl)
  have cl := HL3.out.lt
  cases hk : kindB x.kd with
  | false =>
    have HE : Hid (rightE x = false) := by
      show _ = _
      rw [HR.out, hk]; rfl
    rw [evn_no hk]
    clear hk HR
    go_wp2
    go_ret
    exact ⟨ret_bool (by rw [HE.out]), HB3.out⟩
  | true =>
  obtain ⟨b0, r0, hcons⟩ := evn_cons hk
  rw [hk] at HR
  clear hk
  generalize evnB x.kd = nm at *
  by_cases hin : 0 ≤ x.th ∧ x.th ≤ 7 ∧ 0 ≤ x.rg ∧ x.rg ≤ 7 ∧ x.tk < 4611686018427387904
  case neg =>
    have HE : Hid (rightE x = false) := by
      show _ = _
      rw [HR.out]
      unfold inB
      rw [decide_eq_false hin]; rfl
    clear HR
    have hcs : (x.th < 0) ∨ (¬ x.th < 0 ∧ 7 < x.th) ∨ (¬ x.th < 0 ∧ ¬ 7 < x.th ∧ x.rg < 0) ∨ (¬ x.th < 0 ∧ ¬ 7 < x.th ∧ ¬ x.rg < 0 ∧ 7 < x.rg) ∨ (¬ x.th < 0 ∧ ¬ 7 < x.th ∧ ¬ x.rg < 0 ∧ ¬ 7 < x.rg ∧ 4611686018427387904 ≤ x.tk) := by omega
    clear hin
    rcases hcs with q1 | ⟨q1, q2⟩ | ⟨q1, q2, q3⟩ | ⟨q1, q2, q3, q4⟩ | ⟨q1, q2, q3, q4, q5⟩
    · have g1 : decide (x.th < 0) = true := decide_eq_true q1
      go_wp2
      go_ret
      exact ⟨ret_bool (by rw [HE.out]), HB3.out⟩
    · have g1 : decide (x.th < 0) = false := decide_eq_false q1
      have g2 : decide (7 < x.th) = true := decide_eq_true q2
      go_wp2
      go_ret
      exact ⟨ret_bool (by rw [HE.out]), HB3.out⟩
    · have g1 : decide (x.th < 0) = false := decide_eq_false q1
      have g2 : decide (7 < x.th) = false := decide_eq_false q2
      have g3 : decide (x.rg < 0) = true := decide_eq_true q3
      go_wp2
      go_ret
      exact ⟨ret_bool (by rw [HE.out]), HB3.out⟩
    · have g1 : decide (x.th < 0) = false := decide_eq_false q1
      have g2 : decide (7 < x.th) = false := decide_eq_false q2
      have g3 : decide (x.rg < 0) = false := decide_eq_false q3
      have g4 : decide (7 < x.rg) = true := decide_eq_true q4
      go_wp2
      go_ret
      exact ⟨ret_bool (by rw [HE.out]), HB3.out⟩
    · have g1 : decide (x.th < 0) = false := decide_eq_false q1
      have g2 : decide (7 < x.th) = false := decide_eq_false q2
      have g3 : decide (x.rg < 0) = false := decide_eq_false q3
      have g4 : decide (7 < x.rg) = false := decide_eq_false q4
      have g5 : decide ((4611686018427387904 : Int) ≤ (x.tk : Int)) = true := decide_eq_true (by omega)
      have g6 : decide (4611686018427387904 ≤ x.tk) = true := decide_eq_true q5
      go_wp2
      go_ret
      exact ⟨ret_bool (by rw [HE.out]), HB3.out⟩
  have g1 : decide (x.th < 0) = false := decide_eq_false (by omega)
  have g2 : decide (7 < x.th) = false := decide_eq_false (by omega)
  have g3 : decide (x.rg < 0) = false := decide_eq_false (by omega)
  have g4 : decide (7 < x.rg) = false := decide_eq_false (by omega)
  have g5 : decide ((4611686018427387904 : Int) ≤ (x.tk : Int)) = false := decide_eq_false (by omega)
  have g6 : decide (4611686018427387904 ≤ x.tk) = false := decide_eq_false (by omega)
  have hi : inB x = true := decide_eq_true hin
  rw [hi] at HR
  simp only [Bool.true_and] at HR
  clear hi hin
  have H0 := Lib.hid (rfHasRing x.kd)
  have H1 := Lib.hid (rfHasTicket x.kd)
  have H2 := Lib.hid (rfHasValue x.kd)
  generalize nmsB x.kd = ns at *
  generalize ringB x.kd = rb at *
  generalize ticketB x.kd = tb at *
  generalize valueB x.kd = vb at *
  go_wp2_with fail
  refine (H0.out _).mono ?_
  rintro e w4 ⟨rfl, rfl⟩
  cases rb with
  | true =>
    go_wp2_with fail
    refine (H1.out _).mono ?_
    rintro e w4 ⟨rfl, rfl⟩
    cases tb with
    | true =>
      go_wp2_with fail
      refine (H2.out _).mono ?_
      rintro e w4 ⟨rfl, rfl⟩
      cases vb with
      | true =>
        have HE := Lib.hid (HR.out)
        go_wp2
        go_ret
        exact ⟨ret_bool (by rw [HR.out]; simp [*]), HB3.out⟩
      | false =>
        by_cases z2 : x.vl = 0
        · have y2 : ((x.vl : Int) == 0) = true := by rw [beq_iff_eq]; omega
          have u2 : (x.vl == 0) = true := by rw [beq_iff_eq]; exact z2
          have HE := Lib.hid (HR.out)
          go_wp2
          go_ret
          exact ⟨ret_bool (by rw [HR.out]; simp [*]), HB3.out⟩
        · have y2 : ((x.vl : Int) == 0) = false := by rw [beq_eq_false_iff_ne]; omega
          have u2 : (x.vl == 0) = false := by rw [beq_eq_false_iff_ne]; exact z2
          go_wp2
          go_ret
          exact ⟨ret_bool (by rw [HR.out]; simp [*]), HB3.out⟩
    | false =>
      by_cases z1 : x.tk = 0
      · have y1 : ((x.tk : Int) == 0) = true := by rw [beq_iff_eq]; omega
        have u1 : (x.tk == 0) = true := by rw [beq_iff_eq]; exact z1
        go_wp2_with fail
        refine (H2.out _).mono ?_
        rintro e w4 ⟨rfl, rfl⟩
        cases vb with
        | true =>
          have HE := Lib.hid (HR.out)
          go_wp2
          go_ret
          exact ⟨ret_bool (by rw [HR.out]; simp [*]), HB3.out⟩
        | false =>
          by_cases z2 : x.vl = 0
          · have y2 : ((x.vl : Int) == 0) = true := by rw [beq_iff_eq]; omega
            have u2 : (x.vl == 0) = true := by rw [beq_iff_eq]; exact z2
            have HE := Lib.hid (HR.out)
            go_wp2
            go_ret
            exact ⟨ret_bool (by rw [HR.out]; simp [*]), HB3.out⟩
          · have y2 : ((x.vl : Int) == 0) = false := by rw [beq_eq_false_iff_ne]; omega
            have u2 : (x.vl == 0) = false := by rw [beq_eq_false_iff_ne]; exact z2
            go_wp2
            go_ret
            exact ⟨ret_bool (by rw [HR.out]; simp [*]), HB3.out⟩
      · have y1 : ((x.tk : Int) == 0) = false := by rw [beq_eq_false_iff_ne]; omega
        have u1 : (x.tk == 0) = false := by rw [beq_eq_false_iff_ne]; exact z1
        go_wp2
        go_ret
        exact ⟨ret_bool (by rw [HR.out]; simp [*]), HB3.out⟩
  | false =>
    by_cases z0 : x.rg = 0
    · have y0 : (x.rg == 0) = true := by rw [beq_iff_eq]; omega
      go_wp2_with fail
      refine (H1.out _).mono ?_
      rintro e w4 ⟨rfl, rfl⟩
      cases tb with
      | true =>
        go_wp2_with fail
        refine (H2.out _).mono ?_
        rintro e w4 ⟨rfl, rfl⟩
        cases vb with
        | true =>
          have HE := Lib.hid (HR.out)
          go_wp2
          go_ret
          exact ⟨ret_bool (by rw [HR.out]; simp [*]), HB3.out⟩
        | false =>
          by_cases z2 : x.vl = 0
          · have y2 : ((x.vl : Int) == 0) = true := by rw [beq_iff_eq]; omega
            have u2 : (x.vl == 0) = true := by rw [beq_iff_eq]; exact z2
            have HE := Lib.hid (HR.out)
            go_wp2
            go_ret
            exact ⟨ret_bool (by rw [HR.out]; simp [*]), HB3.out⟩
          · have y2 : ((x.vl : Int) == 0) = false := by rw [beq_eq_false_iff_ne]; omega
            have u2 : (x.vl == 0) = false := by rw [beq_eq_false_iff_ne]; exact z2
            go_wp2
            go_ret
            exact ⟨ret_bool (by rw [HR.out]; simp [*]), HB3.out⟩
      | false =>
        by_cases z1 : x.tk = 0
        · have y1 : ((x.tk : Int) == 0) = true := by rw [beq_iff_eq]; omega
          have u1 : (x.tk == 0) = true := by rw [beq_iff_eq]; exact z1
          go_wp2_with fail
          refine (H2.out _).mono ?_
          rintro e w4 ⟨rfl, rfl⟩
          cases vb with
          | true =>
            have HE := Lib.hid (HR.out)
            go_wp2
            go_ret
            exact ⟨ret_bool (by rw [HR.out]; simp [*]), HB3.out⟩
          | false =>
            by_cases z2 : x.vl = 0
            · have y2 : ((x.vl : Int) == 0) = true := by rw [beq_iff_eq]; omega
              have u2 : (x.vl == 0) = true := by rw [beq_iff_eq]; exact z2
              have HE := Lib.hid (HR.out)
              go_wp2
              go_ret
              exact ⟨ret_bool (by rw [HR.out]; simp [*]), HB3.out⟩
            · have y2 : ((x.vl : Int) == 0) = false := by rw [beq_eq_false_iff_ne]; omega
              have u2 : (x.vl == 0) = false := by rw [beq_eq_false_iff_ne]; exact z2
              go_wp2
              go_ret
              exact ⟨ret_bool (by rw [HR.out]; simp [*]), HB3.out⟩
        · have y1 : ((x.tk : Int) == 0) = false := by rw [beq_eq_false_iff_ne]; omega
          have u1 : (x.tk == 0) = false := by rw [beq_eq_false_iff_ne]; exact z1
          go_wp2
          go_ret
          exact ⟨ret_bool (by rw [HR.out]; simp [*]), HB3.out⟩
    · have y0 : (x.rg == 0) = false := by rw [beq_eq_false_iff_ne]; omega
      go_wp2
      go_ret
      exact ⟨ret_bool (by rw [HR.out]; simp [*]), HB3.out⟩
end Go.Proofs.Ytiegmpjoiekekaa
