/-
  EventParts: its walk.
-/
import Derived.Test.YtndcnflboikodaaDoorLaw1
namespace Go.Proofs.YtndcnflboikodaaDoor
open Go.RowKit
set_option linter.unusedVariables false
set_option linter.unusedSimpArgs false
/-- How many of the first k events are a thread's below T. -/
def inE (l : List Ev) (T : Nat) : Nat → Nat
  | 0 => 0
  | k + 1 => inE l T k + match l[k]? with
    | some x => if 0 ≤ x.th ∧ x.th < (T : Int) then 1 else 0
    | none => 0
theorem inE_zero (l : List Ev) : ∀ k, inE l 0 k = 0
  | 0 => rfl
  | k + 1 => by
    unfold inE
    rw [inE_zero l k]
    split
    · rw [if_neg (by omega)]
    · rfl
theorem inE_succ (l : List Ev) (T : Nat) : ∀ k, inE l (T + 1) k = inE l T k + (ofE l (T : Int) k).length
  | 0 => rfl
  | k + 1 => by
    have ih := inE_succ l T k
    unfold inE ofE
    rw [ih]
    cases hl : l[k]? with
    | none => simp
    | some x =>
      simp only
      by_cases h1 : x.th = (T : Int)
      · rw [if_pos h1, if_pos (by omega), if_neg (by omega), List.length_append]; simp; omega
      · rw [if_neg h1]
        by_cases h2 : 0 ≤ x.th ∧ x.th < (T : Int)
        · rw [if_pos h2, if_pos (by omega)]; omega
        · rw [if_neg h2, if_neg (by omega)]; omega
theorem inE_le (l : List Ev) (T : Nat) : ∀ k, inE l T k ≤ k
  | 0 => Nat.le_refl _
  | k + 1 => by
    have := inE_le l T k
    unfold inE
    split
    · split <;> omega
    · omega
theorem ofE_mem (l : List Ev) (t : Int) : ∀ (K i a : Nat), (ofE l t K)[i]? = some a → a < K ∧ ∃ x, l[a]? = some x ∧ x.th = t
  | 0, i, a, h => by simp [ofE] at h
  | K + 1, i, a, h => by
    unfold ofE at h
    cases hl : l[K]? with
    | none =>
      rw [hl] at h
      obtain ⟨h1, h2⟩ := ofE_mem l t K i a h
      exact ⟨by omega, h2⟩
    | some x =>
      rw [hl] at h
      simp only at h
      split at h
      · rename_i ht
        rw [List.getElem?_append] at h
        split at h
        · obtain ⟨h1, h2⟩ := ofE_mem l t K i a h
          exact ⟨by omega, h2⟩
        · have : a = K := by
            cases hj : i - (ofE l t K).length with
            | zero => rw [hj] at h; simp at h; exact h.symm
            | succ j => rw [hj] at h; simp at h
          subst this
          exact ⟨by omega, x, hl, ht⟩
      · obtain ⟨h1, h2⟩ := ofE_mem l t K i a h
        exact ⟨by omega, h2⟩
theorem ofE_rise (l : List Ev) (t : Int) : ∀ (K i a b : Nat), (ofE l t K)[i]? = some a → (ofE l t K)[i + 1]? = some b → a < b
  | 0, i, a, b, h, _ => by simp [ofE] at h
  | K + 1, i, a, b, h, h2 => by
    unfold ofE at h h2
    cases hl : l[K]? with
    | none => rw [hl] at h h2; exact ofE_rise l t K i a b h h2
    | some x =>
      rw [hl] at h h2
      simp only at h h2
      split at h
      · rename_i ht
        rw [if_pos ht] at h2
        rw [List.getElem?_append] at h h2
        split at h2
        · rename_i hi
          rw [if_pos (by omega)] at h
          exact ofE_rise l t K i a b h h2
        · rename_i hi
          have hb : b = K := by
            cases hj : i + 1 - (ofE l t K).length with
            | zero => rw [hj] at h2; simp at h2; exact h2.symm
            | succ j => rw [hj] at h2; simp at h2
          split at h
          · have := ofE_mem l t K i a h
            omega
          · rename_i hi2
            have : i + 1 - (ofE l t K).length = (i - (ofE l t K).length) + 1 := by omega
            rw [this] at h2
            simp at h2
      · rename_i ht
        rw [if_neg ht] at h2
        exact ofE_rise l t K i a b h h2
set_option maxHeartbeats 16000000 in
set_option maxRecDepth 100000 in
theorem parts_walk (a : Option Addr) (len cap : Nat) (z : List Ev) (W : World) (h : EvArg W a len cap z) (hN : EvnAt W) :
    Calls Tryd.prog 8 #[.slice a len cap] W fun e w' => e = .returned (.bool true) ∧ Below W.heap.size W w' := by
  obtain ⟨rfl, hz, hok⟩ := h
  obtain ⟨A', c', e', h1, h2, _⟩ := hz.form
  simp only [Value.slice.injEq, true_and] at e'
  obtain ⟨rfl, rfl⟩ := e'
  unfold maxLen at h2
  have hgl := hN.lt
  have HEN := Lib.hid (fun (q : World) (hq : Below W.heap.size W q) => hN.later hq hgl)
  have HZ := Lib.hid (fun (q : World) (hq : Below W.heap.size W q) => SeqS.later hz hq)
  have HB := Lib.hid (Below.refl W.heap.size W)
  clear hz hok hN
  by_cases hl : 200 < z.length
  · have e1 : decide (200 < z.length) = true := decide_eq_true hl
    have e2 : decide ((200 : Int) < (z.length : Int)) = true := decide_eq_true (by omega)
    go_enter Tryd.func8, Tryd.ntmps8
    go_wp2_with fail
    refine (awake_any _ (HEN.out _ HB.out)).mono ?_
    rintro e wn ⟨rfl, hbm⟩
    replace HB := Lib.hid (HB.out.trans (hbm.mono HB.out.size))
    clear hbm
    go_wp2_with fail
    refine (awake_any _ (HEN.out _ HB.out)).mono ?_
    rintro e wn ⟨rfl, hbm⟩
    replace HB := Lib.hid (HB.out.trans (hbm.mono HB.out.size))
    clear hbm
    go_wp2
    go_ret
    exact ⟨rfl, HB.out⟩
  have e1 : decide (200 < z.length) = false := decide_eq_false hl
  have e2 : decide ((200 : Int) < (z.length : Int)) = false := decide_eq_false (by omega)
  have HI0 : Hid (inE z 0 z.length = 0) := inE_zero _ _
  go_enter Tryd.func8, Tryd.ntmps8
  go_wp2_with fail
  refine (awake_any _ (HEN.out _ HB.out)).mono ?_
  rintro e wn ⟨rfl, hbm⟩
  replace HB := Lib.hid (HB.out.trans (hbm.mono HB.out.size))
  clear hbm
  go_wp2_with fail
  go_loopw [3, 19] (fun n u wr => ∃ T : Nat, T ≤ 8 ∧ u = .int .i64 T ∧ n = .int .i64 (inE z T z.length : Nat) ∧ Hid (Below W.heap.size W wr)) (fun _ u _ => 8 - (intOf u).toNat)
  case atStart => exact ⟨0, by omega, rfl, by rw [HI0.out]; rfl, HB⟩
  case round =>
    clear HB HI0
    obtain ⟨T, hT, rfl, rfl, HB⟩ := hrel
    have hin := inE_le z T z.length
    by_cases hlt : T < 8
    · have hTi : (T : Int) < 8 := by omega
      have HSU := Lib.hid (inE_succ z T z.length)
      have HME := Lib.hid (ofE_mem z (T : Int) z.length)
      have HRI := Lib.hid (ofE_rise z (T : Int) z.length)
      have HOF := Lib.hid (fun w h => of15 z (T : Int) a cap w h (by omega))
      have hle := ofE_le z (T : Int) z.length
      generalize ofE z (T : Int) z.length = L at *
      go_wp2_with fail
      refine (HOF.out _ (HZ.out _ HB.out)).mono ?_
      rintro e wq ⟨v, rfl, ho, hbm⟩
      have HLR := Lib.hid (SeqAt.of_owns ho)
      obtain ⟨A9, c9, rfl⟩ := own_sliceD ho
      replace HB := Lib.hid (HB.out.trans (hbm.mono HB.out.size))
      clear hbm HOF ho
      have hil : (intsE L).length = L.length := by simp [intsE]
      have HIL := Lib.hid hil
      clear hil
      go_wp2_with fail
      go_loopw [27] (fun u wr2 => ∃ i : Nat, i ≤ L.length ∧ u = .int .i64 i ∧ wr2 = wq) (fun u _ => L.length - (intOf u).toNat)
      case atStart => exact ⟨0, by omega, rfl, rfl⟩
      case round =>
        obtain ⟨i, hi, rfl, rfl⟩ := hrel
        by_cases hil : i < L.length
        · have hii : (i : Int) < (L.length : Int) := by omega
          obtain ⟨k, hk⟩ : ∃ k, L[i]? = some k := ⟨_, List.getElem?_eq_getElem hil⟩
          obtain ⟨hkl, x, hx, hxt⟩ := HME.out i k hk
          have hki : (k : Int) < (z.length : Int) := by omega
          have hg0 : (intsE L)[i]? = some (.int .i64 (k : Int)) := by unfold intsE; rw [List.getElem?_map, hk]; rfl
          obtain ⟨b, off, rfl, hbl, g0⟩ := HLR.out.get (Below.refl _ _) hg0
          obtain ⟨b2, off2, rfl, hb2, hg⟩ := EvsAt.at_ (HZ.out _ HB.out) hx
          have g1 := hg 0 _ (by decide) rfl
          rw [Nat.add_zero, hxt] at g1
          have e3 : ((z.length : Int) ≤ (k : Int)) = False := by simp; omega
          have e4 : decide ((z.length : Int) ≤ (k : Int)) = false := decide_eq_false (by omega)
          have e5 : decide (z.length ≤ k) = false := decide_eq_false (by omega)
          cases i with
          | zero =>
            rw [Nat.add_zero] at g0
            clear hg hg0 hx hxt
            go_wp2
            go_roundw
            case rel => exact ⟨1, by omega, by go_num, trivial⟩
            case measure => simp [intOf]; omega
          | succ j =>
            obtain ⟨k0, hk0⟩ : ∃ k0, L[j]? = some k0 := ⟨_, List.getElem?_eq_getElem (by omega)⟩
            have hlt0 := HRI.out j k0 k hk0 hk
            have hg3 : (intsE L)[j]? = some (.int .i64 (k0 : Int)) := by unfold intsE; rw [List.getElem?_map, hk0]; rfl
            obtain ⟨b', off', e', hbl', g3⟩ := HLR.out.get (Below.refl _ _) hg3
            simp only [Option.some.injEq, Addr.mk.injEq, and_true] at e'
            obtain ⟨rfl, rfl⟩ := e'
            have e6 : decide ((k : Int) ≤ (k0 : Int)) = false := decide_eq_false (by omega)
            have e7 : decide (k ≤ k0) = false := decide_eq_false (by omega)
            have hjj : ((j + 1 : Nat) : Int) = (j : Int) + 1 := by omega
            clear hg hg0 hx hxt hk hk0 hg3
            go_wp2
            go_roundw
            case rel => exact ⟨j + 1 + 1, by omega, by go_num, trivial⟩
            case measure => simp [intOf]; omega
        · obtain rfl : i = L.length := by omega
          go_wp2
          go_roundw
          case rel => exact ⟨T + 1, by omega, by go_num, by rw [HSU.out]; go_num, HB⟩
          case measure => simp [intOf]; omega
    · obtain rfl : T = 8 := by omega
      clear hlt
      go_wp2_with fail
      go_loopw [8, 70] (fun n u wr2 => ∃ k : Nat, k ≤ z.length ∧ u = .int .i64 k ∧ n = .int .i64 (inE z 8 k : Nat) ∧ Hid (Below W.heap.size W wr2)) (fun _ u _ => z.length - (intOf u).toNat)
      case atStart => exact ⟨0, by omega, rfl, rfl, HB⟩
      case round =>
        clear HB
        obtain ⟨k, hk, rfl, rfl, HB⟩ := hrel
        have hin2 := inE_le z 8 k
        by_cases hlt : k < z.length
        · have hki : (k : Int) < (z.length : Int) := by omega
          obtain ⟨x, hx⟩ : ∃ x, z[k]? = some x := ⟨_, List.getElem?_eq_getElem hlt⟩
          have HST : Hid (inE z 8 (k + 1) = inE z 8 k + if 0 ≤ x.th ∧ x.th < (8 : Int) then 1 else 0) := by
            show inE z 8 (k + 1) = _
            conv => lhs; unfold inE
            rw [hx]; rfl
          obtain ⟨b, off, rfl, hbl, hg⟩ := EvsAt.at_ (HZ.out _ HB.out) hx
          have g0 := hg 0 _ (by decide) rfl
          have g1 := hg 1 _ (by decide) rfl
          have g2 := hg 2 _ (by decide) rfl
          have g3 := hg 3 _ (by decide) rfl
          have g4 := hg 4 _ (by decide) rfl
          rw [Nat.add_zero] at g0
          have hbx : Below wr.heap.size wr (wr.alloc (.cells (evC x) 24)) := (Below.refl _ _).alloc (Nat.le_refl _) _
          have HB2 := Lib.hid (HB.out.trans (hbx.mono HB.out.size))
          generalize inE z 8 k = m at *
          clear hg hx hbx HB
          by_cases h0 : 0 ≤ x.th
          · have e3 : decide (0 ≤ x.th) = true := decide_eq_true h0
            by_cases h8 : x.th < 8
            · have e4 : decide (x.th < 8) = true := decide_eq_true h8
              rw [if_pos ⟨h0, h8⟩] at HST
              clear h0 h8
              go_wp2
              go_roundw
              case rel => exact ⟨k + 1, by omega, by go_num, by rw [HST.out]; go_num, HB2⟩
              case measure => simp [intOf]; omega
            · have e4 : decide (x.th < 8) = false := decide_eq_false h8
              rw [if_neg (fun h => h8 h.2)] at HST
              clear h0 h8
              go_wp2
              go_roundw
              case rel => exact ⟨k + 1, by omega, by go_num, by rw [HST.out]; rfl, HB2⟩
              case measure => simp [intOf]; omega
          · have e3 : decide (0 ≤ x.th) = false := decide_eq_false h0
            rw [if_neg (fun h => h0 h.1)] at HST
            clear h0
            go_wp2
            go_roundw
            case rel => exact ⟨k + 1, by omega, by go_num, by rw [HST.out]; rfl, HB2⟩
            case measure => simp [intOf]; omega
        · obtain rfl : k = z.length := by omega
          go_wp2
          go_ret
          exact ⟨ret_bool (by simp), HB.out⟩
end Go.Proofs.YtndcnflboikodaaDoor
