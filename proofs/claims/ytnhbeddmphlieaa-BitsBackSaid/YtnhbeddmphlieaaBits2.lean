import Derived.Test.YtnhbeddmphlieaaBits
namespace Go.Proofs.Ytnhbeddmphlieaa
open Go.RowKit
set_option linter.unusedVariables false
set_option linter.unusedSimpArgs false
def countsB (c : Int) : Bool := decide (0 ≤ c ∧ c ≤ 64)
theorem bitsCounts (c : Int) (w : World) : Calls Try.prog 20 #[.int .i64 c] w fun e w' => e = .returned (.bool (countsB c)) ∧ w = w' := by
  by_cases h0 : 0 ≤ c
  · by_cases h1 : c ≤ 64
    · have hc : countsB c = true := decide_eq_true ⟨h0, h1⟩
      have e0 : decide ((0 : Int) ≤ c) = true := by simpa using h0
      have e1 : decide (c ≤ (64 : Int)) = true := by simpa using h1
      rw [hc]
      clear hc
      go_enter Try.func20, Try.ntmps20
      go_wp2
      go_ret
      exact ⟨rfl, rfl⟩
    · have hc : countsB c = false := decide_eq_false (fun h => h1 h.2)
      have e0 : decide ((0 : Int) ≤ c) = true := by simpa using h0
      have e1 : decide (c ≤ (64 : Int)) = false := by simpa using h1
      rw [hc]
      clear hc
      go_enter Try.func20, Try.ntmps20
      go_wp2
      go_ret
      exact ⟨rfl, rfl⟩
  · have hc : countsB c = false := decide_eq_false (fun h => h0 h.1)
    have e0 : decide ((0 : Int) ≤ c) = false := by simpa using h0
    rw [hc]
    clear hc
    go_enter Try.func20, Try.ntmps20
    go_wp2
    go_ret
    exact ⟨rfl, rfl⟩
theorem countsB_yes {c : Int} (h0 : 0 ≤ c) (h1 : c ≤ 64) : countsB c = true := decide_eq_true ⟨h0, h1⟩
theorem countsB_no {c : Int} (h : c < 0 ∨ 64 < c) : countsB c = false := decide_eq_false (by omega)
section
variable {w w' : World} {B g : Nat} {l : List Bool}
theorem BwAt.kept {S : Nat → Prop} (h : BwAt w B g l) (k : Kept S w w') (h1 : ¬ S g) (h2 : ∀ r, B ≤ r → r < w.heap.size → ¬ S r) : BwAt w' B g l := by
  obtain ⟨v, hl, ho⟩ := h
  exact ⟨v, hl.kept k h1, owns_kept ho k (fun r cur hv hl => h2 r (ho.lt r hv).1 hl.lt)⟩
theorem BwAt.later (h : BwAt w B g l) (hb : Below w.heap.size w w') : BwAt w' B g l := h.kept (Kept.of_below hb) (fun hf => hf) (fun _ _ _ hf => hf)
theorem BwAt.lt (h : BwAt w B g l) : g < w.heap.size := by obtain ⟨v, hl, _⟩ := h; exact hl.lt
end
set_option maxHeartbeats 1000000 in
theorem bitsPutNo (g n : Nat) (c : Int) (w : World) (h : c < 0 ∨ 64 < c) :
    Calls Try.prog 9 #[.pointer (some ⟨g, 0, none⟩), .int .u64 n, .int .i64 c] w fun e w' => e = .returned (.int .i64 1) ∧ w = w' := by
  have hc := bitsCounts c w
  rw [countsB_no h] at hc
  have HC := Lib.hid hc
  clear hc h
  go_enter Try.func9, Try.ntmps9
  go_wp2_with fail
  refine HC.out.mono ?_
  rintro e w' ⟨rfl, rfl⟩
  go_wp2
  go_ret
  exact ⟨rfl, rfl⟩
set_option maxHeartbeats 1000000 in
set_option maxRecDepth 100000 in
theorem bitsPut (B g n c : Nat) (l : List Bool) (w : World) (h : BwAt w B g l) (hB : B ≤ w.heap.size) (hl : l.length + c ≤ 1099511627776) (hn : n < 18446744073709551616) (hc : c ≤ 64) :
    Calls Try.prog 9 #[.pointer (some ⟨g, 0, none⟩), .int .u64 n, .int .i64 c] w fun e w' => e = .returned (.int .i64 0) ∧ BwAt w' B g (l ++ bitsN n c) ∧ Kept (bwRows w B g) w w' := by
  have hcc := bitsCounts c w
  rw [countsB_yes (by omega) (by omega)] at hcc
  have HC := Lib.hid hcc
  have H := Lib.hid h
  have hn2 : n ≤ 18446744073709551615 := by omega
  clear hcc h hn
  go_enter Try.func9, Try.ntmps9
  go_wp2_with fail
  refine HC.out.mono ?_
  rintro e w' ⟨rfl, rfl⟩
  go_wp2
  go_loopw [7] (fun t wr => ∃ (j : Nat) (d : List Bool), j ≤ c ∧ d.length + j = c ∧ t = .int .i64 ((j : Int) - 1) ∧ BwAt wr B g (l ++ d) ∧ Hid (d ++ bitsN n j = bitsN n c) ∧ Kept (bwRows w B g) w wr)
    (fun t _ => (intOf t + 1).toNat)
  case atStart => exact ⟨c, [], by omega, by simp, rfl, by simpa using H.out, rfl, Kept.refl _ _⟩
  case round =>
    obtain ⟨j, d, hj, hdl, rfl, hw, hd, hk⟩ := hrel
    rcases Nat.eq_zero_or_pos j with h0 | h0
    · subst h0
      have hd2 : d = bitsN n c := by have := hd.out; simpa [bitsN] using this
      rw [hd2] at hw
      have HW := Lib.hid hw
      clear hd hd2 hw
      go_wp2
      go_ret
      exact ⟨rfl, HW.out, hk⟩
    · obtain ⟨m, rfl⟩ : ∃ m, j = m + 1 := ⟨j - 1, by omega⟩
      have hj1 : ((m + 1 : Nat) : Int) - 1 = (m : Int) := by omega
      have hj2 : (m : Int) + 1 - 1 = (m : Int) := by omega
      have hbk := hk.size
      have hB2 : B ≤ wr.heap.size := by omega
      have hbit := bitsBit B g (l ++ d) (decide (n / 2 ^ m % 2 = 1)) wr hw hB2 (by rw [List.length_append]; omega)
      have hd' : Hid ((d ++ [decide (n / 2 ^ m % 2 = 1)]) ++ bitsN n m = bitsN n c) := by
        show _ = _
        rw [← hd.out]; simp [bitsN]
      have hbv : bits .and .u64 ((n : Int) / 2 ^ m) 1 % 256 = ((decide (n / 2 ^ m % 2 = 1)).toNat : Int) := by
        have e2 : (n : Int) / 2 ^ m = ((n / 2 ^ m : Nat) : Int) := by rw [Int.natCast_ediv, Int.natCast_pow]; rfl
        have hlt : n / 2 ^ m ≤ n := Nat.div_le_self _ _
        have := u64_and_nat (n / 2 ^ m) 1 (by omega) (by decide)
        rw [e2]
        rw [Nat.and_one_is_mod] at this
        rw [show (1 : Int) = ((1 : Nat) : Int) from rfl, this]
        by_cases h1 : n / 2 ^ m % 2 = 1
        · rw [decide_eq_true h1, h1]; rfl
        · rw [decide_eq_false h1, show n / 2 ^ m % 2 = 0 by omega]; rfl
      have HBV := Lib.hid hbv
      have HBIT := Lib.hid hbit
      have hdl2 : (d ++ [decide (n / 2 ^ m % 2 = 1)]).length + m = c := by rw [List.length_append]; simp; omega
      have hm0 : (0 : Int) ≤ (m : Int) := by omega
      rw [hj1]
      clear hbv hbit hw hd hj1
      go_wp2_with fail
      rw [HBV.out]
      refine HBIT.out.mono ?_
      rintro e w2 ⟨rfl, hw2, hk2⟩
      rw [List.append_assoc] at hw2
      have HW2 := Lib.hid hw2
      have hk3 := bw_trans hk hk2
      clear hw2 hk2 HBIT HBV
      go_wp2
      go_roundw
      case rel => exact ⟨m, _, by omega, hdl2, by go_num, HW2.out, hd', hk3⟩
      case measure => simp [intOf]
theorem bitsLen (B g : Nat) (l : List Bool) (w : World) (h : BwAt w B g l) : Calls Try.prog 11 #[.pointer (some ⟨g, 0, none⟩)] w fun e w' => e = .returned (.int .i64 l.length) ∧ w = w' := by
  obtain ⟨v, hl, _⟩ := h
  have c1 := hl.cell 1
  simp at c1
  clear hl
  go_enter Try.func11, Try.ntmps11
  go_wp2
  go_ret
  exact ⟨rfl, rfl⟩
theorem bitsString (B g : Nat) (l : List Bool) (w : World) (h : BwAt w B g l) : Calls Try.prog 12 #[.pointer (some ⟨g, 0, none⟩)] w fun e w' => e = .returned (.string (textB (packB l))) ∧ w = w' := by
  obtain ⟨v, hl, ho⟩ := h
  have c0 := hl.cell 0
  simp at c0
  have hcv := convert_owned w B v (packB l) _ rfl ho
  clear hl ho
  go_enter Try.func12, Try.ntmps12
  go_wp2
  go_ret
  exact ⟨rfl, rfl⟩
end Go.Proofs.Ytnhbeddmphlieaa
