/-
  What the package octet's functions do, each for every input.
-/
import Derived.Test.YtebgcehcnenjiaaDoorRows
import Derived.Test.YtebgcehcnenjiaaDoorKit
import Derived.IntWalk
namespace Go.Proofs.YtebgcehcnenjiaaDoor
open Go.RowKit
set_option linter.unusedVariables false
set_option linter.unusedSimpArgs false

/-- A reader of s that stands at 'at'. -/
def RdAt (w : World) (g : Nat) (s : ByteArray) (i : Nat) : Prop := Lies w g 88 #[.string s, .int .i64 i] ∧ i ≤ s.size ∧ s.size ≤ maxLen

theorem octetNew (s : ByteArray) (w : World) (hs : s.size ≤ maxLen) : Calls Tryd.prog 43 #[.string s] w fun e w' =>
    e = .returned (.pointer (some ⟨w.heap.size, 0, none⟩)) ∧ RdAt w' w.heap.size s 0 ∧ Kept noRow w w' := by
  go_enter Tryd.func43, Tryd.ntmps43
  go_wp2
  go_ret
  exact ⟨rfl, ⟨Lies.made _ _ _, Nat.zero_le _, hs⟩, Kept.alloc _ _ _⟩

theorem octetLeft (g : Nat) (s : ByteArray) (i : Nat) (w : World) (h : RdAt w g s i) : Calls Tryd.prog 45 #[.pointer (some ⟨g, 0, none⟩)] w fun e w' =>
    e = .returned (.int .i64 ((s.size : Int) - i)) ∧ ∃ n, w' = w.drewN n := by
  obtain ⟨h1, h2, h3⟩ := h
  have c0 : w.cell? ⟨g, 0, none⟩ = some (.string s) := h1.cell 0
  have c1 : w.cell? ⟨g, 1, none⟩ = some (.int .i64 i) := h1.cell 1
  unfold maxLen at h3
  clear h1
  go_enter Tryd.func45, Tryd.ntmps45
  go_wp2_with fail
  go_quiet (fail)
  go_wp2
  go_ret
  exact ⟨rfl, _, rfl⟩

theorem ret_two {a b c d : Value} (h : a = b) (k : c = d) : Ending.returned (.tuple #[a, c]) = .returned (.tuple #[b, d]) := by rw [h, k]
theorem ret_text {a b : ByteArray} (h : a = b) : Ending.returned (.string a) = .returned (.string b) := by rw [h]
theorem v_int {k : IntKind} {a b : Int} (h : a = b) : Value.int k a = .int k b := by rw [h]
theorem v_text {a b : ByteArray} (h : a = b) : Value.string a = .string b := by rw [h]

theorem octetTakeNeg (g : Nat) (s : ByteArray) (i : Nat) (n : Int) (w : World) (hn : n < 0) : Calls Tryd.prog 55 #[.pointer (some ⟨g, 0, none⟩), .int .i64 n] w fun e w' =>
    e = .returned (.tuple #[.string ByteArray.empty, .int .i64 1]) ∧ w = w' := by
  go_enter Tryd.func55, Tryd.ntmps55
  go_wp2
  go_ret2
  exact ⟨rfl, rfl⟩
theorem octetTakeEnd (g : Nat) (s : ByteArray) (i : Nat) (n : Int) (w : World) (h : RdAt w g s i) (hn : (s.size : Int) - i < n) : Calls Tryd.prog 55 #[.pointer (some ⟨g, 0, none⟩), .int .i64 n] w fun e w' =>
    e = .returned (.tuple #[.string ByteArray.empty, .int .i64 2]) ∧ ∃ m, w' = w.drewN m := by
  have h2 := h.2.1
  go_enter Tryd.func55, Tryd.ntmps55
  go_wp2_with fail
  refine (octetLeft g s i w h).mono ?_
  rintro e w' ⟨rfl, m, rfl⟩
  go_wp2
  go_ret2
  exact ⟨rfl, _, rfl⟩
theorem octetTakeOk (g : Nat) (s : ByteArray) (i : Nat) (n : Int) (w : World) (h : RdAt w g s i) (h0 : 0 ≤ n) (hn : n ≤ (s.size : Int) - i) : Calls Tryd.prog 55 #[.pointer (some ⟨g, 0, none⟩), .int .i64 n] w fun e w' =>
    e = .returned (.tuple #[.string (s.extract i (i + n.toNat)), .int .i64 0]) ∧ RdAt w' g s (i + n.toNat) ∧ Kept (oneRow g) w w' := by
  have hr := h
  obtain ⟨h1, h2, h3⟩ := h
  obtain ⟨k, rfl⟩ := Int.eq_ofNat_of_zero_le h0
  have c0 : w.cell? ⟨g, 0, none⟩ = some (.string s) := h1.cell 0
  have c1 : w.cell? ⟨g, 1, none⟩ = some (.int .i64 i) := h1.cell 1
  have f1 : w.frozen? ⟨g, 1, none⟩ = false := h1.free 1
  have h4 := h3
  unfold maxLen at h4
  have hk : i + k ≤ s.size := by omega
  have hki : (i : Int) + k ≤ s.size := by omega
  have H1 := Lib.hid h1
  have H3 := Lib.hid h3
  clear h1 h3
  go_enter Tryd.func55, Tryd.ntmps55
  go_wp2_with fail
  refine (octetLeft g s i w hr).mono ?_
  rintro e w' ⟨rfl, m, rfl⟩
  go_wp2_with fail
  have q1 : IntKind.i64.wrap ((i : Int) + k) = i + k := IntWalk.i64_in _ (by omega)
  have hsl := slice_text (P := Tryd.prog) 9 Tryd.underlying9 s i (i + k) i ((i : Int) + k) rfl (by omega) (by omega) hk
  go_quiet (fail)
  go_wp2
  go_ret2
  refine ⟨rfl, ⟨?_, hk, H3.out⟩, (Kept.drewN _ _ _).trans (Kept.put _ g 1 _) (fun _ _ h => h)⟩
  exact (H1.out.drewN _).put 1 _

/-- What Take gives, at any number. -/
def takeText (s : ByteArray) (i : Nat) (n : Int) : ByteArray := if n < 0 ∨ (s.size : Int) - i < n then ByteArray.empty else s.extract i (i + n.toNat)
def takeErr (s : ByteArray) (i : Nat) (n : Int) : Int := if n < 0 then 1 else if (s.size : Int) - i < n then 2 else 0
def takeAt (s : ByteArray) (i : Nat) (n : Int) : Nat := if n < 0 ∨ (s.size : Int) - i < n then i else i + n.toNat
theorem RdAt.kept {w w' : World} {g : Nat} {s : ByteArray} {i : Nat} {S : Nat → Prop} (h : RdAt w g s i) (k : Kept S w w') (hn : ¬ S g) : RdAt w' g s i := ⟨h.1.kept k hn, h.2⟩
theorem octetTake (g : Nat) (s : ByteArray) (i : Nat) (n : Int) (w : World) (h : RdAt w g s i) : Calls Tryd.prog 55 #[.pointer (some ⟨g, 0, none⟩), .int .i64 n] w fun e w' =>
    e = .returned (.tuple #[.string (takeText s i n), .int .i64 (takeErr s i n)]) ∧ RdAt w' g s (takeAt s i n) ∧ Kept (oneRow g) w w' := by
  by_cases h1 : n < 0
  · refine (octetTakeNeg g s i n w h1).mono ?_
    rintro e w' ⟨rfl, rfl⟩
    simp only [takeText, takeErr, takeAt, h1, true_or, if_true]
    exact ⟨trivial, h, Kept.refl _ _⟩
  · by_cases h2 : (s.size : Int) - i < n
    · refine (octetTakeEnd g s i n w h h2).mono ?_
      rintro e w' ⟨rfl, m, rfl⟩
      simp only [takeText, takeErr, takeAt, h1, h2, or_true, if_true, if_false]
      exact ⟨trivial, h.kept (Kept.drewN noRow _ _) (fun h => h), Kept.drewN _ _ _⟩
    · refine (octetTakeOk g s i n w h (by omega) (by omega)).mono ?_
      rintro e w' ⟨rfl, hr, hk⟩
      simp only [takeText, takeErr, takeAt, h1, h2, or_self, if_false]
      exact ⟨trivial, hr, hk⟩

/-- Byte: the next byte, or 0 and ErrEnd. -/
theorem octetByteEnd (g : Nat) (s : ByteArray) (w : World) (h : RdAt w g s s.size) : Calls Tryd.prog 53 #[.pointer (some ⟨g, 0, none⟩)] w fun e w' =>
    e = .returned (.tuple #[.int .u8 0, .int .i64 2]) ∧ ∃ n, w' = w.drewN n := by
  go_enter Tryd.func53, Tryd.ntmps53
  go_wp2_with fail
  refine (octetTakeEnd g s s.size 1 w h (by omega)).mono ?_
  rintro e w' ⟨rfl, m, rfl⟩
  go_wp2
  go_ret2
  exact ⟨rfl, _, rfl⟩
theorem octetByteOk (g : Nat) (s : ByteArray) (i : Nat) (w : World) (h : RdAt w g s i) (hi : i < s.size) : Calls Tryd.prog 53 #[.pointer (some ⟨g, 0, none⟩)] w fun e w' =>
    e = .returned (.tuple #[.int .u8 (s[i]'hi).toNat, .int .i64 0]) ∧ RdAt w' g s (i + 1) ∧ Kept (oneRow g) w w' := by
  obtain ⟨t, ht⟩ : ∃ t, t = s.extract i (i + 1) := ⟨_, rfl⟩
  have hts : 0 < t.size := by rw [ht, ByteArray.size_extract]; omega
  have hb : t[0]'hts = s[i]'hi := by
    subst ht; simp [ByteArray.getElem_extract]
  have HB := Lib.hid hb
  clear hb
  go_enter Tryd.func53, Tryd.ntmps53
  go_wp2_with fail
  refine (octetTakeOk g s i 1 w h (by omega) (by omega)).mono ?_
  rintro e w' ⟨rfl, hr, hk⟩
  rw [show (1 : Int).toNat = 1 from rfl] at *
  rw [← ht]
  clear ht
  go_wp2
  go_ret2
  exact ⟨ret_two (v_int (by rw [HB.out])) rfl, hr, hk⟩
end Go.Proofs.YtebgcehcnenjiaaDoor
