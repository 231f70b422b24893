import Derived.Test.YtnhbeddmphlieaaBits2
namespace Go.Proofs.Ytnhbeddmphlieaa
open Go.RowKit
set_option linter.unusedVariables false
set_option linter.unusedSimpArgs false
/-- All bits of a text. -/
def allB (s : ByteArray) : List Bool := s.data.toList.flatMap fun b => bitsN b.toNat 8
theorem flat8_length (l : List UInt8) : (l.flatMap fun b => bitsN b.toNat 8).length = 8 * l.length := by
  induction l with
  | nil => rfl
  | cons b l ih => rw [List.flatMap_cons, List.length_append, ih, bitsN_length, List.length_cons]; omega
theorem allB_length (s : ByteArray) : (allB s).length = 8 * s.size := by unfold allB; rw [flat8_length]; simp
theorem bitsN_get (n : Nat) : ∀ c i, i < c → (bitsN n c)[i]? = some (decide (n / 2 ^ (c - 1 - i) % 2 = 1))
  | c + 1, 0, _ => by simp [bitsN]
  | c + 1, i + 1, h => by
    have := bitsN_get n c i (by omega)
    rw [bitsN, List.getElem?_cons_succ, this, show c + 1 - 1 - (i + 1) = c - 1 - i by omega]
theorem flat8_get : ∀ (l : List UInt8) (q r : Nat) (b : UInt8), l[q]? = some b → r < 8 → (l.flatMap fun b => bitsN b.toNat 8)[8 * q + r]? = some (decide (b.toNat / 2 ^ (7 - r) % 2 = 1))
  | a :: l, 0, r, b, h, hr => by
    simp at h; subst h
    rw [List.flatMap_cons, Nat.mul_zero, Nat.zero_add, List.getElem?_append_left (by rw [bitsN_length]; exact hr), bitsN_get _ 8 r hr]
  | a :: l, q + 1, r, b, h, hr => by
    rw [List.flatMap_cons, List.getElem?_append_right (by rw [bitsN_length]; omega), bitsN_length, show 8 * (q + 1) + r - 8 = 8 * q + r by omega]
    exact flat8_get l q r b (by simpa using h) hr
theorem allB_get (s : ByteArray) (p : Nat) (h : p / 8 < s.size) : (allB s)[p]? = some (decide ((s[p / 8]'h).toNat / 2 ^ (7 - p % 8) % 2 = 1)) := by
  have := flat8_get s.data.toList (p / 8) (p % 8) _ (byte_of s (p / 8) h) (by omega)
  rwa [show 8 * (p / 8) + p % 8 = p by omega] at this
/-- A reader of this text, so many bits on. -/
def BrAt (w : World) (g : Nat) (s : ByteArray) (i : Nat) : Prop := Lies w g 54 #[.string s, .int .i64 i] ∧ i ≤ 8 * s.size ∧ s.size ≤ 1099511627776
section
variable {w w' : World} {g : Nat} {s : ByteArray} {i : Nat}
theorem BrAt.kept {S : Nat → Prop} (h : BrAt w g s i) (k : Kept S w w') (hn : ¬ S g) : BrAt w' g s i := ⟨h.1.kept k hn, h.2⟩
theorem BrAt.later (h : BrAt w g s i) (hb : Below w.heap.size w w') : BrAt w' g s i := h.kept (Kept.of_below hb) (fun hf => hf)
theorem BrAt.lt (h : BrAt w g s i) : g < w.heap.size := h.1.lt
end
theorem bitsNew (s : ByteArray) (w : World) (hs : s.size ≤ 1099511627776) : Calls Try.prog 14 #[.string s] w fun e w' =>
    e = .returned (.pointer (some ⟨w.heap.size, 0, none⟩)) ∧ BrAt w' w.heap.size s 0 ∧ Kept noRow w w' := by
  go_enter Try.func14, Try.ntmps14
  go_wp2
  go_ret
  exact ⟨rfl, ⟨Lies.made _ _ _, Nat.zero_le _, hs⟩, Kept.alloc _ _ _⟩
theorem bitsLeft (g : Nat) (s : ByteArray) (i : Nat) (w : World) (h : BrAt w g s i) : Calls Try.prog 22 #[.pointer (some ⟨g, 0, none⟩)] w fun e w' =>
    e = .returned (.int .i64 (8 * s.size - i : Nat)) ∧ ∃ n, w' = w.drewN n := by
  obtain ⟨h1, h2, h3⟩ := h
  have c0 := h1.cell 0
  have c1 := h1.cell 1
  simp at c0 c1
  have he : ((8 * s.size - i : Nat) : Int) = 8 * (s.size : Int) - (i : Int) := by omega
  have HE := Lib.hid he
  clear h1 he
  go_enter Try.func22, Try.ntmps22
  go_wp2
  go_quiet (fail)
  go_wp2
  go_ret
  exact ⟨ret_int (by rw [HE.out]), _, rfl⟩
theorem bitsAt (g : Nat) (s : ByteArray) (i : Nat) (w : World) (h : BrAt w g s i) : Calls Try.prog 18 #[.pointer (some ⟨g, 0, none⟩)] w fun e w' =>
    e = .returned (.int .i64 i) ∧ w = w' := by
  have c1 := h.1.cell 1
  simp at c1
  clear h
  go_enter Try.func18, Try.ntmps18
  go_wp2
  go_ret
  exact ⟨rfl, rfl⟩
/-- So many bits from a place on. -/
def cutB (s : ByteArray) (i c : Nat) : List Bool := ((allB s).drop i).take c
theorem cutB_length (s : ByteArray) (i c : Nat) (h : i + c ≤ 8 * s.size) : (cutB s i c).length = c := by
  unfold cutB; rw [List.length_take, List.length_drop, allB_length]; omega
theorem cutB_next (s : ByteArray) (i k : Nat) (h : (i + k) / 8 < s.size) : cutB s i (k + 1) = cutB s i k ++ [decide ((s[(i + k) / 8]'h).toNat / 2 ^ (7 - (i + k) % 8) % 2 = 1)] := by
  unfold cutB
  rw [List.take_add_one, List.getElem?_drop, allB_get s (i + k) h]; rfl
theorem bitsTakeNo (g : Nat) (s : ByteArray) (i : Nat) (c : Int) (w : World) (h : BrAt w g s i) (hc : c < 0 ∨ 64 < c) :
    Calls Try.prog 16 #[.pointer (some ⟨g, 0, none⟩), .int .i64 c] w fun e w' => e = .returned (.tuple #[.int .u64 0, .int .i64 1]) ∧ w = w' := by
  have hcc := bitsCounts c w
  rw [countsB_no hc] at hcc
  have HC := Lib.hid hcc
  clear hcc hc h
  go_enter Try.func16, Try.ntmps16
  go_wp2_with fail
  refine HC.out.mono ?_
  rintro e w' ⟨rfl, rfl⟩
  go_wp2
  go_ret2
  exact ⟨rfl, rfl⟩
theorem bitsTakeEnd (g : Nat) (s : ByteArray) (i c : Nat) (w : World) (h : BrAt w g s i) (hc : c ≤ 64) (he : 8 * s.size < i + c) :
    Calls Try.prog 16 #[.pointer (some ⟨g, 0, none⟩), .int .i64 c] w fun e w' => e = .returned (.tuple #[.int .u64 0, .int .i64 2]) ∧ ∃ n, w' = w.drewN n := by
  have hcc := bitsCounts c w
  rw [countsB_yes (by omega) (by omega)] at hcc
  have HC := Lib.hid hcc
  have HL := Lib.hid (bitsLeft g s i w h)
  have h2 := h.2.1
  have e1 : decide (8 * s.size - i < c) = true := by simp; omega
  clear hcc h
  go_enter Try.func16, Try.ntmps16
  go_wp2_with fail
  refine HC.out.mono ?_
  rintro e w' ⟨rfl, rfl⟩
  go_wp2_with fail
  refine HL.out.mono ?_
  rintro e w' ⟨rfl, n, rfl⟩
  go_wp2
  go_ret2
  exact ⟨rfl, _, rfl⟩
set_option maxHeartbeats 1000000 in
set_option maxRecDepth 100000 in
theorem bitsTakeOk (g : Nat) (s : ByteArray) (i c : Nat) (w : World) (h : BrAt w g s i) (hc : c ≤ 64) (he : i + c ≤ 8 * s.size) :
    Calls Try.prog 16 #[.pointer (some ⟨g, 0, none⟩), .int .i64 c] w fun e w' => e = .returned (.tuple #[.int .u64 (numB (cutB s i c)), .int .i64 0]) ∧ BrAt w' g s (i + c) ∧ Kept (oneRow g) w w' := by
  have hcc := bitsCounts c w
  rw [countsB_yes (by omega) (by omega)] at hcc
  have HC := Lib.hid hcc
  have HL := Lib.hid (bitsLeft g s i w h)
  have h2 := h.2.1
  have hs := h.2.2
  have e1 : decide (8 * s.size - i < c) = false := by simp; omega
  have H := Lib.hid h
  clear hcc h
  go_enter Try.func16, Try.ntmps16
  go_wp2_with fail
  refine HC.out.mono ?_
  rintro e w' ⟨rfl, rfl⟩
  go_wp2_with fail
  refine HL.out.mono ?_
  rintro e w' ⟨rfl, n, rfl⟩
  clear HC HL
  go_wp2
  go_loopw [6, 17] (fun t u wr => ∃ k : Nat, k ≤ c ∧ u = .int .i64 k ∧ t = .int .u64 (numB (cutB s i k)) ∧ BrAt wr g s (i + k) ∧ Kept (oneRow g) w wr)
    (fun _ u _ => c - (intOf u).toNat)
  case atStart => exact ⟨0, by omega, rfl, by simp [cutB, numB], ⟨H.out.1, H.out.2⟩, Kept.drewN _ _ _⟩
  case round =>
    obtain ⟨k, hk, rfl, rfl, hr, hkk⟩ := hrel
    by_cases hlt : k < c
    · have hki : (k : Int) < (c : Int) := by omega
      have hq : (i + k) / 8 < s.size := by omega
      have hnx := cutB_next s i k hq
      have hln := numB_lt (cutB s i k)
      rw [cutB_length s i k (by omega)] at hln
      have hln2 : numB (cutB s i k) < 9223372036854775808 := by
        have : 2 ^ k ≤ 2 ^ 63 := Nat.pow_le_pow_right (by decide) (by omega)
        omega
      have hsn := numB_snoc (cutB s i k) (decide ((s[(i + k) / 8]'hq).toNat / 2 ^ (7 - (i + k) % 8) % 2 = 1))
      rw [← hnx] at hsn
      have c0 := (hr.1.cell 0).trans (show _ = some (Value.string s) from rfl)
      have c1 := (hr.1.cell 1).trans (show _ = some (Value.int .i64 ((i + k : Nat) : Int)) from rfl)
      have f1 := hr.1.free 1
      have hb := (s[(i + k) / 8]'hq).toNat_lt
      have hqi : ((i + k : Nat) : Int) / 8 = (((i + k) / 8 : Nat) : Int) := by omega
      have hri : ((i + k : Nat) : Int) % 8 = (((i + k) % 8 : Nat) : Int) := by omega
      have hr8 : (i + k) % 8 < 8 := Nat.mod_lt _ (by decide)
      have HSN := Lib.hid hsn
      have HR := Lib.hid hr
      have hpk : i + k ≤ 8796093022208 := by omega
      clear hnx hsn hr hln
      generalize numB (cutB s i k) = N at *
      generalize hp : i + k = p at *
      have HP := Lib.hid hp
      have hpi : p + 1 ≤ 8 * s.size := by omega
      clear hp
      generalize p / 8 = q at *
      generalize p % 8 = r8 at *
      have h7 : (0 : Int) ≤ 7 - (r8 : Int) := by omega
      have hqs : (q : Int) < (s.size : Int) := by omega
      have w1 : IntKind.i64.wrap (Int.tdiv (p : Int) 8) = (q : Int) := by rw [Int.tdiv_eq_ediv_of_nonneg (by omega), IntKind.wrap_i64]; omega
      have w2 : IntKind.i64.wrap (Int.tmod (p : Int) 8) = (r8 : Int) := by rw [Int.tmod_eq_emod_of_nonneg (by omega), IntKind.wrap_i64]; omega
      have w3 : IntKind.i64.wrap (7 - (r8 : Int)) = 7 - (r8 : Int) := by rw [IntKind.wrap_i64]; omega
      have w4 : IntKind.u64.wrap ((N : Int) * 2) = ((2 * N : Nat) : Int) := by rw [IntKind.wrap_u64]; omega
      have w5 : (7 - (r8 : Int)).toNat = 7 - r8 := by omega
      have hvv : bits .or .u64 (2 * (N : Int)) (IntKind.u64.wrap (bits .and .u8 (((s[q]'hq).toNat : Int) / 2 ^ (7 - r8)) 1)) = ((numB (cutB s i (k + 1)) : Nat) : Int) := by
        have e2 : ((s[q]'hq).toNat : Int) / 2 ^ (7 - r8) = (((s[q]'hq).toNat / 2 ^ (7 - r8) : Nat) : Int) := by rw [Int.natCast_ediv, Int.natCast_pow]; rfl
        have hd : (s[q]'hq).toNat / 2 ^ (7 - r8) ≤ (s[q]'hq).toNat := Nat.div_le_self _ _
        have h1 := u8_and_nat ((s[q]'hq).toNat / 2 ^ (7 - r8)) 1 (by omega) (by decide)
        rw [Nat.and_one_is_mod] at h1
        rw [e2, show (1 : Int) = ((1 : Nat) : Int) from rfl, h1, HSN.out]
        have e3 : ((decide ((s[q]'hq).toNat / 2 ^ (7 - r8) % 2 = 1)).toNat) = (s[q]'hq).toNat / 2 ^ (7 - r8) % 2 := by
          by_cases hh : (s[q]'hq).toNat / 2 ^ (7 - r8) % 2 = 1
          · rw [decide_eq_true hh, hh]; rfl
          · rw [decide_eq_false hh, show (s[q]'hq).toNat / 2 ^ (7 - r8) % 2 = 0 by omega]; rfl
        rw [e3]
        have hb1 : (s[q]'hq).toNat / 2 ^ (7 - r8) % 2 < 2 := Nat.mod_lt _ (by decide)
        generalize (s[q]'hq).toNat / 2 ^ (7 - r8) % 2 = b1 at *
        have e4 : IntKind.u64.wrap ((b1 : Nat) : Int) = ((b1 : Nat) : Int) := by rw [IntKind.wrap_u64]; omega
        have h2 := u64_or_nat (2 * N) b1 (by omega) (by omega)
        rw [e4, show (2 * (N : Int)) = ((2 * N : Nat) : Int) by omega, h2]
        have := or_add (a := b1) (b := N) (k := 1) (by omega)
        rw [Nat.or_comm, show 2 * N = N * 2 ^ 1 by omega, this]
        omega
      have HV := Lib.hid hvv
      clear hvv HSN hb
      go_wp2_with fail
      go_quiet (fail)
      rw [HV.out]
      have hli := (HR.out.1.drewN nq).put 1 (.int .i64 ((p : Int) + 1))
      rw [show (#[Value.string s, Value.int .i64 (p : Int)].setIfInBounds 1 (Value.int .i64 ((p : Int) + 1))) = #[Value.string s, Value.int .i64 ((p : Int) + 1)] from rfl] at hli
      have HLI := Lib.hid hli
      have hk2 := ((hkk.trans (Kept.drewN (oneRow g) _ nq) (fun _ _ h => h)).trans (Kept.put _ g 1 (.int .i64 ((p : Int) + 1))) (fun _ _ h => h))
      have HK2 := Lib.hid hk2
      clear hli hk2
      go_wp2
      go_roundw
      case rel =>
        refine ⟨k + 1, by omega, by go_num, rfl, ⟨?_, by rw [← Nat.add_assoc, HP.out]; exact hpi, hs⟩, HK2.out⟩
        rw [← Nat.add_assoc, HP.out]; exact HLI.out
      case measure => simp [intOf]; omega
    · obtain rfl : k = c := by omega
      have HR := Lib.hid hr
      have hln := numB_lt (cutB s i k)
      rw [cutB_length s i k (by omega)] at hln
      clear hr
      obtain ⟨N, hN⟩ : ∃ N, N = numB (cutB s i k) := ⟨_, rfl⟩
      rw [← hN]
      have HN := Lib.hid hN
      clear hln hN
      go_wp2
      go_ret2
      exact ⟨by rw [← HN.out]; rfl, HR.out, hkk⟩
end Go.Proofs.Ytnhbeddmphlieaa
