import Derived.Test.YthlaadcldkefoaaAwake
namespace Go.Proofs.Ythlaadcldkefoaa
open Go.RowKit
set_option linter.unusedVariables false
theorem u64_nat {a : Int} (h : (Lit.int .u64 a).wf = true) : ∃ n : Nat, a = n ∧ n < M64 := by
  have := Go.bounds_u64 h
  exact ⟨a.toNat, by omega, by unfold M64; omega⟩
set_option maxHeartbeats 1000000 in
theorem prints_walk (a0 : Int) (w : World) (w0 : (Lit.int .u64 a0).wf = true) :
    Calls Try.prog 3 #[.int .u64 a0] w fun e w' => e = .returned (.bool true) ∧ Below w.heap.size w w' := by
  obtain ⟨n, rfl, hn⟩ := u64_nat w0
  have hn2 : n ≤ 18446744073709551615 := by unfold M64 at hn; omega
  have hsz := (textB_size (enc n)).symm
  have HS := Lib.hid hsz
  clear hsz w0
  go_enter Try.func3, Try.ntmps3
  go_wp2_with fail
  refine (varintPrint n w hn).mono ?_
  rintro e w1 ⟨rfl, k1⟩
  go_wp2_with fail
  refine (awake_any w1).mono ?_
  rintro e w2 ⟨rfl, k2⟩
  have k2 := then_ k1 k2
  go_wp2_with fail
  refine (refPrint n w2 hn).mono ?_
  rintro e w3 ⟨rfl, k3⟩
  have k3 := then_ k2 k3
  go_wp2_with fail
  refine (varintSize n w3 hn).mono ?_
  rintro e w' ⟨rfl, rfl⟩
  rw [HS.out]
  go_wp2
  go_ret
  exact ⟨rfl, k3⟩
set_option maxHeartbeats 1000000 in
theorem reads_walk (s : ByteArray) (a1 : Int) (w : World) (w0 : s.size ≤ maxLen) (w1 : (Lit.int .i64 a1).wf = true) :
    Calls Try.prog 4 #[.string s, .int .i64 a1] w fun e w' => e = .returned (.bool true) ∧ Below w.heap.size w w' := by
  clear w1
  by_cases hs : 1000 < s.size
  · have e0 : decide ((1000 : Int) < (s.size : Int)) = true := by simp; omega
    have hbel := Below.refl w.heap.size w
    go_enter Try.func4, Try.ntmps4
    go_wp2_with (go_at_call 9; refine (awake_any _).mono ?_; rintro e w1 ⟨rfl, hb⟩; have hbel := then_ hbel hb; clear hb)
    go_ret
    exact ⟨rfl, hbel⟩
  · have e0 : decide ((1000 : Int) < (s.size : Int)) = false := by simp; omega
    go_enter Try.func4, Try.ntmps4
    go_wp2_with fail
    refine (awake_any w).mono ?_
    rintro e w1 ⟨rfl, k1⟩
    go_wp2_with fail
    refine (octetNew s w1 w0).mono ?_
    rintro e w2 ⟨rfl, r2, k2⟩
    have k2 := onto_none k1 k2
    have hg : w.heap.size ≤ w1.heap.size := k1.size
    generalize w1.heap.size = g at *
    go_wp2_with fail
    refine (octetTake g s 0 a1 w2 r2).mono ?_
    rintro e w3 ⟨rfl, r3, k3⟩
    have k3 := onto_one k2 k3 hg
    generalize takeAt s 0 a1 = p at *
    go_wp2_with fail
    refine (octetAt g s p w3 r3).mono ?_
    rintro e w' ⟨rfl, rfl⟩
    go_wp2_with fail
    refine (varintRead g s p w3 r3).mono ?_
    rintro e w4 ⟨rfl, r4, k4⟩
    have k4 := onto_one k3 k4 hg
    go_wp2_with fail
    refine (refRead s p w4 (by omega) r3.2.1).mono ?_
    rintro e w' ⟨rfl, rfl⟩
    generalize hr : rd (restOf s p) = r at *
    obtain ⟨a, b, c⟩ := r
    clear hr
    go_wp2_with (go_at_call 14; refine (octetAt g s _ w4 r4).mono ?_; rintro e w' ⟨rfl, rfl⟩)
    go_ret
    exact ⟨rfl, k4⟩
theorem rest_print (n : Nat) (m : ByteArray) : restOf (textB (enc n) ++ m) 0 = enc n ++ m.data.toList := by simp [restOf, textB]
set_option maxHeartbeats 1000000 in
theorem back_walk (a0 : Int) (s : ByteArray) (w : World) (w0 : (Lit.int .u64 a0).wf = true) (w1 : s.size ≤ maxLen) :
    Calls Try.prog 5 #[.int .u64 a0, .string s] w fun e w' => e = .returned (.bool true) ∧ Below w.heap.size w w' := by
  obtain ⟨n, rfl, hn⟩ := u64_nat w0
  clear w0
  by_cases hs : 200 < s.size
  · have e0 : decide ((200 : Int) < (s.size : Int)) = true := by simp; omega
    have hbel := Below.refl w.heap.size w
    go_enter Try.func5, Try.ntmps5
    go_wp2_with (go_at_call 9; refine (awake_any _).mono ?_; rintro e w1 ⟨rfl, hb⟩; have hbel := then_ hbel hb; clear hb)
    go_ret
    exact ⟨rfl, hbel⟩
  · have e0 : decide ((200 : Int) < (s.size : Int)) = false := by simp; omega
    have hlen := enc_length n
    have hn2 : n ≤ 18446744073709551615 := by unfold M64 at hn; omega
    obtain ⟨T, hT⟩ : ∃ T, T = textB (enc n) ++ s := ⟨_, rfl⟩
    have hTs : T.size ≤ 300 := by rw [hT, ByteArray.size_append, textB_size]; omega
    have hadd : ∀ W : World, (Op.stringOp .add (textB (enc n)) s).run Try.prog W = .ok (.string T) W := fun W => by rw [hT]; exact run_string_add_sum W _ _ (by rw [textB_size]; omega)
    have hrd : rd (restOf T 0) = (n, 0, (textB (enc n)).size) := by rw [hT, rest_print, rd_enc n _ hn, textB_size]
    have HRD := Lib.hid hrd
    clear hT hrd
    go_enter Try.func5, Try.ntmps5
    go_wp2_with fail
    refine (awake_any w).mono ?_
    rintro e w1 ⟨rfl, k1⟩
    go_wp2_with fail
    refine (varintPrint n w1 hn).mono ?_
    rintro e w2 ⟨rfl, k2⟩
    have k2 := then_ k1 k2
    generalize textB (enc n) = P at *
    go_wp2_with fail
    refine (octetNew T w2 (by unfold maxLen; omega)).mono ?_
    rintro e w3 ⟨rfl, r3, k3⟩
    have k3 := onto_none k2 k3
    have hg : w.heap.size ≤ w2.heap.size := k2.size
    generalize w2.heap.size = g at *
    go_wp2_with fail
    refine (varintRead g T 0 w3 r3).mono ?_
    rintro e w4 ⟨rfl, r4, k4⟩
    have k4 := onto_one k3 k4 hg
    rw [HRD.out] at r4 ⊢
    rw [Nat.zero_add] at r4
    go_wp2_with (go_at_call 14; refine (octetAt g T _ w4 r4).mono ?_; rintro e w' ⟨rfl, rfl⟩)
    go_ret
    exact ⟨rfl, k4⟩
theorem texts_one {a b : Nat} (ha : a < M64) (hb : b < M64) (h : a ≠ b) : textB (enc a) ≠ textB (enc b) := by
  intro he
  have := congrArg (fun t => t.data.toList) he
  simp [textB] at this
  exact h (enc_inj ha hb this.symm)
theorem texts_begin {a b : Nat} (ha : a < M64) (hb : b < M64) (h : a ≠ b) (hl : (textB (enc a)).size ≤ (textB (enc b)).size) : (textB (enc b)).extract 0 (textB (enc a)).size ≠ textB (enc a) := by
  intro he
  refine h (enc_prefix ha hb (r := (enc b).drop (enc a).length) ?_)
  have := congrArg (fun t => t.data.toList) he
  rw [textB_size] at this
  simp [textB] at this
  conv => lhs; rw [← List.take_append_drop (enc a).length (enc b)]
  rw [this]
theorem text_ne2 {a b : ByteArray} (h : a ≠ b) : (a.toList == b.toList) = false := by
  rw [beq_eq_false_iff_ne, ByteArray.toList_eq, ByteArray.toList_eq]
  exact fun h2 => h (eq_of_data h2)
set_option maxHeartbeats 1000000 in
theorem one_walk (a0 a1 : Int) (w : World) (w0 : (Lit.int .u64 a0).wf = true) (w1 : (Lit.int .u64 a1).wf = true) :
    Calls Try.prog 6 #[.int .u64 a0, .int .u64 a1] w fun e w' => e = .returned (.bool true) ∧ Below w.heap.size w w' := by
  obtain ⟨a, rfl, ha⟩ := u64_nat w0
  obtain ⟨b, rfl, hb⟩ := u64_nat w1
  clear w0 w1
  have ha2 : a ≤ 18446744073709551615 := by unfold M64 at ha; omega
  have hb2 : b ≤ 18446744073709551615 := by unfold M64 at hb; omega
  have hla := enc_length a
  have hlb := enc_length b
  by_cases hab : a = b
  · subst hab
    obtain ⟨S, hS⟩ : ∃ S, S = textB (enc a) := ⟨_, rfl⟩
    have hSs : S.size ≤ 10 := by rw [hS, textB_size]; omega
    have hP := varintPrint a
    rw [← hS] at hP
    have HP := Lib.hid hP
    have hx : S.extract 0 S.size = S := ByteArray.extract_zero_size
    clear hS hP
    go_enter Try.func6, Try.ntmps6
    go_wp2_with fail
    refine (HP.out w ha).mono ?_
    rintro e w1 ⟨rfl, k1⟩
    go_wp2_with fail
    refine (HP.out w1 ha).mono ?_
    rintro e w2 ⟨rfl, k2⟩
    have k2 := then_ k1 k2
    go_wp2_with fail
    refine (awake_any w2).mono ?_
    rintro e w3 ⟨rfl, k3⟩
    have k3 := then_ k2 k3
    go_wp2
    go_ret
    exact ⟨rfl, k3⟩
  · have q1 := texts_one ha hb hab
    have q2 := texts_begin ha hb hab
    have hPa := varintPrint a
    have hPb := varintPrint b
    have sa : (textB (enc a)).size ≤ 10 := by rw [textB_size]; omega
    have sb : (textB (enc b)).size ≤ 10 := by rw [textB_size]; omega
    generalize textB (enc a) = S at *
    generalize textB (enc b) = T at *
    have q3 : ((a : Int) == (b : Int)) = false := by rw [beq_eq_false_iff_ne]; omega
    have q4 := text_ne2 q1
    have HPa := Lib.hid hPa
    have HPb := Lib.hid hPb
    have Q2 := Lib.hid q2
    have Q1 := Lib.hid q1
    clear hPa hPb q2 q1
    by_cases hl : S.size ≤ T.size
    · have e0 : decide (S.size ≤ T.size) = true := by simpa using hl
      have hxi : (S.size : Int) ≤ (T.size : Int) := by omega
      have Q3 := text_ne2 (Q2.out hl)
      go_enter Try.func6, Try.ntmps6
      go_wp2_with fail
      refine (HPa.out w ha).mono ?_
      rintro e w1 ⟨rfl, k1⟩
      go_wp2_with fail
      refine (HPb.out w1 hb).mono ?_
      rintro e w2 ⟨rfl, k2⟩
      have k2 := then_ k1 k2
      go_wp2_with fail
      refine (awake_any w2).mono ?_
      rintro e w3 ⟨rfl, k3⟩
      have k3 := then_ k2 k3
      go_wp2
      go_ret
      exact ⟨rfl, k3⟩
    · have e0 : decide (S.size ≤ T.size) = false := by simpa using hl
      go_enter Try.func6, Try.ntmps6
      go_wp2_with fail
      refine (HPa.out w ha).mono ?_
      rintro e w1 ⟨rfl, k1⟩
      go_wp2_with fail
      refine (HPb.out w1 hb).mono ?_
      rintro e w2 ⟨rfl, k2⟩
      have k2 := then_ k1 k2
      go_wp2_with fail
      refine (awake_any w2).mono ?_
      rintro e w3 ⟨rfl, k3⟩
      have k3 := then_ k2 k3
      go_wp2
      go_ret
      exact ⟨rfl, k3⟩
theorem enc_mono {a b : Nat} (h : a ≤ b) : (enc a).length ≤ (enc b).length := leb_mono 9 a b h
set_option maxHeartbeats 1000000 in
theorem size_walk (a0 a1 : Int) (w : World) (w0 : (Lit.int .u64 a0).wf = true) (w1 : (Lit.int .u64 a1).wf = true) :
    Calls Try.prog 7 #[.int .u64 a0, .int .u64 a1] w fun e w' => e = .returned (.bool true) ∧ Below w.heap.size w w' := by
  obtain ⟨a, rfl, ha⟩ := u64_nat w0
  obtain ⟨b, rfl, hb⟩ := u64_nat w1
  clear w0 w1
  have ha2 : a ≤ 18446744073709551615 := by unfold M64 at ha; omega
  have hb2 : b ≤ 18446744073709551615 := by unfold M64 at hb; omega
  have hla := enc_length a
  have hlb := enc_length b
  have hmono : a ≤ b → (enc a).length ≤ (enc b).length := enc_mono
  have hsz := textB_size (enc a)
  have HSZ := Lib.hid hsz
  clear hsz
  go_enter Try.func7, Try.ntmps7
  go_wp2
  go_loop [5, 6] (fun i t => ∃ (f m c : Nat), i = .int .u64 m ∧ t = .int .i64 c ∧ m ≤ 18446744073709551615 ∧ Hid (m < 128 ^ (f + 1)) ∧ c + (leb f m).length = (enc a).length + 1)
    (fun i _ => (intOf i).toNat)
  case atStart => exact ⟨9, a, 1, rfl, rfl, ha2, Nat.lt_of_lt_of_le ha m64_lt, by unfold enc; omega⟩
  case round =>
    obtain ⟨f, m, c, rfl, rfl, hm, hp, hc⟩ := hrel
    have hcl := (leb_length f m).1
    by_cases h : m < 128
    · have e0 : decide ((127 : Int) < (m : Int)) = false := by simp; omega
      have hc2 : c = (enc a).length := by rw [leb_small _ _ h] at hc; simp at hc; omega
      subst hc2
      clear hc hp hcl
      have q1 : decide (((enc a).length : Int) ≤ 10) = true := by simp; omega
      have q2 : decide ((enc a).length ≤ 10) = true := by simp; omega
      by_cases hab : b < a
      · have q3 : decide (b < a) = true := by simpa using hab
        have q4 : ((textB (enc a)).size == (enc a).length) = true := by rw [HSZ.out]; simp
        clear hmono
        go_wp2_with fail
        refine (awake_any w).mono ?_
        rintro e w1 ⟨rfl, k1⟩
        go_wp2_with fail
        refine (varintSize a w1 ha).mono ?_
        rintro e w' ⟨rfl, rfl⟩
        go_wp2_with fail
        refine (varintPrint a w1 ha).mono ?_
        rintro e w2 ⟨rfl, k2⟩
        have k2 := then_ k1 k2
        go_wp2
        go_ret
        exact ⟨rfl, k2⟩
      · have q3 : decide (b < a) = false := by simpa using hab
        have q4 : ((textB (enc a)).size == (enc a).length) = true := by rw [HSZ.out]; simp
        have q5 : decide ((enc a).length ≤ (enc b).length) = true := by simpa using hmono (by omega)
        clear hmono
        go_wp2_with fail
        refine (awake_any w).mono ?_
        rintro e w1 ⟨rfl, k1⟩
        go_wp2_with fail
        refine (varintSize a w1 ha).mono ?_
        rintro e w' ⟨rfl, rfl⟩
        go_wp2_with fail
        refine (varintPrint a w1 ha).mono ?_
        rintro e w2 ⟨rfl, k2⟩
        have k2 := then_ k1 k2
        go_wp2_with fail
        refine (varintSize a w2 ha).mono ?_
        rintro e w' ⟨rfl, rfl⟩
        go_wp2_with fail
        refine (varintSize b w2 hb).mono ?_
        rintro e w' ⟨rfl, rfl⟩
        go_wp2
        go_ret
        exact ⟨rfl, k2⟩
    · have e0 : decide ((127 : Int) < (m : Int)) = true := by simp; omega
      obtain ⟨f', rfl, hp'⟩ : ∃ f', f = f' + 1 ∧ m / 128 < 128 ^ (f' + 1) := by
        cases f with
        | zero => have := hp.out; simp at this; omega
        | succ f => exact ⟨f, rfl, lt_div _ _ hp.out⟩
      have hlb2 : c + 1 + (leb f' (m / 128)).length = (enc a).length + 1 := by
        rw [leb_big _ _ h, List.length_cons] at hc; omega
      have HP := Lib.hid hp'
      clear hp hp' hc hcl hmono
      go_wp2
      go_round
      case rel => exact ⟨f', m / 128, c + 1, by go_num, by go_num, by omega, HP, hlb2⟩
      case measure => simp [intOf]; omega
end Go.Proofs.Ythlaadcldkefoaa
