import Derived.Test.YtdlbgmkigfbfbaaLaws2
namespace Go.Proofs.Ytdlbgmkigfbfbaa
open Go.RowKit
set_option linter.unusedVariables false
theorem restOf_add (s : ByteArray) (p k : Nat) : restOf s (p + k) = (restOf s p).drop k := by simp [restOf, List.drop_drop]
theorem rdMany_encs (l : List Nat) : ∀ (s : ByteArray) (p : Nat) (r : List UInt8), (∀ n ∈ l, n < M64) → restOf s p = encs l ++ r → rdMany l.length s p = (l, 0, p + (encs l).length) := by
  induction l with
  | nil => intro s p r _ _; simp [rdMany, encs]
  | cons n l ih =>
    intro s p r hl h
    have hn := hl n (by simp)
    rw [encs_cons, List.append_assoc] at h
    have h2 := rd_enc n (encs l ++ r) hn
    have h3 : restOf s (p + (enc n).length) = encs l ++ r := by rw [restOf_add, h, List.drop_left]
    have h4 := ih s (p + (enc n).length) r (fun m hm => hl m (by simp [hm])) h3
    rw [List.length_cons, rdMany, h, h2]
    simp only [if_true, h4, encs_cons, List.length_append, Nat.add_assoc]
theorem rest_list (d : List Nat) (m : ByteArray) : restOf (textB (encList d) ++ m) 0 = enc d.length ++ (encs d ++ m.data.toList) := by simp [restOf, textB, encList]
theorem rdList_enc (d : List Nat) (m : ByteArray) (hd : ∀ n ∈ d, n < M64) (hl : d.length < M64) (most : Int) (hm : most = d.length) :
    rdListErr (textB (encList d) ++ m) 0 most = 0 ∧ rdListAt (textB (encList d) ++ m) 0 most = (textB (encList d)).size ∧ rdListOf (textB (encList d) ++ m) 0 most = d := by
  have h1 := rd_enc d.length (encs d ++ m.data.toList) hl
  have h2 : restOf (textB (encList d) ++ m) (0 + (enc d.length).length) = encs d ++ m.data.toList := by rw [restOf_add, rest_list, List.drop_left]
  have h3 := rdMany_encs d _ _ _ hd h2
  have q1 : ¬ most < 0 := by omega
  have q2 : ¬ most < ((d.length : Nat) : Int) := by omega
  have e1 : rdListErr (textB (encList d) ++ m) 0 most = 0 := by
    unfold rdListErr
    rw [rest_list, h1, if_neg q1]
    simp only [ne_eq, not_true_eq_false, if_false]
    rw [if_neg q2, h3]
  refine ⟨e1, ?_, ?_⟩
  · unfold rdListAt
    rw [rest_list, h1, if_neg q1]
    simp only [ne_eq, not_true_eq_false, if_false]
    rw [if_neg q2, h3]
    simp [textB_size, encList]
  · unfold rdListOf
    rw [if_pos e1, rest_list, h1, h3]
theorem encList_length (d : List Nat) : (encList d).length ≤ 10 + 10 * d.length := by
  unfold encList
  rw [List.length_append]
  have := (enc_length d.length).2
  have := encs_length d
  omega
theorem prints_walk (a0 : Option Addr) (len0 cap0 : Nat) (zs : List Int) (s : ByteArray) (w : World) (w0 : ArgInts .u64 w a0 len0 cap0 zs) (w1 : s.size ≤ maxLen) :
    Calls Try.prog 5 #[.slice a0 len0 cap0, .string s] w fun e w' => e = .returned (.bool true) ∧ Below w.heap.size w w' := by
  obtain ⟨l, hlt, hlen, hlc, hcm, h0, hr⟩ := argNats w0
  have hcm2 : cap0 ≤ 9223372036854775807 := by unfold maxLen at hcm; omega
  by_cases hb : 200 < len0
  · have e0 : decide ((200 : Int) < (len0 : Int)) = true := by simp; omega
    have hbel := Below.refl w.heap.size w
    go_enter Try.func5, Try.ntmps5
    go_wp2_with (go_at_call 8; refine (awake_any _).mono ?_; rintro e w1 ⟨rfl, hb⟩; have hbel := then_ hbel hb; clear hb)
    go_ret
    exact ⟨rfl, hbel⟩
  have e0 : decide ((200 : Int) < (len0 : Int)) = false := by simp; omega
  by_cases hs : 100 < s.size
  · have e1 : decide ((100 : Int) < (s.size : Int)) = true := by simp; omega
    have hbel := Below.refl w.heap.size w
    go_enter Try.func5, Try.ntmps5
    go_wp2_with (go_at_call 8; refine (awake_any _).mono ?_; rintro e w1 ⟨rfl, hb⟩; have hbel := then_ hbel hb; clear hb)
    go_ret
    exact ⟨rfl, hbel⟩
  have e1 : decide ((100 : Int) < (s.size : Int)) = false := by simp; omega
  have hcl : l.length ≤ 1099511627776 := by omega
  have hdl := deltas_length l 0
  have hel := encList_length (deltas 0 l)
  obtain ⟨q1, q2, q3⟩ := rdList_enc (deltas 0 l) s (deltas_lt l 0) (by unfold M64; omega) (len0 : Int) (by omega)
  have q4 := sums_deltas l hlt 0 (by decide)
  rw [← q3] at q4
  obtain ⟨T, hT⟩ : ∃ T, T = textB (encList (deltas 0 l)) ++ s := ⟨_, rfl⟩
  have hTs : T.size ≤ 3000 := by rw [hT, ByteArray.size_append, textB_size]; omega
  have hadd : ∀ W : World, (Op.stringOp .add (textB (encList (deltas 0 l))) s).run Try.prog W = .ok (.string T) W := fun W => by rw [hT]; exact run_string_add_sum W _ _ (by rw [textB_size]; omega)
  rw [← hT] at q1 q2 q4
  have hP := deltaPrint (.slice a0 len0 cap0) l
  have hP2 := refDPrint (.slice a0 len0 cap0) l
  have hPs : (textB (encList (deltas 0 l))).size ≤ 3000 := by rw [textB_size]; omega
  generalize textB (encList (deltas 0 l)) = P at *
  have HP := Lib.hid hP
  have HP2 := Lib.hid hP2
  have HR := Lib.hid hr
  have HL := Lib.hid hlen
  have HLT := Lib.hid hlt
  have Q1 := Lib.hid q1
  have Q2 := Lib.hid q2
  have Q4 := Lib.hid q4
  have hA : ∀ w' : World, Below w.heap.size w w' → SeqAt w' (.slice a0 len0 cap0) (cells64 l) := fun w' k => SeqAt.of_arg HR.out k (by rw [cells64_length]; exact HL.out) hlc hcm
  have HA := Lib.hid hA
  clear q1 q2 q3 q4 hT hP hP2 hdl hel hr hlen hlt h0 w0 hA
  go_enter Try.func5, Try.ntmps5
  go_wp2_with fail
  refine (awake_any w).mono ?_
  rintro e w1 ⟨rfl, k1⟩
  go_wp2_with fail
  refine (HP.out w1 (HA.out w1 k1) HLT.out hcl).mono ?_
  rintro e w2 ⟨rfl, k2⟩
  have k2 := then_ k1 k2
  go_wp2_with fail
  refine (octetNew T w2 (by unfold maxLen; omega)).mono ?_
  rintro e w3 ⟨rfl, r3, k3⟩
  have k3 := onto_none k2 k3
  have hg : w.heap.size ≤ w2.heap.size := k2.size
  generalize w2.heap.size = g at *
  go_wp2_with fail
  refine (deltaRead g T 0 (len0 : Int) w3 r3 (by omega) (by omega)).mono ?_
  rintro e w4 ⟨v4, rfl, o4, r4, k4⟩
  rw [Q1.out]
  rw [Q2.out] at r4
  have k4 := onto_one k3 k4 hg
  unfold dlList at o4
  rw [Q4.out] at o4
  have S4 := Lib.hid (SeqAt.of_owns o4)
  clear o4
  go_wp2_with fail
  refine (HP2.out w4 (HA.out w4 k4) HLT.out hcl).mono ?_
  rintro e w5 ⟨rfl, hb5⟩
  have k5 := then_ k4 hb5
  have S5 := Lib.hid (S4.out.later hb5)
  have r5 := r4.kept (Kept.of_below hb5) (fun h => h)
  have A5 := Lib.hid (HA.out w5 k5)
  clear S4 hb5 r4
  go_wp2_with fail
  refine (refSameNat _ _ _ _ w5 S5.out A5.out).mono ?_
  rintro e w6 ⟨rfl, n6, rfl⟩
  rw [decide_eq_true rfl]
  have hb6 := below_drew w5 n6
  have k6 := then_ k5 hb6
  have r6 := r5.kept (Kept.of_below hb6) (fun h => h)
  go_wp2_with (go_at_call 21; refine (octetAt g T _ _ r6).mono ?_; rintro e w' ⟨rfl, rfl⟩)
  go_ret
  exact ⟨rfl, k6⟩
end Go.Proofs.Ytdlbgmkigfbfbaa
