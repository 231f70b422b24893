import Derived.Test.YtdlbgmkigfbfbaaLaws
namespace Go.Proofs.Ytdlbgmkigfbfbaa
open Go.RowKit
set_option linter.unusedVariables false
theorem cells64_one (l : List Nat) : ∀ u ∈ cells64 l, u.oneCell' = true := by
  intro u hu
  obtain ⟨n, _, rfl⟩ := List.mem_map.1 hu
  rfl
theorem cells64_length (l : List Nat) : (cells64 l).length = l.length := by simp [cells64]
theorem SeqAt.later {w w' : World} {v : Value} {xs : List Value} (h : SeqAt w v xs) (hb : Below w.heap.size w w') : SeqAt w' v xs := by
  obtain ⟨A, c, rfl, h1, h2, h3⟩ := h
  refine ⟨A, c, rfl, h1, h2, fun k u hu => ?_⟩
  obtain ⟨b, off, e, hc⟩ := h3 k u hu
  have hl := World.block_lt_of_cell? w _ hc
  exact ⟨b, off, e, (hb.cell (p := ⟨b, off + k, none⟩) hl).trans hc⟩
theorem below_drew (w : World) (n : Nat) : Below w.heap.size w (w.drewN n) := ⟨rfl, rfl, rfl, Nat.le_refl _, fun _ _ => rfl⟩
set_option maxHeartbeats 4000000 in
theorem back_walk (a0 : Option Addr) (len0 cap0 : Nat) (zs : List Int) (w : World) (w0 : ArgInts .u64 w a0 len0 cap0 zs) :
    Calls Try.prog 4 #[.slice a0 len0 cap0] w fun e w' => e = .returned (.bool true) ∧ Below w.heap.size w w' := by
  obtain ⟨l, hlt, hlen, hlc, hcm, h0, hr⟩ := argNats w0
  have hcm2 : cap0 ≤ 9223372036854775807 := by unfold maxLen at hcm; omega
  by_cases hb : 300 < len0
  · have e0 : decide ((300 : Int) < (len0 : Int)) = true := by simp; omega
    have hbel := Below.refl w.heap.size w
    go_enter Try.func4, Try.ntmps4
    go_wp2_with (go_at_call 8; refine (awake_any _).mono ?_; rintro e w1 ⟨rfl, hb⟩; have hbel := then_ hbel hb; clear hb)
    go_ret
    exact ⟨rfl, hbel⟩
  · have e0 : decide ((300 : Int) < (len0 : Int)) = false := by simp; omega
    have HR := Lib.hid hr
    have HL := Lib.hid hlen
    have H0 := Lib.hid h0
    have HLT := Lib.hid hlt
    have hcl : l.length ≤ 1099511627776 := by omega
    have HSD := Lib.hid (sums_deltas l hlt 0 (by decide))
    have HDS := Lib.hid (deltas_sums l hlt 0 (by decide))
    clear hr hlen h0 hlt w0
    go_enter Try.func4, Try.ntmps4
    go_wp2_with fail
    refine (awake_any w).mono ?_
    rintro e w1 ⟨rfl, k1⟩
    have hs1 := k1.size
    have ho1 := World.ownsRow_made (base := w.heap.size) (e := 22) (size := 1) w1 #[] 0 hs1 (by unfold maxLen; omega) rfl
    have k1b := k1.alloc hs1 (.cells #[] 22)
    have hx1 : ∀ k u, (cells64 l)[k]? = some u → ∃ b off, a0 = some ⟨b, off, none⟩ ∧ (w1.alloc (.cells #[] 22)).cell? ⟨b, off + k, none⟩ = some u := fun k u hu => HR.out.get k1b hu
    have HX1 := Lib.hid hx1
    clear hx1
    go_wp2_with (at_builtin; refine append_arg _ rfl (.tmp 13) (.tmp 14) 27 rfl w.heap.size 22 _ _ Try.underlying27 Try.infoU64 rfl _ _ _ rfl ho1 a0 len0 cap0 rfl (cells64 l) (by rw [cells64_length]; exact HL.out) H0.out HX1.out (cells64_one l) (by unfold maxLen; omega) (by omega) (by simp; omega) ?_; intro v2 w2 ho2 hb2 _)
    rw [List.nil_append, Nat.zero_add] at ho2
    have k2 := k1b.trans hb2
    clear ho1 k1b HX1 hb2
    refine (deltaDeltas v2 l w2 (SeqAt.of_owns ho2) HLT.out hcl).mono ?_
    rintro e w3 ⟨d, rfl, hd3, hb3⟩
    have k3 := then_ k2 hb3
    clear ho2 k2 hb3
    have hs3 := k3.size
    have ho3 := World.ownsRow_made (base := w.heap.size) (e := 22) (size := 1) w3 #[] 0 hs3 (by unfold maxLen; omega) rfl
    have k3b := k3.alloc hs3 (.cells #[] 22)
    have hx3 : ∀ k u, (cells64 l)[k]? = some u → ∃ b off, a0 = some ⟨b, off, none⟩ ∧ (w3.alloc (.cells #[] 22)).cell? ⟨b, off + k, none⟩ = some u := fun k u hu => HR.out.get k3b hu
    have HX3 := Lib.hid hx3
    have d3 := SeqAt.of_owns hd3
    have D3 := Lib.hid d3
    clear hx3 hd3 d3
    go_wp2_with (at_builtin; refine append_arg _ rfl (.tmp 17) (.tmp 18) 27 rfl w3.heap.size 22 _ _ Try.underlying27 Try.infoU64 rfl _ _ _ rfl (World.ownsRow_made w3 #[] 0 (Nat.le_refl _) (by unfold maxLen; omega) rfl) a0 len0 cap0 rfl (cells64 l) (by rw [cells64_length]; exact HL.out) H0.out HX3.out (cells64_one l) (by unfold maxLen; omega) (by omega) (by simp) ?_; intro v4 w4 ho4 hb4 _)
    rw [List.nil_append, Nat.zero_add] at ho4
    have k4 := k3b.trans (hb4.mono (Nat.le_trans hs3 (by simp)))
    have D4 := Lib.hid (D3.out.later (((Below.refl _ _).alloc (Nat.le_refl _) (.cells #[] 22)).trans hb4))
    clear D3 HX3 hb4 k3b ho3
    refine (deltaSums v4 l w4 (SeqAt.of_owns ho4) HLT.out hcl).mono ?_
    rintro e w5 ⟨s, rfl, hs5, hb5⟩
    have k5 := then_ k4 hb5
    have D5 := Lib.hid (D4.out.later hb5)
    have S5 := Lib.hid (SeqAt.of_owns hs5)
    have A5 := Lib.hid (SeqAt.of_arg HR.out k5 (by rw [cells64_length]; exact HL.out) hlc (by unfold maxLen; omega))
    clear D4 k4 ho4 hb5 hs5
    go_wp2_with fail
    refine (refDeltas _ l w5 A5.out HLT.out hcl).mono ?_
    rintro e w6 ⟨d6, rfl, hd6, hb6⟩
    have k6 := then_ k5 hb6
    have D6 := Lib.hid (D5.out.later hb6)
    have S6 := Lib.hid (S5.out.later hb6)
    have R6 := Lib.hid (SeqAt.of_owns hd6)
    clear k5 D5 S5 A5 hb6 hd6
    go_wp2_with fail
    refine (refSameNat _ _ _ _ w6 D6.out R6.out).mono ?_
    rintro e w7 ⟨rfl, n7, rfl⟩
    rw [decide_eq_true rfl]
    have hb7 := below_drew w6 n7
    have k7 := then_ k6 hb7
    have D7 := Lib.hid (D6.out.later hb7)
    have S7 := Lib.hid (S6.out.later hb7)
    clear k6 D6 S6 R6 hb7
    generalize w6.drewN n7 = w7 at *
    go_wp2_with fail
    refine (deltaSums _ _ w7 D7.out (deltas_lt l 0) (by rw [deltas_length]; exact hcl)).mono ?_
    rintro e w8 ⟨s8, rfl, hs8, hb8⟩
    rw [HSD.out] at hs8
    have k8 := then_ k7 hb8
    have S8 := Lib.hid (S7.out.later hb8)
    have R8 := Lib.hid (SeqAt.of_owns hs8)
    have A8 := Lib.hid (SeqAt.of_arg HR.out k8 (by rw [cells64_length]; exact HL.out) hlc (by unfold maxLen; omega))
    clear k7 D7 S7 hs8 hb8
    go_wp2_with fail
    refine (refSameNat _ _ _ _ w8 R8.out A8.out).mono ?_
    rintro e w9 ⟨rfl, n9, rfl⟩
    rw [decide_eq_true rfl]
    have hb9 := below_drew w8 n9
    have k9 := then_ k8 hb9
    have S9 := Lib.hid (S8.out.later hb9)
    clear k8 S8 R8 A8 hb9
    generalize w8.drewN n9 = w9 at *
    have A9 := Lib.hid (SeqAt.of_arg HR.out k9 (by rw [cells64_length]; exact HL.out) hlc (by unfold maxLen; omega))
    go_wp2_with fail
    refine (refSums _ l w9 A9.out HLT.out hcl).mono ?_
    rintro e w10 ⟨s10, rfl, hs10, hb10⟩
    have k10 := then_ k9 hb10
    have S10 := Lib.hid (S9.out.later hb10)
    have R10 := Lib.hid (SeqAt.of_owns hs10)
    clear k9 S9 A9 hs10 hb10
    go_wp2_with fail
    refine (refSameNat _ _ _ _ w10 S10.out R10.out).mono ?_
    rintro e w11 ⟨rfl, n11, rfl⟩
    rw [decide_eq_true rfl]
    have hb11 := below_drew w10 n11
    have k11 := then_ k10 hb11
    have S11 := Lib.hid (S10.out.later hb11)
    clear k10 S10 R10 hb11
    generalize w10.drewN n11 = w11 at *
    go_wp2_with fail
    refine (deltaDeltas _ _ w11 S11.out (sums_lt l 0) (by rw [sums_length]; exact hcl)).mono ?_
    rintro e w12 ⟨s12, rfl, hs12, hb12⟩
    rw [HDS.out] at hs12
    have k12 := then_ k11 hb12
    have R12 := Lib.hid (SeqAt.of_owns hs12)
    have A12 := Lib.hid (SeqAt.of_arg HR.out k12 (by rw [cells64_length]; exact HL.out) hlc (by unfold maxLen; omega))
    clear k11 S11 hs12 hb12
    go_wp2_with fail
    refine (refSameNat _ _ _ _ w12 R12.out A12.out).mono ?_
    rintro e w13 ⟨rfl, n13, rfl⟩
    rw [decide_eq_true rfl]
    have hb13 := below_drew w12 n13
    have k13 := then_ k12 hb13
    go_wp2_with fail
    go_ret
    exact ⟨rfl, k13⟩
end Go.Proofs.Ytdlbgmkigfbfbaa
