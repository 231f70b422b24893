import Derived.Test.YtjkgckdldmhgjaaLawsame
namespace Go.Proofs.Ytjkgckdldmhgjaa
open Go.RowKit
set_option linter.unusedVariables false
set_option linter.unusedSimpArgs false
theorem aw_pack : packs [7, 7, 7, 0] = [(7, 3), (0, 1)] := by decide
theorem aw_e : unpErr [(7, 3), (0, 1)] 4 = 0 := by decide
theorem aw_m : unpOut [(7, 3), (0, 1)] 4 = [7, 7, 7, 0] := by decide
theorem aw_f : unpErr [(7, 3), (0, 1)] 3 = 4 := by decide
theorem aw_g : unpErr [(1, 1), (1, 1)] 9 = 3 := by decide
theorem aw_h : redE ⟨#[2, 7, 2, 0, 0]⟩ 0 4 = 0 := by decide +kernel
theorem aw_r : redOf ⟨#[2, 7, 2, 0, 0]⟩ 0 4 = [7, 7, 7, 0] := by decide +kernel
theorem aw_i : redE ⟨#[2, 7, 2, 7, 0]⟩ 0 9 = 3 := by decide +kernel
theorem aw_s : textB (printR [7, 7, 7, 0]) = ⟨#[2, 7, 2, 0, 0]⟩ := by decide +kernel
theorem seqAt_of {w : World} {v : Value} {n : Nat} {xs : List Value} (h : SeqS w 1 v n xs) : SeqAt w v xs := by
  obtain ⟨h1, A, c, rfl, h2, h3, _, h4⟩ := h
  exact ⟨A, c, by rw [h1, Nat.mul_one], by omega, h3, h4⟩
theorem below_draws {B : Nat} {a w : World} (h : Below B a w) (n : Nat) : Below B a (w.drewN n) := below_drewN h n
set_option maxHeartbeats 2000000 in
set_option maxRecDepth 100000 in
theorem awake_any (w : World) : Calls Try.prog 9 #[] w fun e w' => e = .returned (.bool true) ∧ Below w.heap.size w w' := by
  have hl0 := World.ownsRow_lit (base := w.heap.size) (e := 34) (size := 1) w #[.int .u64 7, .int .u64 7, .int .u64 7, .int .u64 0] 4 (Nat.le_refl _) (by unfold maxLen; omega) (by simp)
  have hb0 : Below w.heap.size w (w.alloc (.cells #[.int .u64 7, .int .u64 7, .int .u64 7, .int .u64 0] 34)) := (Below.refl _ _).alloc (Nat.le_refl _) _
  have HL := Lib.hid (SeqAt.of_owns hl0)
  have hcs : #[Value.int .u64 7, .int .u64 7, .int .u64 7, .int .u64 0].toList = cells64 [7, 7, 7, 0] := rfl
  rw [hcs] at HL
  clear hl0 hcs
  go_enter Try.func9, Try.ntmps9
  go_wp2_with fail
  generalize w.alloc (.cells #[.int .u64 7, .int .u64 7, .int .u64 7, .int .u64 0] 34) = w0 at *
  generalize hv : Value.slice (some ⟨w.heap.size, 0, none⟩) 4 4 = vl at *
  clear hv
  refine (runsPack vl [7, 7, 7, 0] w0 HL.out (by simp) (by intro n hn; simp at hn; unfold M64; omega)).mono ?_
  rintro e w1 ⟨vp, rfl, ho, hb1⟩
  rw [aw_pack] at ho
  have HP := Lib.hid (SeqS.of_owns ho)
  have HL1 := Lib.hid (HL.out.later_ hb1)
  have hbel := hb0.trans (hb1.mono hb0.size)
  clear ho HL hb0 hb1
  go_wp2_with fail
  refine (runsUnpack vp _ 4 w1 HP.out (by intro q hq; simp at hq; rcases hq with rfl | rfl <;> simp [M64]) (by omega) (by omega)).mono ?_
  rintro e w2 ⟨vm, rfl, ho, hb2⟩
  rw [aw_m] at ho
  rw [aw_e]
  have HM := Lib.hid (SeqAt.of_owns ho)
  have HP2 := Lib.hid (HP.out.later hb2)
  have HL2 := Lib.hid (HL1.out.later_ hb2)
  have hbel := hbel.trans (hb2.mono hbel.size)
  clear ho HP HL1 hb2
  go_wp2_with fail
  refine (runsUnpack vp _ 3 w2 HP2.out (by intro q hq; simp at hq; rcases hq with rfl | rfl <;> simp [M64]) (by omega) (by omega)).mono ?_
  rintro e w3 ⟨v3, rfl, ho, hb3⟩
  rw [aw_f]
  have HM3 := Lib.hid (HM.out.later_ hb3)
  have HP3 := Lib.hid (HP2.out.later hb3)
  have HL3 := Lib.hid (HL2.out.later_ hb3)
  have hbel := hbel.trans (hb3.mono hbel.size)
  clear ho HP2 HL2 HM hb3
  have hq0 := World.ownsRow_lit (base := w3.heap.size) (e := 36) (size := 2) w3 #[.int .u64 1, .int .u64 1, .int .u64 1, .int .u64 1] 2 (Nat.le_refl _) (by unfold maxLen; omega) (by simp)
  have hbq : Below w3.heap.size w3 (w3.alloc (.cells #[.int .u64 1, .int .u64 1, .int .u64 1, .int .u64 1] 36)) := (Below.refl _ _).alloc (Nat.le_refl _) _
  have HQ := Lib.hid (SeqS.of_owns hq0)
  have hcs : #[Value.int .u64 1, .int .u64 1, .int .u64 1, .int .u64 1].toList = cells2 [(1, 1), (1, 1)] := rfl
  rw [hcs] at HQ
  have HM4 := Lib.hid (HM3.out.later_ hbq)
  have HP4 := Lib.hid (HP3.out.later hbq)
  have HL4 := Lib.hid (HL3.out.later_ hbq)
  have hbel := hbel.trans (hbq.mono hbel.size)
  clear hq0 hcs HM3 HP3 HL3 hbq
  go_wp2_with fail
  generalize w3.alloc (.cells #[.int .u64 1, .int .u64 1, .int .u64 1, .int .u64 1] 36) = w4 at *
  generalize hv : Value.slice (some ⟨w3.heap.size, 0, none⟩) 2 2 = vq at *
  clear hv
  refine (runsUnpack vq [(1, 1), (1, 1)] 9 w4 HQ.out (by intro q hq; simp at hq; subst hq; simp [M64]) (by omega) (by omega)).mono ?_
  rintro e w5 ⟨v5, rfl, ho, hb5⟩
  rw [aw_g]
  have HM5 := Lib.hid (HM4.out.later_ hb5)
  have HP5 := Lib.hid (HP4.out.later hb5)
  have HL5 := Lib.hid (HL4.out.later_ hb5)
  have hbel := hbel.trans (hb5.mono hbel.size)
  clear ho HP4 HL4 HM4 hb5 HQ
  go_wp2_with fail
  refine (octetNew ⟨#[2, 7, 2, 0, 0]⟩ w5 (by unfold maxLen; decide)).mono ?_
  rintro e w6 ⟨rfl, hr6, hk6⟩
  have HR6 := Lib.hid hr6
  go_wp2_with fail
  refine (runsRead w5.heap.size _ 0 4 w6 HR6.out (by decide) (by omega) (by omega)).mono ?_
  rintro e w7 ⟨v7, rfl, ho, _, hk7⟩
  have hb7 : Below w5.heap.size w5 w7 := ((hk6.mono (T := oneRow w5.heap.size) (fun _ _ hf => hf.elim)).trans hk7 (fun _ _ h => h)).below (Nat.le_refl _) (fun k hk (h : k = _) => by omega)
  rw [aw_r] at ho
  rw [aw_h]
  have HX := Lib.hid (SeqAt.of_owns ho)
  have HM6 := Lib.hid (HM5.out.later_ hb7)
  have HP6 := Lib.hid (HP5.out.later hb7)
  have HL6 := Lib.hid (HL5.out.later_ hb7)
  have hbel := hbel.trans (hb7.mono hbel.size)
  clear HM5 HP5 HL5 hb7 hk6 hk7 hr6 HR6 ho
  go_wp2_with fail
  refine (octetNew ⟨#[2, 7, 2, 7, 0]⟩ w7 (by unfold maxLen; decide)).mono ?_
  rintro e w8 ⟨rfl, hr6, hk6⟩
  have HR6 := Lib.hid hr6
  go_wp2_with fail
  refine (runsRead w7.heap.size _ 0 9 w8 HR6.out (by decide) (by omega) (by omega)).mono ?_
  rintro e w9 ⟨v9, rfl, ho, _, hk7⟩
  have hb7 : Below w7.heap.size w7 w9 := ((hk6.mono (T := oneRow w7.heap.size) (fun _ _ hf => hf.elim)).trans hk7 (fun _ _ h => h)).below (Nat.le_refl _) (fun k hk (h : k = _) => by omega)
  rw [aw_i]
  have HX7 := Lib.hid (HX.out.later_ hb7)
  have HM7 := Lib.hid (HM6.out.later_ hb7)
  have hp7 := HP6.out.later hb7
  have HL7 := Lib.hid (HL6.out.later_ hb7)
  have hbel := hbel.trans (hb7.mono hbel.size)
  clear HM6 HP6 HL6 hb7 hk6 hk7 hr6 HR6 ho HX
  obtain ⟨A, cp, hv, hc1, hc2, _⟩ := hp7.form
  rw [hv] at hp7
  rw [hv]
  obtain ⟨b, off, rfl, c1, c2⟩ := seq2_at hp7 (k := 0) (p := (7, 3)) rfl (by simp)
  obtain ⟨b', off', hbo, c3, c4⟩ := seq2_at hp7 (k := 1) (p := (0, 1)) rfl (by simp)
  simp only [Option.some.injEq, Addr.mk.injEq, and_true] at hbo
  obtain ⟨rfl, rfl⟩ := hbo
  simp only [Nat.zero_mul, Nat.add_zero, Nat.one_mul] at c1 c2 c3 c4
  unfold maxLen at hc2
  clear hp7 hv
  go_wp2_with fail
  have hs1 := refSameNat vm vl [7, 7, 7, 0] [7, 7, 7, 0] w9 HM7.out HL7.out
  rw [show decide ([7, 7, 7, 0] = [7, 7, 7, 0]) = true from rfl] at hs1
  have HS1 := Lib.hid hs1
  clear hs1
  refine HS1.out.mono ?_
  rintro e w10 ⟨rfl, nd, hw10⟩
  have hb10 : Below w9.heap.size w9 w10 := by rw [hw10]; exact below_drew0 _ _
  clear hw10 c1 c2 c3 c4 HS1
  have HX8 := Lib.hid (HX7.out.later_ hb10)
  have HL8 := Lib.hid (HL7.out.later_ hb10)
  have hbel := hbel.trans (hb10.mono hbel.size)
  clear HX7 HL7 HM7 hb10
  have hp1 := runsPrint vl [7, 7, 7, 0] w10 HL8.out (by simp) (by intro n hn; simp at hn; unfold M64; omega)
  rw [aw_s] at hp1
  have HP1 := Lib.hid hp1
  clear hp1
  go_wp2_with fail
  refine HP1.out.mono ?_
  rintro e w11 ⟨rfl, hb11⟩
  have hs1 := refSameNat v7 vl [7, 7, 7, 0] [7, 7, 7, 0] w11 (HX8.out.later_ hb11) (HL8.out.later_ hb11)
  rw [show decide ([7, 7, 7, 0] = [7, 7, 7, 0]) = true from rfl] at hs1
  have hbel := hbel.trans (hb11.mono hbel.size)
  have HS1 := Lib.hid hs1
  clear hs1 HX8 HL8 hb11 HP1
  go_wp2_with fail
  refine HS1.out.mono ?_
  rintro e w12 ⟨rfl, nd2, hw12⟩
  have hbel : Below w.heap.size w w12 := by rw [hw12]; exact below_drewN hbel _
  clear hw12 HS1
  go_wp2
  go_ret
  exact ⟨rfl, hbel⟩
end Go.Proofs.Ytjkgckdldmhgjaa
