import Derived.Test.YtjkgckdldmhgjaaLaw2
namespace Go.Proofs.Ytjkgckdldmhgjaa
open Go.RowKit
set_option linter.unusedVariables false
set_option linter.unusedSimpArgs false
set_option maxHeartbeats 2000000 in
set_option maxRecDepth 100000 in
theorem prints_walk (a : Option Addr) (len cap : Nat) (zs : List Int) (more : ByteArray) (w : World) (h : ArgInts .u64 w a len cap zs) (wm : more.size ≤ maxLen) :
    Calls Try.prog 5 #[.slice a len cap, .string more] w fun e w' => e = .returned (.bool true) ∧ Below w.heap.size w w' := by
  obtain ⟨l, h0⟩ := argNats h
  obtain ⟨hn, hlc, hcm, hll, hrow, hM⟩ := id h0
  have H := Lib.hid h0
  have HM := Lib.hid hM
  subst hll
  unfold maxLen at hcm wm
  clear h h0 hrow hM hn
  by_cases hs : 300 < l.length
  · have e0 : decide ((300 : Int) < (l.length : Int)) = true := by simp; omega
    have hbel := Below.refl w.heap.size w
    go_enter Try.func5, Try.ntmps5
    go_wp2_with (go_at_call 9; refine (awake_any _).mono ?_; rintro e w1 ⟨rfl, hb⟩; have hbel := then_ hbel hb; clear hb)
    go_ret
    exact ⟨rfl, hbel⟩
  have e0 : decide ((300 : Int) < (l.length : Int)) = false := by simp; omega
  by_cases hb : 100 < more.size
  · have e1 : decide ((100 : Int) < (more.size : Int)) = true := by simp; omega
    have hbel := Below.refl w.heap.size w
    go_enter Try.func5, Try.ntmps5
    go_wp2_with (go_at_call 9; refine (awake_any _).mono ?_; rintro e w1 ⟨rfl, hb⟩; have hbel := then_ hbel hb; clear hb)
    go_ret
    exact ⟨rfl, hbel⟩
  have e1 : decide ((100 : Int) < (more.size : Int)) = false := by simp; omega
  have hlen : l.length ≤ 300 := by omega
  have hmz : more.size ≤ 100 := by omega
  have hpl := (packs_in l).1
  have hbl := bodyR_length (packs l)
  have hel := (enc_length (packs l).length).2
  have hprl : (printR l).length ≤ 6010 := by unfold printR; rw [List.length_append]; omega
  have hsz : (textB (printR l)).size = (printR l).length := textB_size _
  obtain ⟨r1, r2, r3⟩ := read_printed l more.data.toList (textB (printR l) ++ more) (by rw [ByteArray.data_append, Array.toList_append]; rfl) (by unfold M64; omega) HM.out
  have hsm : (textB (printR l)).size + more.size ≤ 9223372036854775807 := by omega
  have hP := fun w' (hb : Below w.heap.size w w') => runsPrint _ l w' (H.out.seq hb) (by omega) HM.out
  have hQ := fun w' (hb : Below w.heap.size w w') => refPrint4 _ l w' (H.out.seq hb) (by omega) HM.out
  have hsS : (textB (printR l) ++ more).size ≤ 1099511627776 := by rw [ByteArray.size_append]; omega
  rw [← hsz] at r2
  clear hs hb hpl hbl hel hsz
  generalize textB (printR l) = T at *
  have HP := Lib.hid hP
  have HQ := Lib.hid hQ
  have HR1 := Lib.hid r1
  have HR2 := Lib.hid r2
  have HR3 := Lib.hid r3
  have HSS := Lib.hid hsS
  clear hP hQ r1 r2 r3 hsS hprl
  have hbel := Below.refl w.heap.size w
  go_enter Try.func5, Try.ntmps5
  go_wp2_with fail
  refine (awake_any _).mono ?_
  rintro e wA ⟨rfl, hb⟩
  have hbel := then_ hbel hb
  clear hb
  go_wp2_with fail
  refine (HP.out _ hbel).mono ?_
  rintro e w1 ⟨rfl, hb1⟩
  have hbel := hbel.trans (hb1.mono hbel.size)
  clear hb1 HP
  have hNew := fun w' => octetNew (T ++ more) w' (by have := HSS.out; unfold maxLen; omega)
  have HNEW := Lib.hid hNew
  clear hNew
  go_wp2_with fail
  refine (HNEW.out w1).mono ?_
  rintro e w2 ⟨rfl, hr, hk⟩
  have hb2 := hk.all
  have hgs : w.heap.size ≤ w1.heap.size := hbel.size
  have hbel2 := hbel.trans (hb2.mono hbel.size)
  have hrd := runsRead w1.heap.size (T ++ more) 0 l.length w2 hr HSS.out (by omega) (by omega)
  rw [HR1.out, HR2.out, HR3.out] at hrd
  have HRD := Lib.hid hrd
  clear hr hb2 hrd HNEW hbel
  go_wp2_with fail
  refine HRD.out.mono ?_
  rintro e w3 ⟨vm, rfl, ho, hr3, hk3⟩
  have hb3 : Below w1.heap.size w1 w3 := ((hk.mono (T := oneRow w1.heap.size) (fun _ _ hf => hf.elim)).trans hk3 (fun _ _ h => h)).below (Nat.le_refl _) (fun k hk (h : k = _) => by omega)
  have hbel3 : Below w.heap.size w w3 := by
    have := hk3.below (B := w.heap.size) (Nat.le_trans hgs (by have := hk.size; omega)) (fun k hk (h : k = _) => by omega)
    exact hbel2.trans this
  have HO := Lib.hid (SeqAt.of_owns ho)
  have HR := Lib.hid hr3
  clear ho hr3 hk hk3 hb3 hbel2 HRD
  go_wp2_with fail
  refine (HQ.out _ hbel3).mono ?_
  rintro e w4 ⟨rfl, hb4⟩
  have hbel := hbel3.trans (hb4.mono hbel3.size)
  have hsm1 := refSameNat vm _ l l w4 (HO.out.later_ hb4) (H.out.seq hbel)
  rw [decide_eq_true (rfl : l = l)] at hsm1
  have HSM := Lib.hid hsm1
  have HR4 := Lib.hid (HR.out.kept (Kept.of_below hb4) (fun hf => hf))
  clear hsm1 HO HR hb4 hbel3 HQ
  go_wp2_with fail
  refine HSM.out.mono ?_
  rintro e w5 ⟨rfl, nd, hw5⟩
  have hbel : Below w.heap.size w w5 := by rw [hw5]; exact below_drewN hbel _
  have hr5 : RdAt w5 w1.heap.size (T ++ more) T.size := by rw [hw5]; exact HR4.out
  have hat := octetAt w1.heap.size (T ++ more) T.size w5 hr5
  have HAT := Lib.hid hat
  clear hw5 hr5 hat HR4 HSM
  go_wp2_with fail
  refine HAT.out.mono ?_
  rintro e w6 ⟨rfl, rfl⟩
  go_wp2
  go_ret
  exact ⟨rfl, hbel⟩
end Go.Proofs.Ytjkgckdldmhgjaa
