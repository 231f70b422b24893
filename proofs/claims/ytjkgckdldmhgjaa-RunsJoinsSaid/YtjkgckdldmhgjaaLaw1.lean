import Derived.Test.YtjkgckdldmhgjaaAwake
namespace Go.Proofs.Ytjkgckdldmhgjaa
open Go.RowKit
set_option linter.unusedVariables false
set_option linter.unusedSimpArgs false
theorem Try.row22 : (Try.prog.info? 34).map (fun i => (i.zero, i.size, i.bytes)) = some (some (.int .u64 0), 1, 8) := Try.infoU64
set_option maxHeartbeats 1000000 in
set_option maxRecDepth 100000 in
theorem packs_walk (a : Option Addr) (len cap : Nat) (zs : List Int) (w : World) (h : ArgInts .u64 w a len cap zs) :
    Calls Try.prog 3 #[.slice a len cap] w fun e w' => e = .returned (.bool true) ∧ Below w.heap.size w w' := by
  obtain ⟨l, h0⟩ := argNats h
  obtain ⟨hn, hlc, hcm, hll, hrow, hM⟩ := id h0
  have H := Lib.hid h0
  unfold maxLen at hcm
  clear h h0
  by_cases hs : 500 < len
  · have e0 : decide ((500 : Int) < (len : Int)) = true := by simp; omega
    clear hrow hM hll hn
    have hbel := Below.refl w.heap.size w
    go_enter Try.func3, Try.ntmps3
    go_wp2_with (go_at_call 9; refine (awake_any _).mono ?_; rintro e w1 ⟨rfl, hb⟩; have hbel := then_ hbel hb; clear hb)
    go_ret
    exact ⟨rfl, hbel⟩
  have e0 : decide ((500 : Int) < (len : Int)) = false := by simp; omega
  have hHX := fun w' (hb : Below w.heap.size w w') k u (hu : (cells64 l)[k]? = some u) => hrow.get hb hu
  have HX := Lib.hid hHX
  have HM := Lib.hid hM
  have HN := Lib.hid hn
  have HLL := Lib.hid hll
  have hlen : len ≤ 500 := by omega
  clear hrow hM hn hHX hll hs
  have hbel := Below.refl w.heap.size w
  go_enter Try.func3, Try.ntmps3
  go_wp2_with fail
  refine (awake_any _).mono ?_
  rintro e wA ⟨rfl, hb⟩
  have hbel := then_ hbel hb
  clear hb
  have hoE := World.ownsRow_made (base := w.heap.size) (e := 34) (size := 1) wA #[] 0 hbel.size (by unfold maxLen; omega) (by simp)
  have hbE : Below w.heap.size w (wA.alloc (.cells #[] 34)) := hbel.alloc hbel.size _
  have hbEs := hbE.size
  have HOE := Lib.hid hoE
  clear hoE
  go_wp2_with (at_builtin; refine append_arg _ rfl (.tmp 14) (.tmp 15) 22 rfl w.heap.size 34 _ _ Try.underlying22 Try.row22 rfl _ _ _ rfl HOE.out a len cap rfl (cells64 l) (by rw [cells64_length]; exact HLL.out) HN.out (HX.out _ hbE) (cells64_one l) (by unfold maxLen; omega) (by omega) hbEs ?_)
  intro v1 w1 ho1 hb1 _
  have hs1 : SeqAt w1 v1 (cells64 l) := SeqAt.of_owns ho1
  have hb1 := (hbE.trans hb1)
  have HS1 := Lib.hid hs1
  clear hs1 ho1
  go_wp2_with fail
  refine (runsPack v1 l w1 HS1.out (by rw [HLL.out]; omega) HM.out).mono ?_
  rintro e w2 ⟨vp, rfl, ho, hb2⟩
  have HP := Lib.hid (SeqS.of_owns ho)
  have hb1 := hb1.trans (hb2.mono hb1.size)
  clear ho hb2 HS1 HOE hbE hbEs
  have hpk : ∀ p ∈ packs l, p.1 < M64 ∧ p.2 < M64 := fun p hp => ⟨packs_mem l HM.out p hp, by have := (packs_in l).2 p hp; rw [HLL.out] at this; unfold M64; omega⟩
  have hu := runsUnpack vp (packs l) len w2 HP.out hpk (by omega) (by omega)
  obtain ⟨hu1, hu2⟩ := unpack_packs l
  rw [HLL.out] at hu1 hu2
  rw [hu1, hu2] at hu
  have HU := Lib.hid hu
  clear hpk hu hu1 hu2
  go_wp2_with fail
  refine HU.out.mono ?_
  rintro e w3 ⟨vm, rfl, ho, hb3⟩
  have HMm := Lib.hid (SeqAt.of_owns ho)
  have HP3 := Lib.hid (HP.out.later hb3)
  have hb1 := hb1.trans (hb3.mono hb1.size)
  clear ho hb3 HU HP
  go_wp2_with fail
  refine (refPack _ l w3 (H.out.seq hb1) (by rw [HLL.out]; omega) HM.out).mono ?_
  rintro e w4 ⟨vq, rfl, ho, hb4⟩
  have hss := lawSame vp vq (packs l) (packs l) w4 (HP3.out.later hb4) (SeqS.of_owns ho)
  rw [decide_eq_true (rfl : packs l = packs l)] at hss
  have HSS := Lib.hid hss
  have HM4 := Lib.hid (HMm.out.later_ hb4)
  have hb1 := hb1.trans (hb4.mono hb1.size)
  clear ho hb4 hss HP3 HMm
  go_wp2_with fail
  refine HSS.out.mono ?_
  rintro e w5 ⟨rfl, nd, hw5⟩
  have hb5 : Below w4.heap.size w4 w5 := by rw [hw5]; exact below_drew0 _ _
  have hb1 := hb1.trans (hb5.mono hb1.size)
  have hsm := refSameNat vm _ l l w5 (HM4.out.later_ hb5) (H.out.seq hb1)
  rw [decide_eq_true (rfl : l = l)] at hsm
  have HSM := Lib.hid hsm
  clear hw5 hb5 hsm HSS HM4
  go_wp2_with fail
  refine HSM.out.mono ?_
  rintro e w6 ⟨rfl, nd2, hw6⟩
  have hb1 : Below w.heap.size w w6 := by rw [hw6]; exact below_drewN hb1 _
  clear hw6
  go_wp2
  go_ret
  exact ⟨rfl, hb1⟩
end Go.Proofs.Ytjkgckdldmhgjaa
