import Derived.Test.YtjkgckdldmhgjaaArgruns
namespace Go.Proofs.Ytjkgckdldmhgjaa
open Go.RowKit
set_option linter.unusedVariables false
set_option linter.unusedSimpArgs false
set_option maxHeartbeats 2000000 in
set_option maxRecDepth 100000 in
theorem unpacks_walk (a : Option Addr) (len cap : Nat) (rs : List (Nat × Nat)) (a1 : Int) (w : World) (h : ArgRuns w a len cap rs) (w1 : (Lit.int .i64 a1).wf = true) :
    Calls Try.prog 4 #[.slice a len cap, .int .i64 a1] w fun e w' => e = .returned (.bool true) ∧ Below w.heap.size w w' := by
  obtain ⟨hn, hll, hseq, hM⟩ := h
  subst hll
  obtain ⟨b1, b2⟩ := Go.bounds_i64 w1
  clear w1
  obtain ⟨A', cp', hv, hlc, hcm, _⟩ := hseq.form
  simp only [Value.slice.injEq, true_and] at hv
  obtain ⟨rfl, rfl⟩ := hv
  unfold maxLen at hcm
  have H := Lib.hid hseq
  have HM := Lib.hid hM
  have hM' := hM
  clear hseq hM hn
  by_cases hs : 100 < rs.length
  · have e0 : decide ((100 : Int) < (rs.length : Int)) = true := by simp; omega
    have hbel := Below.refl w.heap.size w
    go_enter Try.func4, Try.ntmps4
    go_wp2_with (go_at_call 9; refine (awake_any _).mono ?_; rintro e w1 ⟨rfl, hb⟩; have hbel := then_ hbel hb; clear hb)
    go_ret
    exact ⟨rfl, hbel⟩
  have e0 : decide ((100 : Int) < (rs.length : Int)) = false := by simp; omega
  by_cases hb : 2000 < a1
  · have e1 : decide ((2000 : Int) < a1) = true := by simpa using hb
    have hbel := Below.refl w.heap.size w
    go_enter Try.func4, Try.ntmps4
    go_wp2_with (go_at_call 9; refine (awake_any _).mono ?_; rintro e w1 ⟨rfl, hb⟩; have hbel := then_ hbel hb; clear hb)
    go_ret
    exact ⟨rfl, hbel⟩
  have e1 : decide ((2000 : Int) < a1) = false := by simpa using hb
  have hlen : rs.length ≤ 100 := by omega
  have hbk := unpack_back rs a1
  have HBK := Lib.hid hbk
  have hoL := fun (x : Nat) (e : unpErr rs a1 = 0) => unpOut rs a1
  have hlo : (unpOut rs a1).length ≤ 2000 := by
    unfold unpOut
    split
    · rename_i he
      unfold unpErr at he
      split at he
      · omega
      · have := ((unpackE_iff _ _ _).1 he).2; omega
    · simp
  have hmo : ∀ n ∈ unpOut rs a1, n < M64 := by
    intro n hn
    unfold unpOut at hn
    split at hn
    · obtain ⟨p, hp, hq⟩ := List.mem_flatMap.1 hn
      have := List.eq_of_mem_replicate hq
      rw [this]; exact (hM' p hp).1
    · simp at hn
  clear hs hoL hbk hM'
  have hbel := Below.refl w.heap.size w
  go_enter Try.func4, Try.ntmps4
  go_wp2_with fail
  refine (awake_any _).mono ?_
  rintro e wA ⟨rfl, hb⟩
  have hbel := then_ hbel hb
  clear hb
  have hoE := World.ownsRow_made (base := w.heap.size) (e := 36) (size := 2) wA #[] 0 hbel.size (by unfold maxLen; omega) (by simp)
  have hbE : Below w.heap.size w (wA.alloc (.cells #[] 36)) := hbel.alloc hbel.size _
  have hbEs := hbE.size
  have HOE := Lib.hid hoE
  have hsE := H.out.later hbE
  have HSE := Lib.hid hsE
  clear hoE hsE
  go_wp2_with (at_builtin; refine append_argS _ 2 rfl (.tmp 25) (.tmp 26) 24 rfl w.heap.size 36 _ 16 Try.underlying24 Try.infoRun rfl (by omega) _ _ _ rfl HOE.out a rs.length cap rfl (cells2 rs) HSE.out (cells2_one' rs) (by unfold maxLen; omega) (by omega) hbEs ?_)
  intro v1 w1 ho1 hb1 _
  have hs1 : SeqS w1 2 v1 rs.length (cells2 rs) := SeqS.of_owns ho1
  have hb1 := hbE.trans hb1
  have HU := Lib.hid (runsUnpack v1 rs a1 w1 hs1 HM.out (by omega) (by omega))
  clear hs1 ho1 HSE HOE hbE hbEs
  go_wp2_with fail
  refine HU.out.mono ?_
  rintro e w2 ⟨vl, rfl, ho, hb2⟩
  have HL := Lib.hid (SeqAt.of_owns ho)
  have hb1 := hb1.trans (hb2.mono hb1.size)
  clear ho hb2 HU
  go_wp2
  have hb1s := hb1.size
  go_loopw [7, 34] (fun t c wr => ∃ k : Nat, k ≤ rs.length ∧ c = .int .i64 k ∧ wr.ownsRow w2.heap.size 37 2 t (rs.take k).length (cells2 (rs.take k)) ∧ Below w2.heap.size w2 wr)
    (fun _ c _ => rs.length - (intOf c).toNat)
  case atStart => exact ⟨0, by omega, rfl, World.ownsRow_nil _ _ _ _, Below.refl _ _⟩
  case round =>
    obtain ⟨k, hk, rfl, ho, hb⟩ := hrel
    by_cases hlt : k < rs.length
    · have hki : (k : Int) < (rs.length : Int) := by omega
      have hg : rs[k]? = some rs[k] := List.getElem?_eq_getElem hlt
      obtain ⟨b, off, rfl, c1, c2⟩ := seq2_at (H.out.later (hb1.trans (hb.mono hb1s))) hg hlt
      have hnx : rs.take (k + 1) = rs.take k ++ [rs[k]] := by rw [List.take_add_one, hg]; rfl
      have htl : (rs.take k).length = k := by rw [List.length_take]; omega
      generalize rs[k] = p at *
      obtain ⟨x, c⟩ := p
      simp only at c1 c2
      have HNX := Lib.hid hnx
      have hbs := hb.size
      have hba : Below w2.heap.size w2 (wr.alloc (.cells #[.int .u64 (x : Int), .int .u64 (c : Int)] 36)) := hb.alloc hbs _
      have hoa := ho.alloc (.cells #[.int .u64 (x : Int), .int .u64 (c : Int)] 36)
      have hsz : (wr.alloc (.cells #[.int .u64 (x : Int), .int .u64 (c : Int)] 36)).heap.size = wr.heap.size + 1 := by simp
      have hbas := hba.size
      rw [htl] at hoa
      obtain ⟨A2, cp2, hv2, _⟩ := (SeqS.of_owns hoa).form
      rw [hv2] at hoa
      rw [hv2]
      have HOA := Lib.hid hoa
      have HSZ := Lib.hid hsz
      clear hnx hg ho hsz hoa htl hb hv2
      go_wp2_with (at_builtin; refine append_oneS (wr.alloc (.cells #[.int .u64 (x : Int), .int .u64 (c : Int)] 36)) #[.int .u64 x, .int .u64 c] 2 rfl (.tmp 38) (.tmp 44) 30 rfl w2.heap.size 37 _ 16 Try.underlying30 Try.infoRun4 rfl (by omega) rfl (by simp [Value.oneCell']) _ _ _ rfl HOA.out (by rw [HSZ.out]; rfl) (by unfold maxLen; omega) (by omega) hbas ?_)
      intro v' w3 ho3 hb3 hgr
      have ho3' : w3.ownsRow w2.heap.size 37 2 v' (rs.take (k + 1)).length (cells2 (rs.take (k + 1))) := by
        rw [HNX.out, cells2_append, List.length_append, List.length_take, Nat.min_eq_left hk]; exact ho3
      have HO3 := Lib.hid ho3'
      have HB3 := Lib.hid (hba.trans hb3)
      clear ho3 ho3' hb3 hgr hba HOA HSZ c1 c2
      go_wp2
      go_roundw
      case rel => exact ⟨k + 1, by omega, by go_num, HO3.out, HB3.out⟩
      case measure => simp [intOf]; omega
    · obtain rfl : k = rs.length := by omega
      rw [List.take_of_length_le (Nat.le_refl _)] at ho
      have hL3 := HL.out.later_ hb
      have hbw := hb1.trans (hb.mono hb1s)
      have HU := Lib.hid (refUnpack _ rs a1 wr (SeqS.of_owns ho) HM.out (by omega) (by omega))
      have HO := Lib.hid (SeqS.of_owns ho)
      have HL3 := Lib.hid hL3
      clear HL hb1 hb1s hb hL3 ho H
      generalize unpOut rs a1 = O at *
      go_wp2_with fail
      refine HU.out.mono ?_
      rintro e w3 ⟨vk, rfl, ho3, hb3⟩
      have hsm := refSameNat vl vk O O w3 (HL3.out.later_ hb3) (SeqAt.of_owns ho3)
      rw [decide_eq_true (rfl : O = O)] at hsm
      have HSM := Lib.hid hsm
      have HL4 := Lib.hid (HL3.out.later_ hb3)
      have HO4 := Lib.hid (HO.out.later hb3)
      have hbw := hbw.trans (hb3.mono hbw.size)
      clear HU HL3 HO ho3 hb3 hsm
      go_wp2_with fail
      refine HSM.out.mono ?_
      rintro e w4 ⟨rfl, nd, hw4⟩
      have hb4 : Below w3.heap.size w3 w4 := by rw [hw4]; exact below_drew0 _ _
      have hbw := hbw.trans (hb4.mono hbw.size)
      have HL5 := Lib.hid (HL4.out.later_ hb4)
      have HO5 := Lib.hid (HO4.out.later hb4)
      clear HSM HL4 HO4 hb4 hw4
      by_cases hE : unpErr rs a1 = 0
      · have hbk := HBK.out hE
        rw [hE]
        clear hE HBK
        go_wp2_with fail
        refine (runsPack vl O w4 HL5.out (by omega) hmo).mono ?_
        rintro e w5 ⟨vp, rfl, ho5, hb5⟩
        rw [hbk] at ho5
        have hss := lawSame vp _ rs rs w5 (SeqS.of_owns ho5) (HO5.out.later hb5)
        rw [decide_eq_true (rfl : rs = rs)] at hss
        have HSS := Lib.hid hss
        have hbw := hbw.trans (hb5.mono hbw.size)
        clear hss ho5 hb5 HO5 HL5 hbk
        go_wp2_with fail
        refine HSS.out.mono ?_
        rintro e w6 ⟨rfl, nd2, hw6⟩
        have hb6 : Below w.heap.size w w6 := by rw [hw6]; exact below_drewN hbw _
        clear hw6
        go_wp2
        go_ret
        exact ⟨rfl, hb6⟩
      · have e5 : ((unpErr rs a1 : Nat) : Int) ≠ 0 := by omega
        have e6 : (((unpErr rs a1 : Nat) : Int) != 0) = true := by simpa using e5
        generalize unpErr rs a1 = E at *
        clear hE HBK e5
        go_wp2
        go_ret
        exact ⟨rfl, hbw⟩
end Go.Proofs.Ytjkgckdldmhgjaa
