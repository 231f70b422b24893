import Derived.Test.YtnhbeddmphlieaaLaw5
namespace Go.Proofs.Ytnhbeddmphlieaa
open Go.RowKit
set_option linter.unusedVariables false
set_option linter.unusedSimpArgs false
set_option maxHeartbeats 2000000 in
set_option maxRecDepth 100000 in
theorem back_walk (a : Option Addr) (len cap : Nat) (ps : List (Nat × Int)) (w : World) (h : ArgPieces w a len cap ps) :
    Calls Try.prog 5 #[.slice a len cap] w fun e w' => e = .returned (.bool true) ∧ Below w.heap.size w w' := by
  obtain ⟨hn, hll, hseq, hM⟩ := h
  subst hll
  obtain ⟨A', cp', hv, hlc, hcm, _⟩ := hseq.form
  simp only [Value.slice.injEq, true_and] at hv
  obtain ⟨rfl, rfl⟩ := hv
  unfold maxLen at hcm
  have H := Lib.hid hseq
  have HM := Lib.hid hM
  clear hseq hM hn
  by_cases hs : 100 < ps.length
  · have e0 : decide ((100 : Int) < (ps.length : Int)) = true := by simp; omega
    have hbel := Below.refl w.heap.size w
    go_enter Try.func5, Try.ntmps5
    go_wp2_with (go_at_call 8; refine (awake_any _).mono ?_; rintro e w1 ⟨rfl, hb⟩; have hbel := then_ hbel hb; clear hb)
    go_ret
    exact ⟨rfl, hbel⟩
  have e0 : decide ((100 : Int) < (ps.length : Int)) = false := by simp; omega
  have hlen : ps.length ≤ 100 := by omega
  clear hs
  have hbel := Below.refl w.heap.size w
  go_enter Try.func5, Try.ntmps5
  go_wp2_with fail
  refine (awake_any _).mono ?_
  rintro e wA ⟨rfl, hb⟩
  have hbel := then_ hbel hb
  clear hb
  have hwF := BwAt.fresh wA (wA.heap.size + 1)
  have hbF : Below w.heap.size w (wA.alloc (.cells #[.slice none 0 0, .int .i64 0] 26)) := hbel.alloc hbel.size _
  have hgA : w.heap.size ≤ wA.heap.size := hbel.size
  have HWF := Lib.hid hwF
  clear hwF hbel
  go_wp2
  generalize wA.alloc (.cells #[.slice none 0 0, .int .i64 0] 26) = wB at *
  generalize wA.heap.size = g at *
  have hwB : g + 1 ≤ wB.heap.size := by have := HWF.out.lt; omega
  go_loopw [21] (fun u wr => ∃ k : Nat, k ≤ ps.length ∧ u = .int .i64 k ∧ Hid (∀ p ∈ ps.take k, countsB p.2 = true) ∧ BwAt wr (g + 1) g (putBits (ps.take k)) ∧ g + 1 ≤ wr.heap.size ∧ Below w.heap.size w wr)
    (fun u _ => ps.length - (intOf u).toNat)
  case atStart => exact ⟨0, by omega, rfl, (by intro p hp; simp at hp), HWF.out, hwB, hbF⟩
  case round =>
    clear HWF hbF hwB
    obtain ⟨k, hk, rfl, hok, hw, hgr, hb⟩ := hrel
    by_cases hlt : k < ps.length
    · have hki : (k : Int) < (ps.length : Int) := by omega
      obtain ⟨⟨n, c⟩, hg⟩ : ∃ p, ps[k]? = some p := ⟨_, List.getElem?_eq_getElem hlt⟩
      obtain ⟨hn, hcl, hch⟩ := HM.out _ (List.mem_of_getElem? hg)
      obtain ⟨b, off, rfl, c1, c2⟩ := seqP_at (H.out.later hb) hg hlt
      have hnx := putBits_next hg
      have hpl := putBits_length (ps.take k)
      rw [List.length_take, Nat.min_eq_left hk] at hpl
      have hok' : countsB c = true → Hid (∀ p ∈ ps.take (k + 1), countsB p.2 = true) := fun hc => by
        intro p hp
        rw [take_next hg] at hp
        rcases List.mem_append.1 hp with hp | hp
        · exact hok.out p hp
        · simp at hp; subst hp; exact hc
      simp only at c1 c2 hnx hn hcl hch
      generalize putBits (ps.take k) = l at *
      have hn2 : n ≤ 18446744073709551615 := by omega
      have hli := Lies.made wr 30 #[.int .u64 (n : Int), .int .i64 c]
      have hba := hb.alloc hb.size (.cells #[.int .u64 (n : Int), .int .i64 c] 30)
      have hbA : Below wr.heap.size wr (wr.alloc (.cells #[.int .u64 (n : Int), .int .i64 c] 30)) := (Below.refl _ _).alloc (Nat.le_refl _) _
      have hwa := hw.later hbA
      have hgra : g + 1 ≤ (wr.alloc (.cells #[.int .u64 (n : Int), .int .i64 c] 30)).heap.size := Nat.le_trans hgr hbA.size
      have HNX := Lib.hid hnx
      have HW := Lib.hid hwa
      have HL := Lib.hid hli
      have HOK := Lib.hid hok'
      clear hnx hw hli hbA hwa hg hb hgr hok hok'
      by_cases hc : c < 0 ∨ 64 < c
      · have e1 : decide (c < 0) = true ∨ decide (c < 0) = false ∧ decide ((64 : Int) < c) = true := by
          rcases hc with h | h
          · exact .inl (decide_eq_true h)
          · by_cases h0 : c < 0
            · exact .inl (decide_eq_true h0)
            · exact .inr ⟨decide_eq_false h0, decide_eq_true h⟩
        have d1 := HL.out.cell 1
        simp at d1
        clear hc
        rcases e1 with e1 | ⟨e1, e2⟩
        · go_wp2
          go_ret
          exact ⟨rfl, hba⟩
        · go_wp2
          go_ret
          exact ⟨rfl, hba⟩
      · obtain ⟨m, rfl⟩ : ∃ m : Nat, c = m := ⟨c.toNat, by omega⟩
        have hm : m ≤ 64 := by omega
        have e1 : decide ((m : Int) < 0) = false := by simp
        have e2 : decide ((64 : Int) < (m : Int)) = false := by simp; omega
        have hcb := countsB_yes (c := (m : Int)) (by omega) (by omega)
        have hnx := HNX.out
        rw [hcb, if_pos rfl, Int.toNat_natCast] at hnx
        have HNX2 := Lib.hid hnx
        have HOK2 := HOK.out hcb
        have hP := bitsPut (g + 1) g n m l _ HW.out hgra (by omega) hn hm
        have HP := Lib.hid hP
        have hgx := bw_not HW.out HL.out (by decide) (by decide)
        have hgg : g ≠ wr.heap.size := fun e => hgx (.inl e.symm)
        clear hnx HNX hc hP hcb HOK
        go_wp2_with fail
        refine HP.out.mono ?_
        rintro e w2 ⟨rfl, hw2, hk2⟩
        have hb2 : Below w.heap.size w w2 := below_bw hba hk2 (by omega) (by omega) hba.size
        have hg2 : g + 1 ≤ w2.heap.size := by have := hk2.size; omega
        have HW2 := Lib.hid hw2
        clear hw2 hk2 HW HL hba HP hgx
        go_wp2
        go_roundw
        case rel => exact ⟨k + 1, by omega, by go_num, HOK2, by rw [HNX2.out]; exact HW2.out, hg2, hb2⟩
        case measure => simp [intOf]; omega
    · obtain rfl : k = ps.length := by omega
      rw [List.take_of_length_le (Nat.le_refl _)] at hw hok
      have hpl := putBits_length ps
      have hcut := fun j n (c : Nat) (h : ps[j]? = some (n, (c : Int))) hc => cut_pack (ps := ps) (k := j) (n := n) (c := c) h hc
      have hdone := done_pack (putBits ps)
      have hts : (textB (packB (putBits ps))).size = ((putBits ps).length + 7) / 8 := by rw [textB_size, packB_length]
      have HPB : Hid ((putBits (ps.take ps.length)).length = (putBits ps).length) := by show _ = _; rw [List.take_of_length_le (Nat.le_refl _)]
      have HST := Lib.hid (bitsString (g + 1) g _ _ hw)
      generalize hL : (putBits ps).length = L at *
      have HW := Lib.hid hw
      generalize hT : textB (packB (putBits ps)) = T at *
      have HCUT := Lib.hid hcut
      have HDONE := Lib.hid hdone
      have hTs : T.size ≤ 1099511627776 := by omega
      have hL8 : L ≤ 8 * T.size := by omega
      have HLN := Lib.hid hL
      clear hT hcut hdone hw hts hL
      go_wp2_with fail
      refine HST.out.mono ?_
      rintro e w' ⟨rfl, rfl⟩
      go_wp2_with fail
      refine (bitsNew T wr hTs).mono ?_
      rintro e w5 ⟨rfl, hr5, hk5⟩
      have hb5 : Below wr.heap.size wr w5 := hk5.below (Nat.le_refl _) (fun _ _ hf => hf)
      have hbel5 := hb.trans (hb5.mono hb.size)
      have HW5 := Lib.hid (HW.out.later hb5)
      have HR5 := Lib.hid hr5
      have hgr0 : g < wr.heap.size := HW.out.lt
      have hgw : w.heap.size ≤ wr.heap.size := hb.size
      clear HST HW hr5 hk5 hb5 hb hgr
      generalize wr.heap.size = r at *
      have hw5r : r < w5.heap.size := HR5.out.lt
      go_wp2
      go_loopw [43] (fun u wq => ∃ k : Nat, k ≤ ps.length ∧ u = .int .i64 k ∧ BwAt wq (g + 1) g (putBits ps) ∧ BrAt wq r T (putBits (ps.take k)).length ∧ r < wq.heap.size ∧ Below w.heap.size w wq)
        (fun u _ => ps.length - (intOf u).toNat)
      case atStart => exact ⟨0, by omega, rfl, HW5.out, by simpa [putBits] using HR5.out, hw5r, hbel5⟩
      case round =>
        clear HW5 HR5 hbel5 hw5r
        obtain ⟨k, hk, rfl, hw, hr, hrs, hb⟩ := hrel
        by_cases hlt : k < ps.length
        · have hki : (k : Int) < (ps.length : Int) := by omega
          obtain ⟨⟨n, c⟩, hg⟩ : ∃ p, ps[k]? = some p := ⟨_, List.getElem?_eq_getElem hlt⟩
          obtain ⟨hn, hcl, hch⟩ := HM.out _ (List.mem_of_getElem? hg)
          have hcc := hok.out _ (List.mem_of_getElem? hg)
          obtain ⟨b, off, rfl, c1, c2⟩ := seqP_at (H.out.later hb) hg hlt
          simp only at c1 c2 hn hcl hch hcc
          have hcc2 := of_decide_eq_true hcc
          obtain ⟨m, rfl⟩ : ∃ m : Nat, c = m := ⟨c.toNat, by omega⟩
          obtain ⟨hcut, hnx, hle⟩ := HCUT.out k n m hg hcc
          have hm : m ≤ 64 := by omega
          have hn2 : n ≤ 18446744073709551615 := by omega
          generalize hi : (putBits (ps.take k)).length = i at *
          have hT := bitsTakeOk r T i m
          rw [hcut] at hT
          have hnb := numB_bitsN n m
          have hnl : numB (bitsN n m) ≤ n := by rw [hnb]; exact Nat.mod_le _ _
          have hba := hb.alloc hb.size (.cells #[.int .u64 (n : Int), .int .i64 (m : Int)] 30)
          have hbA : Below wr.heap.size wr (World.alloc wr (.cells #[.int .u64 (n : Int), .int .i64 (m : Int)] 30)) := (Below.refl _ _).alloc (Nat.le_refl _) _
          have hwa := hw.later hbA
          have hra := hr.later hbA
          have hla := Lies.made wr 30 #[.int .u64 (n : Int), .int .i64 (m : Int)]
          have hlr : wr.heap.size ≠ r := by omega
          have hgq : g < wr.heap.size := hw.lt
          have HT := Lib.hid (hT _ hra hm (by omega))
          have HRA := Lib.hid hra.1
          have HWA := Lib.hid hwa
          have HLA := Lib.hid hla
          have hrsA : r < (World.alloc wr (.cells #[.int .u64 (n : Int), .int .i64 (m : Int)] 30)).heap.size := Nat.lt_of_lt_of_le hrs hbA.size
          have hnb64 : numB (bitsN n m) < 18446744073709551616 := by omega
          have hln := bitsN_length n m
          have HRN := Lib.hid (fun v w h => refNumber v (bitsN n m) w h (by rw [hln]; exact hm))
          have HRB := Lib.hid (fun w => refBits n m w hn hm)
          generalize hB : bitsN n m = Bt at *
          clear hB hcut hwa hra hla hT hw hr hb hbA hg hnb hln hcc hcc2
          generalize hN : numB Bt = N at *
          go_wp2_with fail
          refine HT.out.mono ?_
          rintro e w2 ⟨rfl, hr2, hk2⟩
          have HL2 := Lib.hid (HLA.out.kept hk2 hlr)
          have hw2 := HWA.out.keptT hk2 (fun e : g = r => by omega) (fun k cur hl (e : k = r) => by subst e; exact absurd (hl.same HRA.out).1 (by decide))
          have hb2 := hba.trans (hk2.below hba.size (fun j hj (e : j = r) => by omega))
          have hrs2 : r < w2.heap.size := Nat.lt_of_lt_of_le hrsA hk2.size
          have HW2 := Lib.hid hw2
          have HR2 := Lib.hid hr2
          have d0 := (HL2.out.cell 0).trans (show _ = some (Value.int .u64 (n : Int)) from rfl)
          have d1 := (HL2.out.cell 1).trans (show _ = some (Value.int .i64 (m : Int)) from rfl)
          clear hw2 hr2 hk2 HRA HWA HLA hba HT
          go_wp2_with fail
          refine (HRB.out w2).mono ?_
          rintro e w3 ⟨vb, rfl, hob, hb3⟩
          have HN3 := Lib.hid (HRN.out vb w3 (SeqAt.of_owns hob))
          have HW3 := Lib.hid (HW2.out.later hb3)
          have HR3 := Lib.hid (HR2.out.later hb3)
          have hrs3 := Nat.lt_of_lt_of_le hrs2 hb3.size
          have hbw := hb2.trans (hb3.mono hb2.size)
          obtain ⟨A3, cp3, hv3, _⟩ := (SeqS.of_owns hob).form
          rw [hv3] at HN3
          rw [hv3]
          clear HW2 HR2 hb2 hb3 hob hv3 d0 d1
          go_wp2_with fail
          refine HN3.out.mono ?_
          rintro e w' ⟨rfl, rfl⟩
          rw [hnx] at HR3
          clear hnx HN3 HRN HRB
          go_wp2
          go_roundw
          case rel => exact ⟨k + 1, by omega, by go_num, HW3.out, HR3.out, hrs3, hbw⟩
          case measure => simp [intOf]; omega
        · obtain rfl : k = ps.length := by omega
          rw [HPB.out] at hr
          have hd := bitsDone r T L _ hr
          rw [HDONE.out] at hd
          have HD := Lib.hid hd
          have HR := Lib.hid hr
          have HW := Lib.hid hw
          clear hd hr hw
          go_wp2_with fail
          refine HD.out.mono ?_
          rintro e w6 ⟨rfl, hb6⟩
          have hb7 := hb.trans (hb6.mono hb.size)
          have hr6 := HR.out.later hb6
          have hw6 := HW.out.later hb6
          have HA6 := Lib.hid (bitsAt r T L w6 hr6)
          have hl6 := bitsLen (g + 1) g _ w6 hw6
          rw [HLN.out] at hl6
          have HL6 := Lib.hid hl6
          clear hr6 hw6 hl6 HD HR HW hb hb6
          go_wp2_with fail
          refine HA6.out.mono ?_
          rintro e w' ⟨rfl, rfl⟩
          go_wp2_with fail
          refine HL6.out.mono ?_
          rintro e w' ⟨rfl, rfl⟩
          go_wp2
          go_ret
          exact ⟨rfl, hb7⟩
end Go.Proofs.Ytnhbeddmphlieaa
