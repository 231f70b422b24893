import Derived.Test.YtakggmfpgopcgaaZz5
namespace Go.Proofs.Ytakggmfpgopcgaa
open Go.RowKit
set_option linter.unusedVariables false
set_option linter.unusedSimpArgs false
def prS (S : Sta) : ByteArray := if encB S then textB (encs (stL S)) else ⟨#[]⟩
def prE (S : Sta) : Int := if encB S then 0 else 1
theorem thL_len {x : Th} (h : thEB x = true) : (thL x).length ≤ 65600 := by
 unfold thEB at h
 rw [Bool.and_eq_true, decide_eq_true_eq] at h
 unfold thL
 simp
 omega
theorem rgL_len {x : Rs} (h : rgEB x = true) : (rsL x).length ≤ 65600 := by
 unfold rgEB at h
 rw [Bool.and_eq_true, Bool.and_eq_true, decide_eq_true_eq, decide_eq_true_eq] at h
 have := flat_le (f := slL) (c := 3) x.sl (fun y _ => by simp [slL])
 unfold rsL
 simp only [List.length_append, List.length_cons, List.length_nil]
 omega
set_option maxHeartbeats 8000000 in
set_option maxRecDepth 100000 in
theorem snapPrint (S : Sta) (A B : Option Addr) (c d : Nat) (w : World) (ht : ThsR w (.slice A S.th.length c) S.th) (hr : RgsR w (.slice B S.rg.length d) S.rg) (hok : StOk S) :
  Calls Try.prog 7 #[.agg (stC (.slice A S.th.length c) (.slice B S.rg.length d) S.now S.rds S.en)] w fun e w' => e = .returned (.tuple #[.string (prS S), .int .i64 (prE S)]) ∧ Below w.heap.size w w' := by
 obtain ⟨hc1, hc2⟩ := ht.caps
 obtain ⟨hd1, hd2⟩ := hr.caps
 have HT := Lib.hid ht
 have HR := Lib.hid hr
 have HOK := Lib.hid hok
 have hsx := SxAt.start w (stC (.slice A S.th.length c) (.slice B S.rg.length d) S.now S.rds S.en)
 have HI0 := Lib.hid hsx
 have hldS := st_loadL2 hsx.2
 have HEN := Lib.hid (snapEnc S A B c d _ (ht.later hsx.1) (hr.later hsx.1))
 have HD : Hid (prS S = (if encB S then textB (encs (stL S)) else ⟨#[]⟩) ∧ prE S = (if encB S then 0 else 1)) := ⟨rfl, rfl⟩
 obtain ⟨eb, heb⟩ : ∃ b, encB S = b := ⟨_, rfl⟩
 rw [heb] at HEN
 have HEB : Hid (encB S = eb) := heb
 obtain ⟨now, hnow⟩ : ∃ x, S.now = x := ⟨_, rfl⟩
 obtain ⟨rds, hrds⟩ : ∃ x, S.rds = x := ⟨_, rfl⟩
 obtain ⟨en, hen⟩ : ∃ x, S.en = x := ⟨_, rfl⟩
 rw [hnow, hrds, hen] at HI0 hldS HEN ⊢
 have HSF : Hid (S.now = now ∧ S.rds = rds ∧ S.en = en) := ⟨hnow, hrds, hen⟩
 clear ht hr hok hsx heb hnow hrds hen
 go_enter Try.func7, Try.ntmps7
 go_upto_region 1 with (fail)
 generalize hw1 : w.alloc _ = w1 at *
 clear hw1
 refine wp_region_lit ?_
 refine wpList_load_known rfl _ _ rfl w.heap.size 0 rfl _ hldS ?_
 clear hldS
 go_wp2_with fail
 refine HEN.out.mono ?_
 rintro e w2 ⟨rfl, hb2⟩
 have HI2 := Lib.hid (HI0.out.later hb2)
 clear HI0 HEN hb2
 cases eb
 case false =>
  go_wp2_with fail
  go_ret2
  exact ⟨by rw [HD.out.1, HD.out.2, HEB.out]; rfl, HI2.out.1⟩
 case true =>
  have hen := HEB.out
  unfold encB at hen
  rw [Bool.and_eq_true, Bool.and_eq_true, Bool.and_eq_true, decide_eq_true_eq, decide_eq_true_eq] at hen
  obtain ⟨h8, g8, hta, hra⟩ := hen
  have HTA := Lib.hid (List.all_eq_true.1 hta)
  have HRA := Lib.hid (List.all_eq_true.1 hra)
  clear hta hra
  obtain ⟨G, hG⟩ : ∃ n, w2.heap.size = n := ⟨_, rfl⟩
  have hlt : w.heap.size < G := by rw [← hG]; exact HI2.out.2.lt
  have hwr : WrAt (w2.alloc (.cells #[.slice none 0 0] 59)) G G ByteArray.empty := by rw [← hG]; exact WrAt.fresh w2 w2.heap.size (Nat.le_refl _)
  have hbm : Below w2.heap.size w2 (w2.alloc (.cells #[.slice none 0 0] 59)) := (Below.refl _ _).alloc (Nat.le_refl _) _
  have hP : PrAt w G (stC (.slice A S.th.length c) (.slice B S.rg.length d) now rds en) [] (w2.alloc (.cells #[.slice none 0 0] 59)) := ⟨(HI2.out.later hbm).1, (HI2.out.later hbm).2, hwr, hlt⟩
  have HP := Lib.hid hP
  clear hwr hbm hP HI2 HD
  go_upto_region 4 with (fail)
  generalize w2.alloc (.cells #[.slice none 0 0] 59) = w3 at *
  clear hG
  have x0 := (HP.out.box.cell 0).trans (show _ = some (Value.slice A S.th.length c) from rfl)
  have xl := HP.out.box.lt
  have wl := HP.out.le
  have q1 : IntKind.u64.wrap (S.th.length : Int) = (S.th.length : Int) := IntWalk.u64_in _ (by omega)
  have hbm : Below w3.heap.size w3 (w3.alloc (.cells #[.int .u64 (S.th.length : Int)] 24)) := (Below.refl _ _).alloc (Nat.le_refl _) _
  have HP3 := Lib.hid (HP.out.later hbm)
  have HC := Lib.hid (prNumbers 1 [S.th.length] (.slice (some ⟨w3.heap.size, 0, none⟩) 1 1) HP3.out (nm_lit HP3.out.wr (Lies.made w3 24 #[.int .u64 (S.th.length : Int)]) rfl rfl (by decide)) (by intro n hn; rw [List.mem_singleton.1 hn]; unfold M64; omega) (by simp))
  clear HP hbm
  go_wp2_with fail
  clear x0 xl wl
  refine HC.out.mono ?_
  rintro e w5 ⟨rfl, h5, _⟩
  have HI : Hid (PrAt w G (stC (.slice A S.th.length c) (.slice B S.rg.length d) now rds en) ([S.th.length] ++ (S.th.take 0).flatMap thL) w5) := h5
  clear HC HP3 h5
  have x0 := (HI.out.box.cell 0).trans (show _ = some (Value.slice A S.th.length c) from rfl)
  have xl := HI.out.box.lt
  go_wp2_with fail
  clear x0 xl
  go_loopw [23] (fun u wr => ∃ k : Nat, k ≤ S.th.length ∧ u = .int .i64 k ∧ Hid (PrAt w G (stC (.slice A S.th.length c) (.slice B S.rg.length d) now rds en) ([S.th.length] ++ (S.th.take k).flatMap thL) wr)) (fun u _ => S.th.length - (intOf u).toNat)
  case atStart => exact ⟨0, by omega, rfl, HI⟩
  case round =>
   clear HI
   obtain ⟨k, hk, rfl, HI⟩ := hrel
   by_cases hlt : k < S.th.length
   ·have hki : (k : Int) < (S.th.length : Int) := by omega
    obtain ⟨x, hx⟩ : ∃ x, S.th[k]? = some x := ⟨_, List.getElem?_eq_getElem hlt⟩
    obtain ⟨T, o, Sn, ds, rfl, hTl, hcell, hsq, hs1, hs2⟩ := HT.out.at_ hx
    have hld := th_load2 (q := wr) (b := T) (off := o + k * 14) (fun j u hu => (HI.out.bel.cell (p := ⟨T, o + k * 14 + j, none⟩) hTl).trans (hcell j u hu))
    have hTw := Nat.lt_of_lt_of_le hTl HI.out.bel.size
    have hxe := HTA.out x (List.mem_of_getElem? hx)
    have hxo := HOK.out.th x (List.mem_of_getElem? hx)
    have hxl := thL_len hxe
    have hln : ((S.th.take k).flatMap thL).length ≤ k * 65600 := by
     have := flat_le (f := thL) (c := 65600) (S.th.take k) (fun y hy => thL_len (HTA.out y (List.mem_of_mem_take hy)))
     rw [List.length_take, Nat.min_eq_left hk] at this; exact this
    have HFL := Lib.hid (flat_take (f := thL) hx)
    unfold thEB at hxe
    rw [Bool.and_eq_true, Bool.and_eq_true, Bool.and_eq_true, Bool.and_eq_true, decide_eq_true_eq] at hxe
    obtain ⟨hsn, s1, s2, s3, s4⟩ := hxe
    obtain ⟨a1, ea1, ha1⟩ := smB_of s1
    obtain ⟨a2, ea2, ha2⟩ := smB_of s2
    obtain ⟨a3, ea3, ha3⟩ := smB_of s3
    obtain ⟨a4, ea4, ha4⟩ := smB_of s4
    have HTL : Hid (thL x = [a1, a2, a3, a4, x.tk] ++ ((List.range 8).map x.r ++ (x.sn.length :: x.sn))) := by
     show thL x = _
     unfold thL; rw [ea1, ea2, ea3, ea4]; rfl
    obtain ⟨_, _, _, _, htk, hrg, hsnb⟩ := hxo
    have w1 : IntKind.u64.wrap x.at_ = x.at_ := IntWalk.u64_in _ (by omega)
    have w2 : IntKind.u64.wrap x.ph = x.ph := IntWalk.u64_in _ (by omega)
    have w3 : IntKind.u64.wrap x.rg = x.rg := IntWalk.u64_in _ (by omega)
    have w4 : IntKind.u64.wrap x.st = x.st := IntWalk.u64_in _ (by omega)
    have hb1 : Below wr.heap.size wr (wr.alloc (.cells (thC x (.slice Sn x.sn.length ds)) 40)) := (Below.refl _ _).alloc (Nat.le_refl _) _
    have hl1 := Lies.made wr 40 (thC x (.slice Sn x.sn.length ds))
    have hp1 := HI.out.later hb1
    have HPT := Lib.hid hp1
    have HLT := Lib.hid hl1
    have HSQ := Lib.hid hsq
    have EA := Lib.hid (And.intro ea1 (And.intro ea2 (And.intro ea3 ea4)))
    clear hcell hx s1 s2 s3 s4 hb1 hl1 hp1 hsq ea1 ea2 ea3 ea4
    go_upto_region 8 with (first | refine wpList_load_known rfl _ _ rfl T (o + k * 14) rfl _ hld ?_)
    obtain ⟨g5, hg5⟩ : ∃ n, wr.heap.size = n := ⟨_, rfl⟩
    rw [hg5] at HLT ⊢
    have hwS : Hid ((wr.alloc (.cells (thC x (.slice Sn x.sn.length ds)) 40)).heap.size = g5 + 1) := by rw [← hg5]; exact World.size_alloc ..
    generalize wr.alloc (.cells (thC x (.slice Sn x.sn.length ds)) 40) = w6 at *
    clear hld hTw HI
    have y0 := (HLT.out.cell 0).trans (show _ = some (Value.int .i64 x.at_) from rfl)
    have y1 := (HLT.out.cell 1).trans (show _ = some (Value.int .i64 x.ph) from rfl)
    have y2 := (HLT.out.cell 2).trans (show _ = some (Value.int .i64 x.rg) from rfl)
    have y3 := (HLT.out.cell 3).trans (show _ = some (Value.int .i64 x.st) from rfl)
    have y4 := (HLT.out.cell 4).trans (show _ = some (Value.int .u64 (x.tk : Int)) from rfl)
    have yl := HLT.out.lt
    have hb2 : Below w6.heap.size w6 (w6.alloc (.cells #[.int .u64 x.at_, .int .u64 x.ph, .int .u64 x.rg, .int .u64 x.st, .int .u64 (x.tk : Int)] 24)) := (Below.refl _ _).alloc (Nat.le_refl _) _
    have HP2 := Lib.hid (HPT.out.later hb2)
    have HL2 := Lib.hid (HLT.out.below hb2 HLT.out.lt)
    have HC := Lib.hid (prNumbers 5 [a1, a2, a3, a4, x.tk] (.slice (some ⟨w6.heap.size, 0, none⟩) 5 5) HP2.out (nm_lit HP2.out.wr (Lies.made w6 24 #[.int .u64 x.at_, .int .u64 x.ph, .int .u64 x.rg, .int .u64 x.st, .int .u64 (x.tk : Int)]) (by rw [EA.out.1, EA.out.2.1, EA.out.2.2.1, EA.out.2.2.2]; rfl) rfl (by decide)) (by
     intro n hn
     simp only [List.mem_cons, List.not_mem_nil, or_false] at hn
     unfold M64
     rcases hn with rfl | rfl | rfl | rfl | rfl <;> omega) (by rw [List.length_append]; simp only [List.length_cons, List.length_nil]; omega))
    clear hb2 HPT
    go_wp2_with fail
    clear y0 y1 y2 y3 y4 yl
    refine HC.out.mono ?_
    rintro e w7 ⟨rfl, h7, k7⟩
    have HL7 := Lib.hid (lies_wr2 HL2.out HP2.out.wr k7 (by decide) (by decide))
    have HP7 := Lib.hid h7
    clear HC HP2 HL2 h7 k7
    have y5 := (HL7.out.cell 5).trans (show _ = some (Value.int .u64 (x.r 0 : Int)) from rfl)
    have yl := HL7.out.lt
    have HC := Lib.hid (prNumbers 8 ((List.range 8).map x.r) (.slice (some ⟨g5, 5, none⟩) 8 8) HP7.out (NmAt.of_lies (xs := (List.range 8).map x.r) HP7.out.wr HL7.out (by decide) (by decide) (by simp) (by decide) (fun j u hu => by
     have hj : j < 8 := by have := (List.getElem?_eq_some_iff.1 hu).1; simpa [cells64] using this
     rw [thC_reg _ _ hj, ← hu]
     unfold cells64
     simp [hj])) (by
     intro n hn
     obtain ⟨j, _, rfl⟩ := List.mem_map.1 hn
     have := hrg j
     unfold M64; omega) (by rw [List.length_append, List.length_append]; simp only [List.length_cons, List.length_nil, List.length_map, List.length_range]; omega))
    go_wp2_with fail
    clear y5 yl
    refine HC.out.mono ?_
    rintro e w8 ⟨rfl, h8, k8⟩
    have HL8 := Lib.hid (lies_wr2 HL7.out HP7.out.wr k8 (by decide) (by decide))
    have HP8 := Lib.hid h8
    clear HC HP7 HL7 h8 k8
    have y13 := (HL8.out.cell 13).trans (show _ = some (Value.slice Sn x.sn.length ds) from rfl)
    have yl := HL8.out.lt
    have HC := Lib.hid (prList x.sn (.slice Sn x.sn.length ds) HP8.out (HP8.out.old HSQ.out) (fun n hn => by have := hsnb n hn; unfold M64; omega) (by rw [List.length_append, List.length_append, List.length_append]; simp only [List.length_cons, List.length_nil, List.length_map, List.length_range]; omega))
    go_wp2_with fail
    clear y13 yl
    refine HC.out.mono ?_
    rintro e w9 ⟨rfl, h9, _⟩
    have HP9 : Hid (PrAt w G (stC (.slice (some ⟨T, o, none⟩) S.th.length c) (.slice B S.rg.length d) now rds en) ([S.th.length] ++ (S.th.take (k + 1)).flatMap thL) w9) := by
     rw [List.append_assoc, List.append_assoc, List.append_assoc, ← HTL.out, ← HFL.out] at h9
     exact h9
    clear HC HP8 HL8 h9
    go_wp2_with fail
    go_roundw
    case rel => exact ⟨k + 1, by omega, by go_num, HP9⟩
    case measure => simp [intOf]; omega
   ·obtain rfl : k = S.th.length := by omega
    rw [List.take_length] at HI
    have hL0 : ([S.th.length] ++ S.th.flatMap thL).length ≤ 600000 := by
     have := flat_le (f := thL) (c := 65600) S.th (fun y hy => thL_len (HTA.out y hy))
     rw [List.length_append, List.length_singleton]
     have : S.th.length * 65600 ≤ 8 * 65600 := Nat.mul_le_mul_right _ h8
     omega
    obtain ⟨L0, hL⟩ : ∃ L, [S.th.length] ++ S.th.flatMap thL = L := ⟨_, rfl⟩
    rw [hL] at HI hL0
    have HLL : Hid ([S.th.length] ++ S.th.flatMap thL = L0) := hL
    clear hL HTA
    have x1 := (HI.out.box.cell 1).trans (show _ = some (Value.slice B S.rg.length d) from rfl)
    have xl := HI.out.box.lt
    have wl := HI.out.le
    have q1 : IntKind.u64.wrap (S.rg.length : Int) = (S.rg.length : Int) := IntWalk.u64_in _ (by omega)
    have hbm : Below wr.heap.size wr (wr.alloc (.cells #[.int .u64 (S.rg.length : Int)] 24)) := (Below.refl _ _).alloc (Nat.le_refl _) _
    have HP3 := Lib.hid (HI.out.later hbm)
    have HC := Lib.hid (prNumbers 1 [S.rg.length] (.slice (some ⟨wr.heap.size, 0, none⟩) 1 1) HP3.out (nm_lit HP3.out.wr (Lies.made wr 24 #[.int .u64 (S.rg.length : Int)]) rfl rfl (by decide)) (by intro n hn; rw [List.mem_singleton.1 hn]; unfold M64; omega) (by simp; omega))
    clear HI hbm
    go_wp2_with fail
    clear x1 xl wl
    refine HC.out.mono ?_
    rintro e w5 ⟨rfl, h5, _⟩
    have HI : Hid (PrAt w G (stC (.slice A S.th.length c) (.slice B S.rg.length d) now rds en) (L0 ++ ([S.rg.length] ++ (S.rg.take 0).flatMap rsL)) w5) := h5
    clear HC HP3 h5
    have x1 := (HI.out.box.cell 1).trans (show _ = some (Value.slice B S.rg.length d) from rfl)
    have xl := HI.out.box.lt
    go_wp2_with fail
    clear x1 xl
    go_loopw [59] (fun u wr => ∃ k : Nat, k ≤ S.rg.length ∧ u = .int .i64 k ∧ Hid (PrAt w G (stC (.slice A S.th.length c) (.slice B S.rg.length d) now rds en) (L0 ++ ([S.rg.length] ++ (S.rg.take k).flatMap rsL)) wr)) (fun u _ => S.rg.length - (intOf u).toNat)
    case atStart => exact ⟨0, by omega, rfl, HI⟩
    case round =>
     clear HI
     obtain ⟨k, hk, rfl, HI⟩ := hrel
     by_cases hlt : k < S.rg.length
     ·have hki : (k : Int) < (S.rg.length : Int) := by omega
      obtain ⟨x, hx⟩ : ∃ x, S.rg[k]? = some x := ⟨_, List.getElem?_eq_getElem hlt⟩
      obtain ⟨T, o, S1, d1, S2, d2, rfl, hTl, hcell, ⟨hsq, p1, p2⟩, hsl, p3, p4⟩ := HR.out.at_ hx
      have hld := rg_load2 (q := wr) (b := T) (off := o + k * 4) (fun j u hu => (HI.out.bel.cell (p := ⟨T, o + k * 4 + j, none⟩) hTl).trans (hcell j u hu))
      have hTw := Nat.lt_of_lt_of_le hTl HI.out.bel.size
      have hxe := HRA.out x (List.mem_of_getElem? hx)
      have hxo := HOK.out.rg x (List.mem_of_getElem? hx)
      have hxl := rgL_len hxe
      have hln : ((S.rg.take k).flatMap rsL).length ≤ k * 65600 := by
       have := flat_le (f := rsL) (c := 65600) (S.rg.take k) (fun y hy => rgL_len (HRA.out y (List.mem_of_mem_take hy)))
       rw [List.length_take, Nat.min_eq_left hk] at this; exact this
      have HFL := Lib.hid (flat_take (f := rsL) hx)
      unfold rgEB at hxe
      rw [Bool.and_eq_true, Bool.and_eq_true, decide_eq_true_eq, decide_eq_true_eq] at hxe
      obtain ⟨hhl, hsll, hsa⟩ := hxe
      have HSA := Lib.hid (List.all_eq_true.1 hsa)
      have HRL : Hid (rsL x = [x.tl] ++ ((x.hs.length :: x.hs) ++ ([tru x.cl, x.sl.length] ++ x.sl.flatMap slL))) := rfl
      obtain ⟨htl, hhb, hsb⟩ := hxo
      have HSB := Lib.hid hsb
      have HHB := Lib.hid hhb
      unfold M64 at htl
      have hb1 : Below wr.heap.size wr (wr.alloc (.cells (rgC2 x.tl (.slice S1 x.hs.length d1) x.cl (.slice S2 x.sl.length d2)) 54)) := (Below.refl _ _).alloc (Nat.le_refl _) _
      have hl1 := Lies.made wr 54 (rgC2 x.tl (.slice S1 x.hs.length d1) x.cl (.slice S2 x.sl.length d2))
      have HPT := Lib.hid (HI.out.later hb1)
      have HLT := Lib.hid hl1
      have HSQ := Lib.hid hsq
      have HSLQ := Lib.hid hsl
      clear hcell hx hb1 hl1 hsq hsl hsa hsb hhb
      go_upto_region 16 with (first | refine wpList_load_known rfl _ _ rfl T (o + k * 4) rfl _ hld ?_)
      obtain ⟨g5, hg5⟩ : ∃ n, wr.heap.size = n := ⟨_, rfl⟩
      rw [hg5] at HLT ⊢
      generalize wr.alloc (.cells (rgC2 x.tl (.slice S1 x.hs.length d1) x.cl (.slice S2 x.sl.length d2)) 54) = w6 at *
      clear hld hTw HI
      have y0 := (HLT.out.cell 0).trans (show _ = some (Value.int .u64 (x.tl : Int)) from rfl)
      have yl := HLT.out.lt
      have hb2 : Below w6.heap.size w6 (w6.alloc (.cells #[.int .u64 (x.tl : Int)] 24)) := (Below.refl _ _).alloc (Nat.le_refl _) _
      have HP2 := Lib.hid (HPT.out.later hb2)
      have HL2 := Lib.hid (HLT.out.below hb2 HLT.out.lt)
      have HC := Lib.hid (prNumbers 1 [x.tl] (.slice (some ⟨w6.heap.size, 0, none⟩) 1 1) HP2.out (nm_lit HP2.out.wr (Lies.made w6 24 #[.int .u64 (x.tl : Int)]) rfl rfl (by decide)) (by intro n hn; rw [List.mem_singleton.1 hn]; unfold M64; omega) (by rw [List.length_append, List.length_append]; simp only [List.length_cons, List.length_nil]; omega))
      clear hb2 HPT
      go_wp2_with fail
      clear y0 yl
      refine HC.out.mono ?_
      rintro e w7 ⟨rfl, h7, k7⟩
      have HL7 := Lib.hid (lies_wr2 HL2.out HP2.out.wr k7 (by decide) (by decide))
      have HP7 := Lib.hid h7
      clear HC HP2 HL2 h7 k7
      have y1 := (HL7.out.cell 1).trans (show _ = some (Value.slice S1 x.hs.length d1) from rfl)
      have yl := HL7.out.lt
      have HC := Lib.hid (prList x.hs (.slice S1 x.hs.length d1) HP7.out (HP7.out.old HSQ.out) HHB.out (by rw [List.length_append, List.length_append, List.length_append]; simp only [List.length_cons, List.length_nil]; omega))
      go_wp2_with fail
      clear y1 yl
      refine HC.out.mono ?_
      rintro e w8 ⟨rfl, h8', k8⟩
      have HL8 := Lib.hid (lies_wr2 HL7.out HP7.out.wr k8 (by decide) (by decide))
      obtain ⟨M1, hM1⟩ : ∃ M, L0 ++ ([S.rg.length] ++ (S.rg.take k).flatMap rsL) ++ [x.tl] ++ (x.hs.length :: x.hs) = M := ⟨_, rfl⟩
      rw [hM1] at h8'
      have hM1l : M1.length ≤ 600000 + 1 + k * 65600 + 1 + 9 := by
       rw [← hM1]; rw [List.length_append, List.length_append, List.length_append, List.length_append]; simp only [List.length_cons, List.length_nil]; omega
      have HM1 : Hid (L0 ++ ([S.rg.length] ++ (S.rg.take k).flatMap rsL) ++ [x.tl] ++ (x.hs.length :: x.hs) = M1) := hM1
      have HP8 := Lib.hid h8'
      clear HC HP7 HL7 h8' k8 hM1
      have q5 : IntKind.u64.wrap (x.sl.length : Int) = (x.sl.length : Int) := IntWalk.u64_in _ (by omega)
      go_wp2_with fail
      refine wp_region_relyx (PhS [8] [[2, 7]] (onP (prA w G (stC (.slice A S.th.length c) (.slice (some ⟨T, o, none⟩) S.rg.length d) now rds en) g5 54 (rgC2 x.tl (.slice S1 x.hs.length d1) x.cl (.slice S2 x.sl.length d2)) M1) (prA w G (stC (.slice A S.th.length c) (.slice (some ⟨T, o, none⟩) S.rg.length d) now rds en) g5 54 (rgC2 x.tl (.slice S1 x.hs.length d1) x.cl (.slice S2 x.sl.length d2)) (M1 ++ [tru x.cl, x.sl.length])))) (bfV [.eq (.pointer (some ⟨g5, 2, none⟩)), .eq (.bool x.cl), .eq (.int .u64 (tru x.cl : Int)), .eq (.pointer (some ⟨g5, 3, none⟩)), .eq (.slice S2 x.sl.length d2), .eq (.int .i64 (x.sl.length : Int)), .eq (.int .u64 (x.sl.length : Int)), .of (fun v q => ∃ b, v = Value.slice (some ⟨b, 0, none⟩) 2 2 ∧ Lies q b 24 #[.int .u64 (tru x.cl : Int), .int .u64 (x.sl.length : Int)]) (fun _ _ _ hb ⟨b, h1, h2⟩ => ⟨b, h1, h2.below hb h2.lt⟩), .any]) [some 70, some 71, some 72, some 73, some 74, some 75, some 76, some 77, some 78] [[], [0], [1], [], [3], [4], [5], [2, 6], [7]] [[], [0], [0, 1], [], [3], [3, 4], [4, 5], [1, 2, 5, 6], [1, 2, 6, 7]] [[2, 3, 4, 5, 6, 7, 8], [3, 4, 5, 6, 7, 8], [3, 4, 5, 6], [0, 1, 2, 5, 6, 7, 8], [0, 1, 2, 6, 7, 8], [0, 1, 2, 7, 8], [0, 1, 2, 8], [3], [3, 4]] [0, 1, 2, 3, 4, 5, 6, 7, 8] 9 (by kernel_rfl) (by kernel_rfl) (by kernel_rfl) (by kernel_rfl) ?rS (fun j h1 h2 => absurd (Nat.lt_of_lt_of_le h1 (Nat.le_trans (by decide) h2)) (Nat.lt_irrefl _)) ?rT ?rE
      case rS => exact ph_start ⟨HP8.out.later (below_drewN (Below.refl _ _) 1), HL8.out.drewN 1⟩
      case rT =>
       refine RelyStepsX.cons (RelyStepX.mk [] [2, 3, 4, 5, 6, 7, 8] rfl rfl rfl (fun xv Lv wS hS hL hLd hV bq hb K hK => ?_)) ?_
       ·clear hV
        simp only [putsOf, List.foldl_cons, List.foldl_nil, List.getD_cons_zero, List.getD_cons_succ, List.getD_nil, cond_true, cond_false, Act.put, List.setIfInBounds_toArray, List.set_cons_zero, List.set_cons_succ] at hb
        subst hb
        rw [if_pos (by rfl)]
        (have c9 := (prA_any hS).2.lt)
        go_wp2_with fail
        exact hK.out _ _ ⟨_, rfl, prA_op (i := 0) rfl hS, rfl, AllPX.same _⟩
       refine RelyStepsX.cons (RelyStepX.mk [0] [3, 4, 5, 6, 7, 8] rfl rfl rfl (fun xv Lv wS hS hL hLd hV bq hb K hK => ?_)) ?_
       ·obtain ⟨h0, _⟩ := hV
        have h0 : xv 0 = _ := h0
        simp only [putsOf, List.foldl_cons, List.foldl_nil, List.getD_cons_zero, List.getD_cons_succ, List.getD_nil, cond_true, cond_false, Act.put, List.setIfInBounds_toArray, List.set_cons_zero, List.set_cons_succ, h0] at hb
        clear h0
        subst hb
        rw [if_pos (by rfl)]
        (have c8 := ((prA_any hS).2.cell 2).trans (show _ = some (Value.bool x.cl) from rfl); have c9 := (prA_any hS).2.lt)
        go_wp2_with fail
        exact hK.out _ _ ⟨_, rfl, prA_op (i := 1) rfl hS, rfl, AllPX.same _⟩
       refine RelyStepsX.cons (RelyStepX.mk [1] [3, 4, 5, 6] rfl rfl rfl (fun xv Lv wS hS hL hLd hV bq hb K hK => ?_)) ?_
       ·obtain ⟨h1, _⟩ := hV
        have h1 : xv 1 = _ := h1
        simp only [putsOf, List.foldl_cons, List.foldl_nil, List.getD_cons_zero, List.getD_cons_succ, List.getD_nil, cond_true, cond_false, Act.put, List.setIfInBounds_toArray, List.set_cons_zero, List.set_cons_succ, h1] at hb
        clear h1
        subst hb
        rw [if_pos (by rfl)]
        have HSS := Lib.hid hS
        clear hS
        go_wp2_with fail
        refine (snapTruth x.cl wS).mono ?_
        rintro e w9 ⟨rfl, rfl⟩
        exact hK.out _ _ ⟨_, rfl, prA_op rfl HSS.out, rfl, AllPX.same _⟩
       refine RelyStepsX.cons (RelyStepX.mk [] [0, 1, 2, 5, 6, 7, 8] rfl rfl rfl (fun xv Lv wS hS hL hLd hV bq hb K hK => ?_)) ?_
       ·clear hV
        simp only [putsOf, List.foldl_cons, List.foldl_nil, List.getD_cons_zero, List.getD_cons_succ, List.getD_nil, cond_true, cond_false, Act.put, List.setIfInBounds_toArray, List.set_cons_zero, List.set_cons_succ] at hb
        subst hb
        rw [if_pos (by rfl)]
        (have c9 := (prA_any hS).2.lt)
        go_wp2_with fail
        exact hK.out _ _ ⟨_, rfl, prA_op (i := 3) rfl hS, rfl, AllPX.same _⟩
       refine RelyStepsX.cons (RelyStepX.mk [3] [0, 1, 2, 6, 7, 8] rfl rfl rfl (fun xv Lv wS hS hL hLd hV bq hb K hK => ?_)) ?_
       ·obtain ⟨h3, _⟩ := hV
        have h3 : xv 3 = _ := h3
        simp only [putsOf, List.foldl_cons, List.foldl_nil, List.getD_cons_zero, List.getD_cons_succ, List.getD_nil, cond_true, cond_false, Act.put, List.setIfInBounds_toArray, List.set_cons_zero, List.set_cons_succ, h3] at hb
        clear h3
        subst hb
        rw [if_pos (by rfl)]
        (have c8 := ((prA_any hS).2.cell 3).trans (show _ = some (Value.slice S2 x.sl.length d2) from rfl); have c9 := (prA_any hS).2.lt)
        go_wp2_with fail
        exact hK.out _ _ ⟨_, rfl, prA_op (i := 4) rfl hS, rfl, AllPX.same _⟩
       refine RelyStepsX.cons (RelyStepX.mk [4] [0, 1, 2, 7, 8] rfl rfl rfl (fun xv Lv wS hS hL hLd hV bq hb K hK => ?_)) ?_
       ·obtain ⟨h4, _⟩ := hV
        have h4 : xv 4 = _ := h4
        simp only [putsOf, List.foldl_cons, List.foldl_nil, List.getD_cons_zero, List.getD_cons_succ, List.getD_nil, cond_true, cond_false, Act.put, List.setIfInBounds_toArray, List.set_cons_zero, List.set_cons_succ, h4] at hb
        clear h4
        subst hb
        rw [if_pos (by rfl)]
        go_wp2_with fail
        exact hK.out _ _ ⟨_, rfl, prA_op (i := 5) rfl hS, rfl, AllPX.same _⟩
       refine RelyStepsX.cons (RelyStepX.mk [5] [0, 1, 2, 8] rfl rfl rfl (fun xv Lv wS hS hL hLd hV bq hb K hK => ?_)) ?_
       ·obtain ⟨h5, _⟩ := hV
        have h5 : xv 5 = _ := h5
        simp only [putsOf, List.foldl_cons, List.foldl_nil, List.getD_cons_zero, List.getD_cons_succ, List.getD_nil, cond_true, cond_false, Act.put, List.setIfInBounds_toArray, List.set_cons_zero, List.set_cons_succ, h5] at hb
        clear h5
        subst hb
        rw [if_pos (by rfl)]
        go_wp2_with fail
        exact hK.out _ _ ⟨_, rfl, prA_op (i := 6) rfl hS, rfl, AllPX.same _⟩
       refine RelyStepsX.cons (RelyStepX.mk [2, 6] [3] rfl rfl rfl (fun xv Lv wS hS hL hLd hV bq hb K hK => ?_)) ?_
       ·obtain ⟨h2, h6, _⟩ := hV
        have h2 : xv 2 = _ := h2
        have h6 : xv 6 = _ := h6
        simp only [putsOf, List.foldl_cons, List.foldl_nil, List.getD_cons_zero, List.getD_cons_succ, List.getD_nil, cond_true, cond_false, Act.put, List.setIfInBounds_toArray, List.set_cons_zero, List.set_cons_succ, h2, h6] at hb
        clear h2
        clear h6
        subst hb
        rw [if_pos (by rfl)]
        have HSS := Lib.hid hS
        clear hS
        go_wp2_with fail
        have hb : Below wS.heap.size wS (wS.alloc (.cells #[.int .u64 (tru x.cl : Int), .int .u64 (x.sl.length : Int)] 24)) := (Below.refl _ _).alloc (Nat.le_refl _) _
        exact hK.out _ _ ⟨_, rfl, ph_more prA_pha rfl HSS.out hb, ⟨wS.heap.size, rfl, Lies.made _ _ _⟩, AllPX.of _ (fun j _ _ h => bfV_below hb h)⟩
       refine RelyStepsX.cons (RelyStepX.mk [7] [3, 4] rfl rfl rfl (fun xv Lv wS hS hL hLd hV bq hb K hK => ?_)) ?_
       ·obtain ⟨h7, _⟩ := hV
        simp only [putsOf, List.foldl_cons, List.foldl_nil, List.getD_cons_zero, List.getD_cons_succ, List.getD_nil, cond_true, cond_false, Act.put, List.setIfInBounds_toArray, List.set_cons_zero, List.set_cons_succ] at hb
        generalize hy7 : xv 7 = y7 at *
        subst hb
        rw [if_pos (by rfl)]
        have hp := on_get hS hL
        have HP := Lib.hid hp
        have HSS := Lib.hid hS
        obtain ⟨b9, rfl, hl9⟩ := h7
        have HC := Lib.hid (prNumbers 2 [tru x.cl, x.sl.length] (.slice (some ⟨b9, 0, none⟩) 2 2) hp.1 (nm_lit hp.1.wr hl9 rfl rfl (by decide)) (by
         intro n hn
         simp only [List.mem_cons, List.not_mem_nil, or_false] at hn
         unfold M64
         rcases hn with rfl | rfl
         ·cases x.cl <;> decide
         ·omega) (by simp only [List.length_cons, List.length_nil]; omega))
        clear hS hp hl9
        go_wp2_with fail
        refine HC.out.mono ?_
        rintro e w7 ⟨rfl, h7, k7⟩
        exact hK.out _ _ ⟨_, rfl, on_put HSS.out hL (fun j hj => hLd j (by revert hj; revert j; decide +kernel)) ⟨h7, lies_wr2 HP.out.2 HP.out.1.wr k7 (by decide) (by decide)⟩, trivial, AllPX.of _ (fun j hj _ h => bfV_lit (by rfl) hj h)⟩
       exact RelyStepsX.nil
      case rE =>
       intro xv Lv wE hS hLall hV
       have h8 := hV 8 (by decide) (by decide)
       clear hV
       have hp := on_end hS (hLall 8 (by decide +kernel))
       simp only [putsOf, List.foldl_cons, List.foldl_nil, List.getD_cons_zero, List.getD_cons_succ, List.getD_nil, cond_true, cond_false, Act.put, List.setIfInBounds_toArray, List.set_cons_zero, List.set_cons_succ]
       generalize xv 0 = y0 at *
       generalize xv 1 = y1 at *
       generalize xv 2 = y2 at *
       generalize xv 3 = y3 at *
       generalize xv 4 = y4 at *
       generalize xv 5 = y5 at *
       generalize xv 6 = y6 at *
       generalize xv 7 = y7 at *
       generalize xv 8 = y8 at *
       have HPE := Lib.hid hp.1
       have HLE := Lib.hid hp.2
       clear hS hp h8 hLall HP8 HL8
       generalize wE = w9 at *
       have HI9 : Hid (PrAt w G (stC (.slice A S.th.length c) (.slice (some ⟨T, o, none⟩) S.rg.length d) now rds en) (M1 ++ [tru x.cl, x.sl.length] ++ (x.sl.take 0).flatMap slL) w9) := by
        show PrAt _ _ _ _ _
        rw [List.take_zero, List.flatMap_nil, List.append_nil]; exact HPE.out
       have y3 := (HLE.out.cell 3).trans (show _ = some (Value.slice S2 x.sl.length d2) from rfl)
       have yl := HLE.out.lt
       clear HPE HLE
       go_wp2_with fail
       clear y3 yl
       go_loopw [82] (fun u wr => ∃ j : Nat, j ≤ x.sl.length ∧ u = .int .i64 j ∧ Hid (PrAt w G (stC (.slice A S.th.length c) (.slice (some ⟨T, o, none⟩) S.rg.length d) now rds en) (M1 ++ [tru x.cl, x.sl.length] ++ (x.sl.take j).flatMap slL) wr)) (fun u _ => x.sl.length - (intOf u).toNat)
       case atStart => exact ⟨0, by omega, rfl, HI9⟩
       case round =>
        clear HI9
        obtain ⟨j, hj, rfl, HJ⟩ := hrel
        by_cases hlj : j < x.sl.length
        ·have hji : (j : Int) < (x.sl.length : Int) := by omega
         obtain ⟨y, hy⟩ : ∃ y, x.sl[j]? = some y := ⟨_, List.getElem?_eq_getElem hlj⟩
         obtain ⟨b3, o3, rfl, hbl, hc3⟩ := SeqS.at_ slF_length (by decide) (HSLQ.out.later HJ.out.bel) hy
         obtain ⟨a5, ea5, ha5⟩ := smB_of (HSA.out y (List.mem_of_getElem? hy))
         obtain ⟨v1, v2, _⟩ := HSB.out y (List.mem_of_getElem? hy)
         unfold M64 at v1 v2
         have hld2 : (loadVar 64 ⟨b3, o3 + j * 3, none⟩).run Try.prog wr = .ok (.agg #[.int .u64 (y.s : Int), .int .u64 (y.v : Int), .int .i64 y.l]) wr := sl_load2 (b := b3) (off := o3 + j * 3) (x := y) (fun i u hu => hc3 i u (by have := (List.getElem?_eq_some_iff.1 hu).1; rw [slF_length] at this; exact this) hu)
         have HFS := Lib.hid (flat_take (f := slL) hy)
         have q6 : IntKind.u64.wrap y.l = y.l := IntWalk.u64_in _ (by omega)
         have hsx : ((x.sl.take j).flatMap slL).length ≤ j * 3 := by
          have := flat_le (f := slL) (c := 3) (x.sl.take j) (fun y _ => by simp [slL])
          rw [List.length_take, Nat.min_eq_left hj] at this; exact this
         have hb6 : Below wr.heap.size wr (wr.alloc (.cells #[.int .u64 (y.s : Int), .int .u64 (y.v : Int), .int .i64 y.l] 64)) := (Below.refl _ _).alloc (Nat.le_refl _) _
         have HJ6 := Lib.hid (HJ.out.later hb6)
         have HL6 := Lib.hid (Lies.made wr 64 #[.int .u64 (y.s : Int), .int .u64 (y.v : Int), .int .i64 y.l])
         have EA := Lib.hid ea5
         clear hc3 hb6 ea5 hy
         go_upto_region 22 with (first | refine wpList_load_known rfl _ _ rfl b3 (o3 + j * 3) rfl _ hld2 ?_)
         obtain ⟨g6, hg6⟩ : ∃ n, wr.heap.size = n := ⟨_, rfl⟩
         rw [hg6] at HL6 ⊢
         generalize wr.alloc (.cells #[.int .u64 (y.s : Int), .int .u64 (y.v : Int), .int .i64 y.l] 64) = w6 at *
         clear hld2 HJ
         have y0 := (HL6.out.cell 0).trans (show _ = some (Value.int .u64 (y.s : Int)) from rfl)
         have y1 := (HL6.out.cell 1).trans (show _ = some (Value.int .u64 (y.v : Int)) from rfl)
         have y2 := (HL6.out.cell 2).trans (show _ = some (Value.int .i64 y.l) from rfl)
         have yl := HL6.out.lt
         have hb2 : Below w6.heap.size w6 (w6.alloc (.cells #[.int .u64 (y.s : Int), .int .u64 (y.v : Int), .int .u64 y.l] 24)) := (Below.refl _ _).alloc (Nat.le_refl _) _
         have HP2 := Lib.hid (HJ6.out.later hb2)
         have HC := Lib.hid (prNumbers 3 [y.s, y.v, a5] (.slice (some ⟨w6.heap.size, 0, none⟩) 3 3) HP2.out (nm_lit HP2.out.wr (Lies.made w6 24 #[.int .u64 (y.s : Int), .int .u64 (y.v : Int), .int .u64 y.l]) (by rw [EA.out]; rfl) rfl (by decide)) (by
          intro n hn
          simp only [List.mem_cons, List.not_mem_nil, or_false] at hn
          unfold M64
          rcases hn with rfl | rfl | rfl <;> omega) (by rw [List.length_append, List.length_append]; simp only [List.length_cons, List.length_nil]; omega))
         have HSLY : Hid (slL y = [y.s, y.v, a5]) := by
          show slL y = _
          unfold slL; rw [EA.out]; rfl
         clear hb2 HJ6 EA
         go_wp2_with fail
         clear y0 y1 y2 yl
         refine HC.out.mono ?_
         rintro e w7 ⟨rfl, h7, _⟩
         have HP7 : Hid (PrAt w G (stC (.slice A S.th.length c) (.slice (some ⟨T, o, none⟩) S.rg.length d) now rds en) (M1 ++ [tru x.cl, x.sl.length] ++ (x.sl.take (j + 1)).flatMap slL) w7) := by
          rw [List.append_assoc, ← HSLY.out, ← HFS.out] at h7
          exact h7
         clear HC HP2 HL6 h7
         go_wp2_with fail
         go_roundw
         case rel => exact ⟨j + 1, by omega, by go_num, HP7⟩
         case measure => simp [intOf]; omega
        ·obtain rfl : j = x.sl.length := by omega
         rw [List.take_length] at HJ
         have HP9 : Hid (PrAt w G (stC (.slice A S.th.length c) (.slice (some ⟨T, o, none⟩) S.rg.length d) now rds en) (L0 ++ ([S.rg.length] ++ (S.rg.take (k + 1)).flatMap rsL)) wr) := by
          have h := HJ.out
          rw [← HM1.out] at h
          have e : L0 ++ ([S.rg.length] ++ (S.rg.take k).flatMap rsL) ++ [x.tl] ++ (x.hs.length :: x.hs) ++ [tru x.cl, x.sl.length] ++ x.sl.flatMap slL = L0 ++ ([S.rg.length] ++ (S.rg.take (k + 1)).flatMap rsL) := by
           rw [HFL.out, HRL.out]
           simp only [List.append_assoc]
          rw [e] at h
          exact h
         go_wp2_with fail
         go_roundw
         case rel => exact ⟨k + 1, by omega, by go_num, HP9⟩
         case measure => simp [intOf]; omega
     ·obtain rfl : k = S.rg.length := by omega
      rw [List.take_length] at HI
      obtain ⟨M2, hM2⟩ : ∃ M, L0 ++ ([S.rg.length] ++ S.rg.flatMap rsL) = M := ⟨_, rfl⟩
      rw [hM2] at HI
      have hM2l : M2.length ≤ 1300000 := by
       have := flat_le (f := rsL) (c := 65600) S.rg (fun y hy => rgL_len (HRA.out y hy))
       have h2 : S.rg.length * 65600 ≤ 8 * 65600 := Nat.mul_le_mul_right _ g8
       rw [← hM2, List.length_append, List.length_append, List.length_singleton]
       omega
      have HM2 : Hid (L0 ++ ([S.rg.length] ++ S.rg.flatMap rsL) = M2) := hM2
      have hnw := HOK.out.now
      have hrd := HOK.out.rds
      rw [HSF.out.1] at hnw
      rw [HSF.out.2.1] at hrd
      unfold M64 at hnw hrd
      clear hM2
      go_wp2_with fail
      refine wp_region_relyx (PhS [8] [[6, 7]] (onP (prA w G (stC (.slice A S.th.length c) (.slice B S.rg.length d) now rds en) w.heap.size 26 (stC (.slice A S.th.length c) (.slice B S.rg.length d) now rds en) M2) (prA w G (stC (.slice A S.th.length c) (.slice B S.rg.length d) now rds en) w.heap.size 26 (stC (.slice A S.th.length c) (.slice B S.rg.length d) now rds en) (M2 ++ [now, rds, tru en])))) (bfV [.eq (.pointer (some ⟨w.heap.size, 2, none⟩)), .eq (.int .u64 (now : Int)), .eq (.pointer (some ⟨w.heap.size, 3, none⟩)), .eq (.int .u64 (rds : Int)), .eq (.pointer (some ⟨w.heap.size, 4, none⟩)), .eq (.bool en), .eq (.int .u64 (tru en : Int)), .of (fun v q => ∃ b, v = Value.slice (some ⟨b, 0, none⟩) 3 3 ∧ Lies q b 24 #[.int .u64 (now : Int), .int .u64 (rds : Int), .int .u64 (tru en : Int)]) (fun _ _ _ hb ⟨b, h1, h2⟩ => ⟨b, h1, h2.below hb h2.lt⟩), .any]) [some 97, some 98, some 99, some 100, some 101, some 102, some 103, some 104, some 105] [[], [0], [], [2], [], [4], [5], [1, 3, 6], [7]] [[], [0], [], [2], [], [4], [4, 5], [0, 1, 2, 3, 5, 6], [1, 3, 5, 6, 7]] [[2, 3, 4, 5, 6, 7, 8], [2, 3, 4, 5, 6, 8], [0, 1, 4, 5, 6, 7, 8], [0, 1, 4, 5, 6, 8], [0, 1, 2, 3, 6, 7, 8], [0, 1, 2, 3, 7, 8], [0, 1, 2, 3], [], []] [0, 1, 2, 3, 4, 5, 6, 7, 8] 9 (by kernel_rfl) (by kernel_rfl) (by kernel_rfl) (by kernel_rfl) ?rS (fun j h1 h2 => absurd (Nat.lt_of_lt_of_le h1 (Nat.le_trans (by decide) h2)) (Nat.lt_irrefl _)) ?rT ?rE
      case rS => exact ph_start ⟨HI.out.later (below_drewN (Below.refl _ _) 1), HI.out.box.drewN 1⟩
      case rT =>
       refine RelyStepsX.cons (RelyStepX.mk [] [2, 3, 4, 5, 6, 7, 8] rfl rfl rfl (fun xv Lv wS hS hL hLd hV bq hb K hK => ?_)) ?_
       ·clear hV
        simp only [putsOf, List.foldl_cons, List.foldl_nil, List.getD_cons_zero, List.getD_cons_succ, List.getD_nil, cond_true, cond_false, Act.put, List.setIfInBounds_toArray, List.set_cons_zero, List.set_cons_succ] at hb
        subst hb
        rw [if_pos (by rfl)]
        (have c9 := (prA_any hS).2.lt)
        go_wp2_with fail
        exact hK.out _ _ ⟨_, rfl, prA_op (i := 0) rfl hS, rfl, AllPX.same _⟩
       refine RelyStepsX.cons (RelyStepX.mk [0] [2, 3, 4, 5, 6, 8] rfl rfl rfl (fun xv Lv wS hS hL hLd hV bq hb K hK => ?_)) ?_
       ·obtain ⟨h0, _⟩ := hV
        have h0 : xv 0 = _ := h0
        simp only [putsOf, List.foldl_cons, List.foldl_nil, List.getD_cons_zero, List.getD_cons_succ, List.getD_nil, cond_true, cond_false, Act.put, List.setIfInBounds_toArray, List.set_cons_zero, List.set_cons_succ, h0] at hb
        clear h0
        subst hb
        rw [if_pos (by rfl)]
        (have c8 := ((prA_any hS).2.cell 2).trans (show _ = some (Value.int .u64 (now : Int)) from rfl); have c9 := (prA_any hS).2.lt)
        go_wp2_with fail
        exact hK.out _ _ ⟨_, rfl, prA_op (i := 1) rfl hS, rfl, AllPX.same _⟩
       refine RelyStepsX.cons (RelyStepX.mk [] [0, 1, 4, 5, 6, 7, 8] rfl rfl rfl (fun xv Lv wS hS hL hLd hV bq hb K hK => ?_)) ?_
       ·clear hV
        simp only [putsOf, List.foldl_cons, List.foldl_nil, List.getD_cons_zero, List.getD_cons_succ, List.getD_nil, cond_true, cond_false, Act.put, List.setIfInBounds_toArray, List.set_cons_zero, List.set_cons_succ] at hb
        subst hb
        rw [if_pos (by rfl)]
        (have c9 := (prA_any hS).2.lt)
        go_wp2_with fail
        exact hK.out _ _ ⟨_, rfl, prA_op (i := 2) rfl hS, rfl, AllPX.same _⟩
       refine RelyStepsX.cons (RelyStepX.mk [2] [0, 1, 4, 5, 6, 8] rfl rfl rfl (fun xv Lv wS hS hL hLd hV bq hb K hK => ?_)) ?_
       ·obtain ⟨h2, _⟩ := hV
        have h2 : xv 2 = _ := h2
        simp only [putsOf, List.foldl_cons, List.foldl_nil, List.getD_cons_zero, List.getD_cons_succ, List.getD_nil, cond_true, cond_false, Act.put, List.setIfInBounds_toArray, List.set_cons_zero, List.set_cons_succ, h2] at hb
        clear h2
        subst hb
        rw [if_pos (by rfl)]
        (have c8 := ((prA_any hS).2.cell 3).trans (show _ = some (Value.int .u64 (rds : Int)) from rfl); have c9 := (prA_any hS).2.lt)
        go_wp2_with fail
        exact hK.out _ _ ⟨_, rfl, prA_op (i := 3) rfl hS, rfl, AllPX.same _⟩
       refine RelyStepsX.cons (RelyStepX.mk [] [0, 1, 2, 3, 6, 7, 8] rfl rfl rfl (fun xv Lv wS hS hL hLd hV bq hb K hK => ?_)) ?_
       ·clear hV
        simp only [putsOf, List.foldl_cons, List.foldl_nil, List.getD_cons_zero, List.getD_cons_succ, List.getD_nil, cond_true, cond_false, Act.put, List.setIfInBounds_toArray, List.set_cons_zero, List.set_cons_succ] at hb
        subst hb
        rw [if_pos (by rfl)]
        (have c9 := (prA_any hS).2.lt)
        go_wp2_with fail
        exact hK.out _ _ ⟨_, rfl, prA_op (i := 4) rfl hS, rfl, AllPX.same _⟩
       refine RelyStepsX.cons (RelyStepX.mk [4] [0, 1, 2, 3, 7, 8] rfl rfl rfl (fun xv Lv wS hS hL hLd hV bq hb K hK => ?_)) ?_
       ·obtain ⟨h4, _⟩ := hV
        have h4 : xv 4 = _ := h4
        simp only [putsOf, List.foldl_cons, List.foldl_nil, List.getD_cons_zero, List.getD_cons_succ, List.getD_nil, cond_true, cond_false, Act.put, List.setIfInBounds_toArray, List.set_cons_zero, List.set_cons_succ, h4] at hb
        clear h4
        subst hb
        rw [if_pos (by rfl)]
        (have c8 := ((prA_any hS).2.cell 4).trans (show _ = some (Value.bool en) from rfl); have c9 := (prA_any hS).2.lt)
        go_wp2_with fail
        exact hK.out _ _ ⟨_, rfl, prA_op (i := 5) rfl hS, rfl, AllPX.same _⟩
       refine RelyStepsX.cons (RelyStepX.mk [5] [0, 1, 2, 3] rfl rfl rfl (fun xv Lv wS hS hL hLd hV bq hb K hK => ?_)) ?_
       ·obtain ⟨h5, _⟩ := hV
        have h5 : xv 5 = _ := h5
        simp only [putsOf, List.foldl_cons, List.foldl_nil, List.getD_cons_zero, List.getD_cons_succ, List.getD_nil, cond_true, cond_false, Act.put, List.setIfInBounds_toArray, List.set_cons_zero, List.set_cons_succ, h5] at hb
        clear h5
        subst hb
        rw [if_pos (by rfl)]
        have HSS := Lib.hid hS
        clear hS
        go_wp2_with fail
        refine (snapTruth en wS).mono ?_
        rintro e w9 ⟨rfl, rfl⟩
        exact hK.out _ _ ⟨_, rfl, prA_op rfl HSS.out, rfl, AllPX.same _⟩
       refine RelyStepsX.cons (RelyStepX.mk [1, 3, 6] [] rfl rfl rfl (fun xv Lv wS hS hL hLd hV bq hb K hK => ?_)) ?_
       ·obtain ⟨h1, h3, h6, _⟩ := hV
        have h1 : xv 1 = _ := h1
        have h3 : xv 3 = _ := h3
        have h6 : xv 6 = _ := h6
        simp only [putsOf, List.foldl_cons, List.foldl_nil, List.getD_cons_zero, List.getD_cons_succ, List.getD_nil, cond_true, cond_false, Act.put, List.setIfInBounds_toArray, List.set_cons_zero, List.set_cons_succ, h1, h3, h6] at hb
        clear h1
        clear h3
        clear h6
        subst hb
        rw [if_pos (by rfl)]
        have HSS := Lib.hid hS
        clear hS
        go_wp2_with fail
        have hb : Below wS.heap.size wS (wS.alloc (.cells #[.int .u64 (now : Int), .int .u64 (rds : Int), .int .u64 (tru en : Int)] 24)) := (Below.refl _ _).alloc (Nat.le_refl _) _
        exact hK.out _ _ ⟨_, rfl, ph_more prA_pha rfl HSS.out hb, ⟨wS.heap.size, rfl, Lies.made _ _ _⟩, AllPX.of _ (fun j _ _ h => bfV_below hb h)⟩
       refine RelyStepsX.cons (RelyStepX.mk [7] [] rfl rfl rfl (fun xv Lv wS hS hL hLd hV bq hb K hK => ?_)) ?_
       ·obtain ⟨h7, _⟩ := hV
        simp only [putsOf, List.foldl_cons, List.foldl_nil, List.getD_cons_zero, List.getD_cons_succ, List.getD_nil, cond_true, cond_false, Act.put, List.setIfInBounds_toArray, List.set_cons_zero, List.set_cons_succ] at hb
        generalize hy7 : xv 7 = y7 at *
        subst hb
        rw [if_pos (by rfl)]
        have hp := on_get hS hL
        have HP := Lib.hid hp
        have HSS := Lib.hid hS
        obtain ⟨b9, rfl, hl9⟩ := h7
        have HC := Lib.hid (prNumbers 3 [now, rds, tru en] (.slice (some ⟨b9, 0, none⟩) 3 3) hp.1 (nm_lit hp.1.wr hl9 rfl rfl (by decide)) (by
         intro n hn
         simp only [List.mem_cons, List.not_mem_nil, or_false] at hn
         unfold M64
         rcases hn with rfl | rfl | rfl
         ·omega
         ·omega
         ·cases en <;> decide) (by simp only [List.length_cons, List.length_nil]; omega))
        clear hS hp hl9
        go_wp2_with fail
        refine HC.out.mono ?_
        rintro e w7 ⟨rfl, h7, k7⟩
        exact hK.out _ _ ⟨_, rfl, on_put HSS.out hL (fun j hj => hLd j (by revert hj; revert j; decide +kernel)) ⟨h7, lies_wr2 HP.out.2 HP.out.1.wr k7 (by decide) (by decide)⟩, trivial, AllPX.of _ (fun j hj _ h => bfV_lit (by rfl) hj h)⟩
       exact RelyStepsX.nil
      case rE =>
       intro xv Lv wE hS hLall hV
       have h8 := hV 8 (by decide) (by decide)
       clear hV
       have hp := on_end hS (hLall 8 (by decide +kernel))
       simp only [putsOf, List.foldl_cons, List.foldl_nil, List.getD_cons_zero, List.getD_cons_succ, List.getD_nil, cond_true, cond_false, Act.put, List.setIfInBounds_toArray, List.set_cons_zero, List.set_cons_succ]
       generalize xv 0 = y0 at *
       generalize xv 1 = y1 at *
       generalize xv 2 = y2 at *
       generalize xv 3 = y3 at *
       generalize xv 4 = y4 at *
       generalize xv 5 = y5 at *
       generalize xv 6 = y6 at *
       generalize xv 7 = y7 at *
       generalize xv 8 = y8 at *
       have hfin : Hid (PrAt w G (stC (.slice A S.th.length c) (.slice B S.rg.length d) now rds en) (stL S) wE) := by
        have h := hp.1
        rw [← HM2.out, ← HLL.out, ← HSF.out.1, ← HSF.out.2.1, ← HSF.out.2.2] at h
        have e : [S.th.length] ++ S.th.flatMap thL ++ ([S.rg.length] ++ S.rg.flatMap rsL) ++ [S.now, S.rds, tru S.en] = stL S := by
         unfold stL
         simp
        rw [e] at h
        rw [HSF.out.1, HSF.out.2.1, HSF.out.2.2] at h
        exact h
       clear hS hp h8 hLall HI
       generalize wE = w9 at *
       have HSTR := Lib.hid (octetString G G (textB (encs (stL S))) w9 hfin.out.wr (by
        have h1 := encs_length (stL S)
        have h2 : (stL S).length = M2.length + 3 := by
         rw [← HM2.out, ← HLL.out]
         unfold stL
         simp
         omega
        rw [textB_size]
        unfold maxLen
        omega))
       have wl : G < w9.heap.size := by obtain ⟨_, v, h4, _⟩ := hfin.out.wr; exact h4.lt
       go_wp2_with fail
       refine HSTR.out.mono ?_
       rintro e w10 ⟨rfl, rfl⟩
       go_wp2_with fail
       go_ret2
       refine ⟨?_, hfin.out.bel⟩
       unfold prS prE
       rw [HEB.out]
       rfl
abbrev s5 : ByteArray := { data := #[0, 0, 0, 0, 0] }
abbrev s5x : ByteArray := { data := #[0, 0, 0, 0, 0, 120] }
abbrev s19 : ByteArray := { data := #[1, 1, 0, 0, 0, 0, 0, 0, 0, 0, 0, 0, 0, 0, 0, 0, 7, 0, 0] }
def S7 : Sta := ⟨[x1], [], 7, 0, false⟩
def xm : Th := ⟨-1, 0, 0, 0, 0, fun _ => 0, []⟩
def Sm : Sta := ⟨[xm], [], 0, 0, false⟩
theorem rd_full {s : ByteArray} {S : Sta} (h : s.data.toList = encs (stL S)) (hW : stW S) : rdX s = S ∧ rdE s = 0 := by
 obtain ⟨h1, h2, h3⟩ := good_St.cmp s 0 S [] (Nat.zero_le _) (by rw [List.append_nil]; exact h) hW
 have h4 : rdYes s = true := by
  unfold rdYes
  have := congrArg List.length h3
  rw [restOf_length] at this
  rw [h2, decide_eq_false (by simp at this; omega)]; rfl
 unfold rdX rdE
 rw [h4, if_pos rfl, if_pos rfl]
 exact ⟨h1, rfl⟩
theorem rd_over {s : ByteArray} {S : Sta} {b : UInt8} (h : s.data.toList = encs (stL S) ++ [b]) (hW : stW S) : rdX s = sta0 ∧ rdE s = 3 := by
 obtain ⟨h1, h2, h3⟩ := good_St.cmp s 0 S [b] (Nat.zero_le _) h hW
 have h4 : rdYes s = false := by
  unfold rdYes
  have := congrArg List.length h3
  rw [restOf_length] at this
  rw [h2, decide_eq_true (by simp at this; omega)]; rfl
 unfold rdX rdE
 rw [h4]
 exact ⟨rfl, rfl⟩
theorem sta0_W : stW sta0 := ⟨⟨by decide, fun x hx => by cases hx⟩, ⟨by decide, fun x hx => by cases hx⟩, by decide, by decide⟩
theorem S7_W : stW S7 := by
 refine ⟨⟨by decide, fun x hx => ?_⟩, ⟨by decide, fun x hx => by cases hx⟩, by decide, by decide⟩
 simp only [S7, List.mem_singleton] at hx
 subst hx
 exact ⟨⟨by decide, by decide⟩, ⟨by decide, by decide⟩, ⟨by decide, by decide⟩, ⟨by decide, by decide⟩, by decide, ⟨fun j hj => by show 0 < M64; decide, fun j hj => rfl⟩, by decide, fun n hn => by cases hn⟩
theorem rd5 : rdX s5 = sta0 ∧ rdE s5 = 0 := rd_full (by decide +kernel) sta0_W
theorem rd5x : rdX s5x = sta0 ∧ rdE s5x = 3 := rd_over (S := sta0) (b := 120) (by decide +kernel) sta0_W
theorem rd19 : rdX s19 = S7 ∧ rdE s19 = 0 := rd_full (by decide +kernel) S7_W
theorem pr0 : prS sta0 = s5 ∧ prE sta0 = 0 := by decide +kernel
theorem prm : prS Sm = { data := #[] } ∧ prE Sm = 1 := by decide +kernel
theorem sta0_ok : StOk sta0 := ⟨fun x hx => (by cases hx), fun x hx => (by cases hx), by decide, by decide⟩
theorem xm_ok : thOk xm := by simp [thOk, i64, xm]
theorem Sm_ok : StOk Sm := ⟨fun x hx => (by simp only [Sm, List.mem_singleton] at hx; subst hx; exact xm_ok), fun x hx => (by cases hx), by decide, by decide⟩
abbrev st0 (A : Option Addr) (c : Nat) (B : Option Addr) (d : Nat) : Array Value := stC (.slice A 0 c) (.slice B 0 d) 0 0 false
theorem st_put (w : World) (cs : Array Value) : Below w.heap.size w ((w.alloc (.cells stZ2 26)).setRow w.heap.size cs) := by
 have hbx : Below w.heap.size w (w.alloc (.cells stZ2 26)) := (Below.refl _ _).alloc (Nat.le_refl _) _
 have k9 := kept_row2 (w := w.alloc (.cells stZ2 26)) (g := w.heap.size) cs
 exact hbx.trans (k9.below hbx.size (fun r hr (e : r = w.heap.size) => by omega))
section
variable {w : World}
theorem eqf20 (A B : Option Addr) (c d : Nat) (v : Value) (w : World) (hc : c ≤ 9223372036854775807) (hd : d ≤ 9223372036854775807) : Calls Try.prog 20 #[.slice A 0 c, .slice B 0 d, v] w fun e w' => e = .returned (.bool true) ∧ w = w' := by
 go_enter Try.func20, Try.ntmps20
 go_wp2_with fail
 go_loopw [17] (fun u wr => u = .int .i64 0 ∧ wr = w) (fun u _ => 0)
 case atStart => exact ⟨rfl, rfl⟩
 case round =>
  obtain ⟨rfl, rfl⟩ := hrel
  go_wp2_with fail
  go_ret
  exact ⟨rfl, rfl⟩
theorem eqf22 (A B : Option Addr) (c d : Nat) (v : Value) (w : World) (hc : c ≤ 9223372036854775807) (hd : d ≤ 9223372036854775807) : Calls Try.prog 22 #[.slice A 0 c, .slice B 0 d, v] w fun e w' => e = .returned (.bool true) ∧ w = w' := by
 go_enter Try.func22, Try.ntmps22
 go_wp2_with fail
 go_loopw [17] (fun u wr => u = .int .i64 0 ∧ wr = w) (fun u _ => 0)
 case atStart => exact ⟨rfl, rfl⟩
 case round =>
  obtain ⟨rfl, rfl⟩ := hrel
  go_wp2_with fail
  go_ret
  exact ⟨rfl, rfl⟩
theorem snapSame0 (A B : Option Addr) (c d n : Nat) (b : Bool) (w : World) (hc : c ≤ 9223372036854775807) (hd : d ≤ 9223372036854775807) (hn : ((0 : Int) == (n : Int)) = b) : Calls Try.prog 8 #[.agg (stC (.slice A 0 c) (.slice B 0 d) 0 0 false), .agg (stC (.slice none 0 0) (.slice none 0 0) n 0 false)] w fun e w' => e = .returned (.bool b) ∧ Below w.heap.size w w' := by
 have HB : Hid (Below w.heap.size w ((w.alloc (.cells (stC (.slice A 0 c) (.slice B 0 d) 0 0 false) 26)).alloc (.cells (stC (.slice none 0 0) (.slice none 0 0) n 0 false) 26))) := ((Below.refl _ _).alloc (Nat.le_refl _) _).alloc (by simp) _
 have l0 := (Lies.made w 26 (stC (.slice A 0 c) (.slice B 0 d) 0 0 false)).alloc (.cells (stC (.slice none 0 0) (.slice none 0 0) n 0 false) 26)
 have l1 := Lies.made (w.alloc (.cells (stC (.slice A 0 c) (.slice B 0 d) 0 0 false) 26)) 26 (stC (.slice none 0 0) (.slice none 0 0) n 0 false)
 rw [World.size_alloc] at l1
 have HL0 := Lib.hid l0
 have HL1 := Lib.hid l1
 clear l0 l1
 go_enter Try.func8, Try.ntmps8
 go_upto_region 1 with (fail)
 generalize (w.alloc (.cells (stC (.slice A 0 c) (.slice B 0 d) 0 0 false) 26)).alloc (.cells (stC (.slice none 0 0) (.slice none 0 0) n 0 false) 26) = w1 at *
 have a0 := (HL0.out.cell 0).trans (show _ = some (Value.slice A 0 c) from rfl)
 have a1 := (HL0.out.cell 1).trans (show _ = some (Value.slice B 0 d) from rfl)
 have a2 := (HL0.out.cell 2).trans (show _ = some (Value.int .u64 0) from rfl)
 have a3 := (HL0.out.cell 3).trans (show _ = some (Value.int .u64 0) from rfl)
 have a4 := (HL0.out.cell 4).trans (show _ = some (Value.bool false) from rfl)
 have al := HL0.out.lt
 have b0 := (HL1.out.cell 0).trans (show _ = some (Value.slice none 0 0) from rfl)
 have b1 := (HL1.out.cell 1).trans (show _ = some (Value.slice none 0 0) from rfl)
 have b2 := (HL1.out.cell 2).trans (show _ = some (Value.int .u64 (n : Int)) from rfl)
 have b3 := (HL1.out.cell 3).trans (show _ = some (Value.int .u64 0) from rfl)
 have b4 := (HL1.out.cell 4).trans (show _ = some (Value.bool false) from rfl)
 have bl := HL1.out.lt
 clear HL0 HL1
 go_wp2_with fail
 refine (eqf20 A none c 0 _ w1 hc (by decide)).mono ?_
 rintro e w2 ⟨rfl, rfl⟩
 go_wp2_with fail
 refine (eqf22 B none d 0 _ w1 hd (by decide)).mono ?_
 rintro e w2 ⟨rfl, rfl⟩
 cases b
 ·go_wp2_with fail
  go_ret
  exact ⟨rfl, HB.out⟩
 ·go_wp2_with fail
  go_ret
  exact ⟨rfl, HB.out⟩
set_option maxHeartbeats 2000000 in
theorem refSame0 (A B : Option Addr) (c d : Nat) (w : World) (hc : c ≤ 9223372036854775807) (hd : d ≤ 9223372036854775807) : Calls Try.prog 24 #[.agg (stC (.slice A 0 c) (.slice B 0 d) 0 0 false), .agg stZ2] w fun e w' => e = .returned (.bool true) ∧ Below w.heap.size w w' := by
 have HB : Hid (Below w.heap.size w ((w.alloc (.cells (stC (.slice A 0 c) (.slice B 0 d) 0 0 false) 26)).alloc (.cells stZ2 26))) := ((Below.refl _ _).alloc (Nat.le_refl _) _).alloc (by simp) _
 have l0 := (Lies.made w 26 (stC (.slice A 0 c) (.slice B 0 d) 0 0 false)).alloc (.cells stZ2 26)
 have l1 := Lies.made (w.alloc (.cells (stC (.slice A 0 c) (.slice B 0 d) 0 0 false) 26)) 26 stZ2
 rw [World.size_alloc] at l1
 have HL0 := Lib.hid l0
 have HL1 := Lib.hid l1
 clear l0 l1
 go_enter Try.func24, Try.ntmps24
 go_upto_region 1 with (fail)
 generalize (w.alloc (.cells (stC (.slice A 0 c) (.slice B 0 d) 0 0 false) 26)).alloc (.cells stZ2 26) = w1 at *
 have a0 := (HL0.out.cell 0).trans (show _ = some (Value.slice A 0 c) from rfl)
 have a1 := (HL0.out.cell 1).trans (show _ = some (Value.slice B 0 d) from rfl)
 have a2 := (HL0.out.cell 2).trans (show _ = some (Value.int .u64 0) from rfl)
 have a3 := (HL0.out.cell 3).trans (show _ = some (Value.int .u64 0) from rfl)
 have a4 := (HL0.out.cell 4).trans (show _ = some (Value.bool false) from rfl)
 have al := HL0.out.lt
 have b0 := (HL1.out.cell 0).trans (show _ = some (Value.slice none 0 0) from rfl)
 have b1 := (HL1.out.cell 1).trans (show _ = some (Value.slice none 0 0) from rfl)
 have b2 := (HL1.out.cell 2).trans (show _ = some (Value.int .u64 0) from rfl)
 have b3 := (HL1.out.cell 3).trans (show _ = some (Value.int .u64 0) from rfl)
 have b4 := (HL1.out.cell 4).trans (show _ = some (Value.bool false) from rfl)
 have bl := HL1.out.lt
 clear HL0 HL1
 go_wp2_with fail
 go_loopw [5] (fun u wr => u = .int .i64 0 ∧ wr = w1) (fun u _ => 0)
 case atStart => exact ⟨rfl, rfl⟩
 case round =>
  obtain ⟨rfl, rfl⟩ := hrel
  go_wp2_with fail
  go_loopw [6] (fun u wq => u = .int .i64 0 ∧ wq = wr) (fun u _ => 0)
  case atStart => exact ⟨rfl, rfl⟩
  case round =>
   obtain ⟨rfl, rfl⟩ := hrel
   go_wp2_with fail
   go_ret
   exact ⟨rfl, HB.out⟩
end
abbrev xmC : Array Value := #[.int .i64 (-1), .int .i64 0, .int .i64 0, .int .i64 0, .int .u64 0, .int .u64 0, .int .u64 0, .int .u64 0, .int .u64 0, .int .u64 0, .int .u64 0, .int .u64 0, .int .u64 0, .slice none 0 0]
theorem prN (w : World) : Calls Try.prog 7 #[.agg stZ2] w fun e w' => e = .returned (.tuple #[.string s5, .int .i64 0]) ∧ Below w.heap.size w w' := by
 have := snapPrint sta0 none none 0 0 w (owT_read (B := 0) owT_nil) (owR_read (B := 0) owR_nil) sta0_ok
 rw [pr0.1, pr0.2] at this
 exact this
theorem prM (w : World) (N : Nat) (h : Lies w N 40 xmC) : Calls Try.prog 7 #[.agg (stC (.slice (some ⟨N, 0, none⟩) 1 1) (.slice none 0 0) 0 0 false)] w fun e w' => e = .returned (.tuple #[.string { data := #[] }, .int .i64 1]) ∧ Below w.heap.size w w' := by
 have hT : ThsR w (.slice (some ⟨N, 0, none⟩) 1 1) [xm] := ⟨[(xm, .slice none 0 0)], rfl, seq_one2 (cs := thP (xm, .slice none 0 0)) h rfl, fun p hp => by simp only [List.mem_singleton] at hp; subst hp; exact SeqS.nil w 1⟩
 have := snapPrint Sm (some ⟨N, 0, none⟩) none 1 0 w hT (owR_read (B := 0) owR_nil) Sm_ok
 rw [prm.1, prm.2] at this
 exact this
theorem rd5N (w : World) : Calls Try.prog 12 #[.string s5] w fun e w' => ∃ A c B d, e = .returned (.tuple #[.agg (stC (.slice A 0 c) (.slice B 0 d) 0 0 false), .int .i64 0]) ∧ c ≤ 9223372036854775807 ∧ d ≤ 9223372036854775807 ∧ Below w.heap.size w w' := by
 have := snapRead s5 w (by decide)
 rw [rd5.1, rd5.2] at this
 refine this.mono ?_
 rintro e w' ⟨tv, rv, rfl, ⟨ps, _, h2, _⟩, ⟨qs, _, h3, _⟩, hb⟩
 obtain ⟨A, c, rfl, _, hc⟩ := own_form2 h2
 obtain ⟨B, d, rfl, _, hd⟩ := own_form2 h3
 exact ⟨A, c, B, d, rfl, hc, hd, hb⟩
theorem rd5xN (w : World) : Calls Try.prog 12 #[.string s5x] w fun e w' => ∃ A c B d, e = .returned (.tuple #[.agg (stC (.slice A 0 c) (.slice B 0 d) 0 0 false), .int .i64 3]) ∧ Below w.heap.size w w' := by
 have := snapRead s5x w (by decide)
 rw [rd5x.1, rd5x.2] at this
 refine this.mono ?_
 rintro e w' ⟨tv, rv, rfl, ⟨ps, _, h2, _⟩, ⟨qs, _, h3, _⟩, hb⟩
 obtain ⟨A, c, rfl, _, hc⟩ := own_form2 h2
 obtain ⟨B, d, rfl, _, hd⟩ := own_form2 h3
 exact ⟨A, c, B, d, rfl, hb⟩
theorem ld5N (A : Option Addr) (c : Nat) (Q : Option Addr) (d : Nat) (w : World) (h : PgAt w A c Q d pg0) : Calls Try.prog 13 #[.agg #[.slice A 0 c, .slice Q 1 d], .string s5] w fun e w' => e = .returned (.tuple #[.pointer none, .int .i64 3]) ∧ Below w.heap.size w w' := by
 have HP := Lib.hid h
 refine (snLoadG sta0 0 0 false 3 (fun u _ => u = .pointer none) s5 (by decide) rd5.1 rd5.2 ⟨rfl, rfl, rfl⟩ A c Q d w h (fun tv rv q hb ht hr => ?_)).mono ?_
 ·obtain ⟨ps, _, h2, _⟩ := ht
  obtain ⟨A1, c1, rfl, _, hc⟩ := own_form2 h2
  obtain ⟨qs, _, h3, _⟩ := hr
  obtain ⟨B1, d1, rfl, _, hd⟩ := own_form2 h3
  refine (fbLoadNo A c Q d A1 c1 B1 d1 0 0 false q (HP.out.later hb) hc).mono ?_
  rintro e w' ⟨rfl, hb⟩
  exact ⟨_, rfl, rfl, hb⟩
 ·rintro e w' ⟨u, rfl, rfl, hb⟩
  exact ⟨rfl, hb⟩
theorem ld19N (A : Option Addr) (c : Nat) (Q : Option Addr) (d : Nat) (w : World) (h : PgAt w A c Q d pg0) : Calls Try.prog 13 #[.agg #[.slice A 0 c, .slice Q 1 d], .string s19] w fun e w' => ∃ F, e = .returned (.tuple #[.pointer (some ⟨F, 0, none⟩), .int .i64 0]) ∧ (w'.cell? ⟨F, 5, none⟩ = some (.int .u64 7) ∧ F < w'.heap.size) ∧ Below w.heap.size w w' := by
 have HP := Lib.hid h
 refine (snLoadG S7 7 0 false 0 (fun u q => ∃ F, u = .pointer (some ⟨F, 0, none⟩) ∧ q.cell? ⟨F, 5, none⟩ = some (.int .u64 7) ∧ F < q.heap.size) s19 (by decide) rd19.1 rd19.2 ⟨rfl, rfl, rfl⟩ A c Q d w h (fun tv rv q hb ht hr => ?_)).mono ?_
 ·have hT := owT_read ht
  obtain ⟨ps, _, h2, _⟩ := ht
  obtain ⟨A1, c1, rfl, _, hc⟩ := own_form2 h2
  obtain ⟨qs, _, h3, _⟩ := hr
  obtain ⟨B1, d1, rfl, _, hd⟩ := own_form2 h3
  refine (fbLoad0 A c Q d A1 c1 B1 d1 7 q (HP.out.later hb) hT hd).mono ?_
  rintro e w' ⟨F, rfl, h1, h2, h3, h4⟩
  exact ⟨_, rfl, ⟨F, rfl, h1, h2⟩, h4⟩
 ·rintro e w' ⟨u, rfl, ⟨F, rfl, h1, h2⟩, hb⟩
  exact ⟨F, rfl, ⟨h1, h2⟩, hb⟩
def AwP (w : World) (e : Ending) (w' : World) : Prop := e = .returned (.bool true) ∧ Below w.heap.size w w'
abbrev stL0 (A : Option Addr) (c : Nat) (B : Option Addr) (d : Nat) : Array Value := #[.slice A 0 c, .slice B 0 d, .int .u64 0, .int .u64 0, .bool false]
abbrev stN1 : Array Value := #[.slice none 0 0, .slice none 0 0, .int .u64 1, .int .u64 0, .bool false]
theorem run_build_s1 (w : World) : (Instr.build 26 #[(2, .int .u64 1)]).run Try.prog w = .ok (.agg stN1) w := by kernel_rfl
theorem same1 (A B : Option Addr) (c d : Nat) (w : World) (hc : c ≤ 9223372036854775807) (hd : d ≤ 9223372036854775807) : Calls Try.prog 8 #[.agg (stL0 A c B d), .agg stZ2] w fun e w' => e = .returned (.bool true) ∧ Below w.heap.size w w' := snapSame0 A B c d 0 true w hc hd rfl
theorem same2 (A B : Option Addr) (c d : Nat) (w : World) (hc : c ≤ 9223372036854775807) (hd : d ≤ 9223372036854775807) : Calls Try.prog 8 #[.agg (stL0 A c B d), .agg stN1] w fun e w' => e = .returned (.bool false) ∧ Below w.heap.size w w' := snapSame0 A B c d 1 false w hc hd rfl
set_option maxHeartbeats 16000000 in
set_option maxRecDepth 100000 in
theorem awake_any (w : World) : Calls Try.prog 5 #[] w (AwP w) := by
 have MB := fun q => run_build_st q
 have MX : ∀ W : World, (Op.stringOp .add s5 { data := #[120] }).run Try.prog W = .ok (.string s5x) W := fun W => by kernel_rfl
 have HP0 := Lib.hid (prN w)
 go_enter Try.func5, Try.ntmps5
 go_wp2_with fail
 refine HP0.out.mono ?_
 rintro e w1 ⟨rfl, hb1⟩
 have HB1 := Lib.hid hb1
 have HR := Lib.hid (rd5N w1)
 clear hb1 HP0
 go_wp2_with fail
 refine HR.out.mono ?_
 rintro e w2 ⟨A, c, B, d, rfl, hc, hd, hb2⟩
 have HB2 := Lib.hid (HB1.out.trans (hb2.mono HB1.out.size))
 have HZ2 := Lib.hid (Lies.made w2 26 stZ2)
 clear hb2 HB1 HR
 go_upto_region 3 with (first | fail | refine wpList_store_row rfl 26 _ _ rfl w2.heap.size (st0 A c B d) rfl rfl 26 stZ2 HZ2.out infoSt2 rfl (stC_one2 rfl rfl) ?_)
 have hb3 := st_put w2 (st0 A c B d)
 have HB3 := Lib.hid (HB2.out.trans (hb3.mono HB2.out.size))
 have HZ3 := Lib.hid (lies_row2 HZ2.out (st0 A c B d))
 clear hb3 HB2 HZ2
 generalize (w2.alloc (.cells stZ2 26)).setRow w2.heap.size (st0 A c B d) = w3 at *
 generalize w2.heap.size = g at *
 have HR := Lib.hid (rd5xN w3)
 go_wp2_with fail
 refine HR.out.mono ?_
 rintro e w4 ⟨A2, c2, B2, d2, rfl, hb4⟩
 have HB4 := Lib.hid (HB3.out.trans (hb4.mono HB3.out.size))
 have HS4 := Lib.hid (HZ3.out.below hb4 HZ3.out.lt)
 have HZ4 := Lib.hid (Lies.made w4 26 stZ2)
 clear hb4 HB3 HZ3 HR MX
 go_upto_region 4 with (first | fail | refine wpList_store_row rfl 26 _ _ rfl w4.heap.size (st0 A2 c2 B2 d2) rfl rfl 26 stZ2 HZ4.out infoSt2 rfl (stC_one2 rfl rfl) ?_)
 have hb5 := st_put w4 (st0 A2 c2 B2 d2)
 have HB5 := Lib.hid (HB4.out.trans (hb5.mono HB4.out.size))
 have HS5 := Lib.hid (HS4.out.below hb5 HS4.out.lt)
 clear hb5 HB4 HZ4 HS4
 generalize (w4.alloc (.cells stZ2 26)).setRow w4.heap.size (st0 A2 c2 B2 d2) = w5 at *
 generalize w4.heap.size = g2 at *
 have hbx : Below w5.heap.size w5 (w5.alloc (.cells xmC 40)) := (Below.refl _ _).alloc (Nat.le_refl _) _
 have HR := Lib.hid (prM _ _ (Lies.made w5 40 xmC))
 have HB6 := Lib.hid (HB5.out.trans (hbx.mono HB5.out.size))
 have HS6 := Lib.hid (HS5.out.below hbx HS5.out.lt)
 clear hbx HB5 HS5
 go_wp2_with fail
 refine HR.out.mono ?_
 rintro e w7 ⟨rfl, hb7⟩
 have HB7 := Lib.hid (HB6.out.trans (hb7.mono HB6.out.size))
 have HS7 := Lib.hid (HS6.out.below hb7 HS6.out.lt)
 clear hb7 HB6 HS6 HR
 go_upto_region 6 with (fail)
 have b0 : Below w7.heap.size w7 (w7.alloc (.cells #[.int .i64 25, .int .i64 0, .int .i64 0, .int .i64 0, .int .i64 0, .int .u64 0] 42)) := (Below.refl _ _).alloc (Nat.le_refl _) _
 have l1 := Lies.made w7 42 #[.int .i64 25, .int .i64 0, .int .i64 0, .int .i64 0, .int .i64 0, .int .u64 0]
 have s1 : (w7.alloc (.cells #[.int .i64 25, .int .i64 0, .int .i64 0, .int .i64 0, .int .i64 0, .int .u64 0] 42)).heap.size = w7.heap.size + 1 := World.size_alloc ..
 generalize hv8 : w7.alloc (.cells #[.int .i64 25, .int .i64 0, .int .i64 0, .int .i64 0, .int .i64 0, .int .u64 0] 42) = v8 at *
 have b1 : Below v8.heap.size v8 (v8.alloc (.cells #[.slice (some ⟨w7.heap.size, 0, none⟩) 1 1] 43)) := (Below.refl _ _).alloc (Nat.le_refl _) _
 have l2 := Lies.made v8 43 #[.slice (some ⟨w7.heap.size, 0, none⟩) 1 1]
 have s2 : (v8.alloc (.cells #[.slice (some ⟨w7.heap.size, 0, none⟩) 1 1] 43)).heap.size = v8.heap.size + 1 := World.size_alloc ..
 generalize hv9 : v8.alloc (.cells #[.slice (some ⟨w7.heap.size, 0, none⟩) 1 1] 43) = v9 at *
 have b2 : Below v9.heap.size v9 (v9.alloc (.cells #[.slice none 0 0, .slice (some ⟨w7.heap.size + 1, 0, none⟩) 1 1] 47)) := (Below.refl _ _).alloc (Nat.le_refl _) _
 have l3 := Lies.made v9 47 #[.slice none 0 0, .slice (some ⟨w7.heap.size + 1, 0, none⟩) 1 1]
 generalize hw8 : v9.alloc (.cells #[.slice none 0 0, .slice (some ⟨w7.heap.size + 1, 0, none⟩) 1 1] 47) = w8 at *
 rw [s2, s1] at l3
 rw [s1] at l2
 have hb8 : Below w7.heap.size w7 w8 := b0.trans ((b1.mono (by omega)).trans (b2.mono (by omega)))
 have HPG : Hid (PgAt w8 none 0 (some ⟨w7.heap.size + 1, 0, none⟩) 1 pg0) := by
  refine ⟨SeqS.nil _ _, [Value.slice (some ⟨w7.heap.size, 0, none⟩) 1 1], seq_one2 (cs := [Value.slice (some ⟨w7.heap.size, 0, none⟩) 1 1]) (l2.below b2 l2.lt) rfl, fun i l hl => ?_⟩
  have hi : i = 0 := by have := (List.getElem?_eq_some_iff.1 hl).1; simp only [pg0, List.length_singleton] at this; omega
  subst hi
  simp only [pg0, List.getElem?_cons_zero, Option.some.injEq] at hl
  subst hl
  exact ⟨_, 1, rfl, seq_one2 (cs := [.int .i64 25, .int .i64 0, .int .i64 0, .int .i64 0, .int .i64 0, .int .u64 0]) ((l1.below b1 l1.lt).below b2 (by rw [s2]; have := l1.lt; omega)) rfl⟩
 have HB8 := Lib.hid (HB7.out.trans (hb8.mono HB7.out.size))
 have HS8 := Lib.hid (HS7.out.below hb8 HS7.out.lt)
 have HL8 := Lib.hid l3
 clear hw8 hv9 hv8 b0 b1 b2 l1 l2 l3 hb8 HB7 HS7 s1 s2
 generalize w7.heap.size = N at *
 have HR := Lib.hid (ld19N _ _ _ _ _ HPG.out)
 have p0 := (HL8.out.cell 0).trans (show _ = some (Value.slice none 0 0) from rfl)
 have p1 := (HL8.out.cell 1).trans (show _ = some (Value.slice (some ⟨N + 1, 0, none⟩) 1 1) from rfl)
 have pl := HL8.out.lt
 go_wp2_with fail
 refine HR.out.mono ?_
 rintro e w9 ⟨F, rfl, hF, hb9⟩
 have HB9 := Lib.hid (HB8.out.trans (hb9.mono HB8.out.size))
 have HS9 := Lib.hid (HS8.out.below hb9 HS8.out.lt)
 have HL9 := Lib.hid (HL8.out.below hb9 HL8.out.lt)
 have HP9 := Lib.hid (HPG.out.later hb9)
 have HF9 := Lib.hid hF
 clear hF hb9 HB8 HS8 HL8 HPG HR p0 p1 pl
 have HR := Lib.hid (ld5N _ _ _ _ _ HP9.out)
 have p0 := (HL9.out.cell 0).trans (show _ = some (Value.slice none 0 0) from rfl)
 have p1 := (HL9.out.cell 1).trans (show _ = some (Value.slice (some ⟨N + 1, 0, none⟩) 1 1) from rfl)
 have pl := HL9.out.lt
 go_wp2_with fail
 refine HR.out.mono ?_
 rintro e w10 ⟨rfl, hb10⟩
 have HB10 := Lib.hid (HB9.out.trans (hb10.mono HB9.out.size))
 have HS10 := Lib.hid (HS9.out.below hb10 HS9.out.lt)
 have HF10 : Hid (w10.cell? ⟨F, 5, none⟩ = some (.int .u64 7) ∧ F < w10.heap.size) := ⟨cell_later HF9.out.1 hb10, Nat.lt_of_lt_of_le HF9.out.2 hb10.size⟩
 clear hb10 HB9 HS9 HL9 HP9 HF9 HR p0 p1 pl
 have HR := Lib.hid (snLoadE s5 w10)
 go_wp2_with fail
 refine HR.out.mono ?_
 rintro e w11 ⟨rfl, hb11⟩
 have HB11 := Lib.hid (HB10.out.trans (hb11.mono HB10.out.size))
 have HS11 := Lib.hid (HS10.out.below hb11 HS10.out.lt)
 have HF11 : Hid (w11.cell? ⟨F, 5, none⟩ = some (.int .u64 7) ∧ F < w11.heap.size) := ⟨cell_later HF10.out.1 hb11, Nat.lt_of_lt_of_le HF10.out.2 hb11.size⟩
 clear hb11 HB10 HS10 HF10 HR
 have HM1 := Lib.hid (same1 A B c d w11 hc hd)
 have c0 := (HS11.out.cell 0).trans (show _ = some (Value.slice A 0 c) from rfl)
 have c1 := (HS11.out.cell 1).trans (show _ = some (Value.slice B 0 d) from rfl)
 have c2 := (HS11.out.cell 2).trans (show _ = some (Value.int .u64 0) from rfl)
 have c3 := (HS11.out.cell 3).trans (show _ = some (Value.int .u64 0) from rfl)
 have c4 := (HS11.out.cell 4).trans (show _ = some (Value.bool false) from rfl)
 have cl := HS11.out.lt
 go_wp2_with fail
 refine HM1.out.mono ?_
 rintro e w12 ⟨rfl, hb12⟩
 have HB12 := Lib.hid (HB11.out.trans (hb12.mono HB11.out.size))
 have HS12 := Lib.hid (HS11.out.below hb12 HS11.out.lt)
 have HF12 : Hid (w12.cell? ⟨F, 5, none⟩ = some (.int .u64 7) ∧ F < w12.heap.size) := ⟨cell_later HF11.out.1 hb12, Nat.lt_of_lt_of_le HF11.out.2 hb12.size⟩
 clear hb12 HB11 HS11 HF11 HM1 c0 c1 c2 c3 c4 cl
 have HNW := Lib.hid (now0 F 7 w12 HF12.out.1 HF12.out.2)
 go_wp2_with fail
 refine HNW.out.mono ?_
 rintro e w13 ⟨rfl, rfl⟩
 clear HNW MB
 have MB := fun q => run_build_s1 q
 have HM2 := Lib.hid (same2 A B c d w12 hc hd)
 have c0 := (HS12.out.cell 0).trans (show _ = some (Value.slice A 0 c) from rfl)
 have c1 := (HS12.out.cell 1).trans (show _ = some (Value.slice B 0 d) from rfl)
 have c2 := (HS12.out.cell 2).trans (show _ = some (Value.int .u64 0) from rfl)
 have c3 := (HS12.out.cell 3).trans (show _ = some (Value.int .u64 0) from rfl)
 have c4 := (HS12.out.cell 4).trans (show _ = some (Value.bool false) from rfl)
 have cl := HS12.out.lt
 go_wp2_with fail
 refine HM2.out.mono ?_
 rintro e w14 ⟨rfl, hb14⟩
 have HB14 := Lib.hid (HB12.out.trans (hb14.mono HB12.out.size))
 clear hb14 HB12 HS12 HF12 HM2 c0 c1 c2 c3 c4 cl
 go_wp2_with fail
 go_ret
 exact ⟨rfl, HB14.out⟩
set_option maxHeartbeats 1000000 in
theorem refPrint (n : Nat) (w : World) (hn : n < M64) :
  Calls Try.prog 41 #[.int .u64 n] w fun e w' => e = .returned (.string (textB (enc n))) ∧ Below w.heap.size w w' := by
 have hn2 : n ≤ 18446744073709551615 := by unfold M64 at hn; omega
 go_enter Try.func41, Try.ntmps41
 go_wp2
 have ho0 := World.ownsRow_made (base := w.heap.size) (e := 5) (size := 1) w #[] 0 (Nat.le_refl _) (by unfold maxLen; omega) rfl
 have hb0 := (Below.refl w.heap.size w).alloc (Nat.le_refl _) (.cells #[] 5)
 go_loopw [0, 3] (fun i t wr => ∃ (f m : Nat) (d : List UInt8), i = .int .u64 m ∧ m ≤ 18446744073709551615 ∧ f ≤ 9 ∧ Hid (m < 128 ^ (f + 1)) ∧ Hid (d ++ leb f m = [] ++ enc n) ∧ d.length + (f + 1) ≤ 10 ∧ wr.ownsRow w.heap.size 5 1 t d.length (cellsB d) ∧ Below w.heap.size w wr)
  (fun i _ _ => (intOf i).toNat)
 case atStart => exact ⟨9, n, [], rfl, hn2, by omega, Nat.lt_of_lt_of_le hn m64_lt, rfl, by simp, ho0, hb0⟩
 case round =>
  clear ho0 hb0
  obtain ⟨f, m, d, rfl, hm, hf, hp, hd, hdl, ho, hb⟩ := hrel
  have hBr : w.heap.size ≤ wr.heap.size := hb.size
  by_cases h : m < 128
  ·have e0 : decide ((127 : Int) < (m : Int)) = false := by simp; omega
   have hx := last_byte m h
   have hg := Lib.hid (grow_done hd.out h)
   generalize UInt8.ofNat m = b at *
   have HX := Lib.hid hx
   clear hx
   have hcv : ∀ (w1 : World) (v : Value), w1.ownsRow w.heap.size 5 1 v (d.length + 1) (cellsB d ++ [.int .u8 (b.toNat : Int)]) → (convert 55 9 v).run Try.prog w1 = .ok (.string (textB (d ++ [b]))) w1 := by
    intro w1 v h
    rw [cellsB_push] at h
    exact convert_owned w1 _ v _ _ (by simp) h
   have HCV := Lib.hid hcv
   clear hcv
   go_wp2_with (at_builtin; rw [HX.out]; refine append_one wr (.int .u8 b.toNat) rfl (.tmp 16) (.tmp 19) 55 rfl w.heap.size 5 _ _ Try.underlying55 Try.infoU8 rfl rfl _ _ _ rfl ho rfl (by unfold maxLen; omega) (by omega) hBr ?_; intro v' w1 hown1 hb1 _; have hcv1 := HCV.out w1 v' hown1; clear hown1)
   go_ret
   exact ⟨ret_text (by rw [hg.out]; rfl), hb.trans hb1⟩
  ·have e0 : decide ((127 : Int) < (m : Int)) = true := by simp; omega
   obtain ⟨f', rfl, hd', hp'⟩ := grow_step hd.out hp.out h
   have HD := Lib.hid hd'
   have HP := Lib.hid hp'
   have hx : (m : Int) % 128 + 128 = ((UInt8.ofNat (m % 128 + 128)).toNat : Int) := by rw [UInt8.toNat_ofNat']; omega
   clear hd hp hd' hp'
   generalize UInt8.ofNat (m % 128 + 128) = b at *
   go_wp2_with (at_builtin; refine append_one wr (.int .u8 b.toNat) rfl (.tmp 7) (.tmp 12) 55 rfl w.heap.size 5 _ _ Try.underlying55 Try.infoU8 rfl rfl _ _ _ rfl ho rfl (by unfold maxLen; omega) (by omega) hBr ?_; intro v' w1 hown1 hb1 _)
   rw [cellsB_push] at hown1
   go_roundw
   case rel => exact ⟨f', m / 128, d ++ [b], by go_num, by omega, by omega, HP, HD, by rw [List.length_append]; simp; omega, by rw [List.length_append]; exact hown1, hb.trans hb1⟩
   case measure => simp [intOf]; omega
set_option maxHeartbeats 1000000 in
theorem refPrintList (v : Value) (xs : List Nat) (w : World) (h : SeqAt w v (cells64 xs)) (hx : ∀ n ∈ xs, n < M64) (hl : xs.length ≤ 1099511627776) :
  Calls Try.prog 27 #[v] w fun e w' => e = .returned (.string (textB (encList xs))) ∧ Below w.heap.size w w' := by
 have hh := h
 obtain ⟨A, c, rfl, _, hc2, _⟩ := hh
 have hcl : (cells64 xs).length = xs.length := by simp [cells64]
 rw [hcl] at *
 unfold maxLen at hc2
 have H := Lib.hid h
 have HX := Lib.hid hx
 clear h hx hcl
 go_enter Try.func27, Try.ntmps27
 go_wp2_with fail
 refine (refPrint xs.length w (by unfold M64; omega)).mono ?_
 rintro e w1 ⟨rfl, hb1⟩
 have hel := enc_length xs.length
 go_wp2_with fail
 go_loopw [3, 4] (fun t i wr => ∃ k : Nat, k ≤ xs.length ∧ i = .int .i64 k ∧ t = .string (textB (enc xs.length ++ encs (xs.take k))) ∧ Below w.heap.size w wr)
  (fun _ i _ => xs.length - (intOf i).toNat)
 case atStart => exact ⟨0, by omega, rfl, by simp [encs], hb1⟩
 case round =>
  clear hb1
  obtain ⟨k, hk, rfl, rfl, hb⟩ := hrel
  by_cases hlt : k < xs.length
  ·have hki : (k : Int) < (xs.length : Int) := by omega
   obtain ⟨n, hn⟩ : ∃ n, xs[k]? = some n := ⟨xs[k], List.getElem?_eq_getElem hlt⟩
   have hn2 := HX.out n (List.mem_of_getElem? hn)
   obtain ⟨b, off, rfl, hbl, hc⟩ := H.out.get hb (cells64_get hn)
   have HN := Lib.hid (encs_next hn)
   have hle := encs_length (xs.take k)
   rw [List.length_take, Nat.min_eq_left hk] at hle
   have hnl := enc_length n
   have hadd : ∀ W : World, (Op.stringOp .add (textB (enc xs.length ++ encs (xs.take k))) (textB (enc n))).run Try.prog W = .ok (.string (textB (enc xs.length ++ encs (xs.take (k + 1))))) W := fun W => by
    rw [run_string_add_sum W _ _ (by rw [textB_size, textB_size, List.length_append]; omega), text_append, List.append_assoc, HN.out]
   clear hn
   go_wp2_with fail
   refine (refPrint n wr hn2).mono ?_
   rintro e w2 ⟨rfl, hb2⟩
   go_wp2
   go_roundw
   case rel => exact ⟨k + 1, by omega, by go_num, rfl, then_ hb hb2⟩
   case measure => simp [intOf]; omega
  ·obtain rfl : k = xs.length := by omega
   rw [List.take_length]
   go_wp2
   go_ret
   exact ⟨rfl, hb⟩
theorem refNumber (n : Nat) (w : World) (hn : n < M64) : Calls Try.prog 26 #[.int .u64 (n : Int)] w fun e w' => e = .returned (.string (textB (enc n))) ∧ Below w.heap.size w w' := by
 have HC := Lib.hid (refPrint n w hn)
 go_enter Try.func26, Try.ntmps26
 go_wp2_with fail
 refine HC.out.mono ?_
 rintro e w1 ⟨rfl, hb⟩
 have HB := Lib.hid hb
 clear hb HC
 go_wp2
 go_ret
 exact ⟨rfl, HB.out⟩
theorem refIs (b : Bool) (w : World) : Calls Try.prog 28 #[.bool b] w fun e w' => e = .returned (.string (textB (enc (tru b)))) ∧ Below w.heap.size w w' := by
 have HC : ∀ (M : Int) (m : Nat), M = (m : Int) → m < M64 → Calls Try.prog 26 #[.int .u64 M] w fun e w' => e = .returned (.string (textB (enc m))) ∧ Below w.heap.size w w' := fun M m h hm => by subst h; exact refNumber m w hm
 cases b
 ·have H0 := Lib.hid (HC 0 0 rfl (by decide))
  clear HC
  go_enter Try.func28, Try.ntmps28
  go_wp2_with fail
  refine H0.out.mono ?_
  rintro e w1 ⟨rfl, hb⟩
  have HB := Lib.hid hb
  clear hb H0
  go_wp2
  go_ret
  exact ⟨rfl, HB.out⟩
 ·have H0 := Lib.hid (HC 1 1 rfl (by decide))
  clear HC
  go_enter Try.func28, Try.ntmps28
  go_wp2_with fail
  refine H0.out.mono ?_
  rintro e w1 ⟨rfl, hb⟩
  have HB := Lib.hid hb
  clear hb H0
  go_wp2
  go_ret
  exact ⟨rfl, HB.out⟩
def cellsZ (l : List Int) : List Value := l.map (Value.int .i64)
set_option maxHeartbeats 2000000 in
theorem refSmall (v : Value) (xs : List Int) (w : World) (h : SeqAt w v (cellsZ xs)) : Calls Try.prog 25 #[v] w fun e w' => e = .returned (.bool (xs.all smB)) ∧ w = w' := by
 obtain ⟨A, c, rfl, a1, a2, a3⟩ := h
 have e1 : (cellsZ xs).length = xs.length := by simp [cellsZ]
 rw [e1] at a1 ⊢
 unfold maxLen at a2
 have A3 := Lib.hid a3
 clear a3 e1
 go_enter Try.func25, Try.ntmps25
 go_wp2_with fail
 go_loopw [3] (fun u wr => ∃ k : Nat, k ≤ xs.length ∧ u = .int .i64 k ∧ Hid (∀ y ∈ xs.take k, smB y = true) ∧ wr = w) (fun u _ => xs.length - (intOf u).toNat)
 case atStart => exact ⟨0, by omega, rfl, (by show ∀ y ∈ xs.take 0, _; simp), rfl⟩
 case round =>
  obtain ⟨k, hk, rfl, HA, rfl⟩ := hrel
  by_cases hlt : k < xs.length
  ·have hki : (k : Int) < (xs.length : Int) := by omega
   obtain ⟨x, hx⟩ : ∃ x, xs[k]? = some x := ⟨_, List.getElem?_eq_getElem hlt⟩
   obtain ⟨b, o, rfl, hc⟩ := A3.out k (.int .i64 x) (by unfold cellsZ; rw [List.getElem?_map, hx]; rfl)
   have hbl := World.block_lt_of_cell? _ _ hc
   have HX := Lib.hid hx
   clear hx
   by_cases h0 : 0 ≤ x
   ·have q1 : decide (x < 0) = false := decide_eq_false (by omega)
    have q10 : ¬ x < 0 := by omega
    by_cases h1 : x ≤ 65535
    ·have q2 : decide (x > 65535) = false := decide_eq_false (by omega)
     have q3 : decide (65535 < x) = false := decide_eq_false (by omega)
     have HT : Hid (smB x = true) := by show smB x = true; unfold smB; rw [decide_eq_true h0, decide_eq_true h1]; rfl
     go_wp2_with fail
     go_roundw
     case rel => exact ⟨k + 1, by omega, by go_num, all_take HA.out HX.out HT.out, by trivial⟩
     case measure => simp [intOf]; omega
    ·have q2 : decide (x > 65535) = true := decide_eq_true (by omega)
     have q3 : decide (65535 < x) = true := decide_eq_true (by omega)
     have HF : Hid (xs.all smB = false) := all_bad HX.out (by unfold smB; rw [decide_eq_false h1, Bool.and_false])
     go_wp2_with fail
     go_ret
     exact ⟨ret_bool HF.out.symm, rfl⟩
   ·have q1 : decide (x < 0) = true := decide_eq_true (by omega)
    have HF : Hid (xs.all smB = false) := all_bad HX.out (by unfold smB; rw [decide_eq_false h0, Bool.false_and])
    go_wp2_with fail
    go_ret
    exact ⟨ret_bool HF.out.symm, rfl⟩
  ·obtain rfl : k = xs.length := by omega
   have HF : Hid (xs.all smB = true) := all_whole HA.out
   go_wp2_with fail
   go_ret
   exact ⟨ret_bool HF.out.symm, rfl⟩
end Go.Proofs.Ytakggmfpgopcgaa
