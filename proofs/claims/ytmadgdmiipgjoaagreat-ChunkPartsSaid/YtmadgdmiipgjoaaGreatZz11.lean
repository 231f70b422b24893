import Derived.Test.YtmadgdmiipgjoaaGreatZz10
namespace Go.Proofs.YtmadgdmiipgjoaaGreat
open Go.RowKit
set_option linter.unusedVariables false
set_option linter.unusedSimpArgs false
set_option maxHeartbeats 4000000 in
set_option maxRecDepth 100000 in
theorem refHuffPack (s : ByteArray) (w : World) (hs : s.size ≤ 60000000) :
  Calls Tryz.prog 26 #[.string s] w fun e w' => e = .returned (.string (textB (pkT s.data.toList))) ∧ Below w.heap.size w w' := by
 have hsl : s.data.toList.length = s.size := by simp
 have hcnt := fun w => refCount s w (by omega)
 have hwok : WOk (cntL s.data.toList) := ⟨cntL_length _, fun n hn => by have := cntL_le _ n hn; omega⟩
 have hlen := fun w => refLengths (cntL s.data.toList) w hwok
 have hll : (lnT s.data.toList).length = 256 := lensW_length _ (cntL_length _)
 have hl256 : ∀ x ∈ lnT s.data.toList, x < 256 := lensW_lt _
 have hs2 : s.data.toList.length ≤ 60000000 := by rw [hsl]; exact hs
 have hl56 : ∀ x ∈ lnT s.data.toList, x ≤ 56 := lens_text _ hs2
 have hcds := fun w => refCodes (lnT s.data.toList) w ⟨hll, hl56⟩
 rw [← text_codes _ hs2] at hcds
 have hcl : (cdT s.data.toList).length = 256 := cdsOf_length _
 have hclt : ∀ x ∈ cdT s.data.toList, x < 18446744073709551616 := cdsOf_lt _
 change ∀ w, Calls Tryz.prog _ #[.agg (cells64 (cntL s.data.toList)).toArray] w fun e w' => e = .returned (.agg (c8 (lnT s.data.toList)).toArray) ∧ Below w.heap.size w w' at hlen
 have HPK : Hid (pkT s.data.toList = enc s.data.toList.length ++ (printR (lnT s.data.toList) ++ packB (pkB (cdT s.data.toList) (lnT s.data.toList) s.data.toList))) := rfl
 obtain ⟨ls, hls⟩ : ∃ ls, ls = lnT s.data.toList := ⟨_, rfl⟩
 obtain ⟨cd, hcd⟩ : ∃ cd, cd = cdT s.data.toList := ⟨_, rfl⟩
 rw [← hls] at hlen hll hl56 hcds HPK
 rw [← hcd] at hcds hcl hclt HPK
 clear hls hcd hs2 hl256
 obtain ⟨L, hL⟩ : ∃ L, L = c8 ls := ⟨_, rfl⟩
 obtain ⟨D, hD⟩ : ∃ D, D = cells64 cd := ⟨_, rfl⟩
 obtain ⟨N, hN⟩ : ∃ N, N = cells64 (cntL s.data.toList) := ⟨_, rfl⟩
 have hLl : L.length = 256 := by rw [hL, c8_length, hll]
 have hDl : D.length = 256 := by rw [hD, c64_length, hcl]
 have hL1 : L.toArray.all (·.oneCell') = true := by rw [hL]; exact c8_one _
 have hD1 : D.toArray.all (·.oneCell') = true := by rw [hD]; exact c64_one _
 rw [← hL] at hlen hcds
 rw [← hD] at hcds
 rw [← hN] at hlen hcnt
 obtain ⟨z8, hz8⟩ : ∃ z : Array Value, z = Array.replicate 256 (.int .u8 0) := ⟨_, rfl⟩
 obtain ⟨z6, hz6⟩ : ∃ z : Array Value, z = Array.replicate 256 (.int .u64 0) := ⟨_, rfl⟩
 have hzz8 := zero8
 have hzz6 := zero64
 rw [← hz8] at hzz8
 rw [← hz6] at hzz6
 have hn8 : z8.size = 256 := by rw [hz8, Array.size_replicate]
 have hn6 : z6.size = 256 := by rw [hz6, Array.size_replicate]
 have hiL : (Tryz.prog.info? 78).map (·.size) = some L.length := by rw [hLl]; exact info8
 have hiL2 : (Tryz.prog.info? 78).map (·.size) = some L.toArray.size := by rw [List.size_toArray, hLl]; exact info8
 have hiD2 : (Tryz.prog.info? 80).map (·.size) = some D.toArray.size := by rw [List.size_toArray, hDl]; exact info64
 have HIL := Lib.hid hiL
 have HIL2 := Lib.hid hiL2
 have HID2 := Lib.hid hiD2
 have HLEN := Lib.hid hlen
 have HCDS := Lib.hid hcds
 have HCNT := Lib.hid hcnt
 have HL := Lib.hid hL
 have HD := Lib.hid hD
 have HL1 := Lib.hid hL1
 have HD1 := Lib.hid hD1
 have HLL := Lib.hid hll
 have HCL := Lib.hid hcl
 have H256 := Lib.hid hl56
 have HCLT := Lib.hid hclt
 have HLl := Lib.hid hLl
 have HDl := Lib.hid hDl
 have HN8 := Lib.hid hn8
 have HN6 := Lib.hid hn6
 have HSL := Lib.hid hsl
 clear hlen hcds hcnt hL hD hL1 hD1 hll hcl hl56 hclt hLl hDl hiL hiL2 hiD2 hz8 hz6 hn8 hn6 hwok hN hsl
 go_enter Tryz.func26, Tryz.ntmps26
 go_wp2_with fail
 refine (HCNT.out w).mono ?_
 rintro e w1 ⟨rfl, hb1⟩
 go_wp2_with fail
 refine (HLEN.out w1).mono ?_
 rintro e w2 ⟨rfl, hb2⟩
 have hb02 := hb1.trans (hb2.mono hb1.size)
 have hz2 : w.heap.size ≤ w2.heap.size := hb02.size
 have ht2 := arr_there (Lies.made w2 78 z8) (n := L.toArray.size) (HN8.out.trans (by rw [List.size_toArray, HLl.out]))
 have ls3 := arr_store (Lies.made w2 78 z8) (L := L) (HN8.out.trans HLl.out.symm)
 have hk3 := (Kept.alloc (oneRow w2.heap.size) w2 (.cells z8 78)).trans (kept_cellsH L 0 _ (g := w2.heap.size)) (fun _ _ h => h)
 have hb03 := hb02.trans (hk3.below (B := w.heap.size) hz2 (fun k hk e => by have h1 : k = w2.heap.size := e; omega))
 have hz3 := size_setCells w2.heap.size L 0 (w2.alloc (.cells z8 78))
 rw [show (w2.alloc (.cells z8 78)).heap.size = w2.heap.size + 1 by simp] at hz3
 have HT2 := Lib.hid ht2
 have LS3 := Lib.hid ls3
 have HR3 := Lib.hid (arr_range ls3)
 have HB3 := Lib.hid hb03
 have HZ3 := Lib.hid hz3
 clear hb1 hb2 hb02 ht2 ls3 hk3 hb03 hz3 HCNT HLEN
 go_wp2_with (first | refine wpList_store_mid rfl 78 _ _ rfl w2.heap.size 0 L.toArray rfl rfl HT2.out HIL2.out HL1.out ?_ | refine wpList_load_mid rfl 78 _ rfl w2.heap.size 0 rfl L _ HR3.out under8 rfl HIL.out ?_)
 obtain ⟨gL, hgL⟩ : ∃ gL, gL = w2.heap.size := ⟨_, rfl⟩
 generalize (w2.alloc (.cells z8 78)).setCells w2.heap.size 0 L = w3 at *
 rw [← hgL] at LS3 HR3 HZ3 hz2 ⊢
 clear hgL HT2
 refine (HCDS.out w3).mono ?_
 rintro e w4 ⟨rfl, hb4⟩
 have hz34 : gL + 1 ≤ w4.heap.size := by have := hb4.size; rw [HZ3.out] at this; exact this
 have LS4 := Lib.hid (LS3.out.below hb4 (by rw [HZ3.out]; omega))
 have HB4 := Lib.hid (HB3.out.trans (hb4.mono (by rw [HZ3.out]; omega)))
 have ht4 := arr_there (Lies.made w4 80 z6) (n := D.toArray.size) (HN6.out.trans (by rw [List.size_toArray, HDl.out]))
 have lc5 := arr_store (Lies.made w4 80 z6) (L := D) (HN6.out.trans HDl.out.symm)
 have hk5 := (Kept.alloc (oneRow w4.heap.size) w4 (.cells z6 80)).trans (kept_cellsH D 0 _ (g := w4.heap.size)) (fun _ _ h => h)
 have hb5 := HB4.out.trans (hk5.below (B := w.heap.size) (by omega) (fun k hk e => by have h1 : k = w4.heap.size := e; omega))
 have hz5 := size_setCells w4.heap.size D 0 (w4.alloc (.cells z6 80))
 rw [show (w4.alloc (.cells z6 80)).heap.size = w4.heap.size + 1 by simp] at hz5
 have LS5 := Lib.hid (LS4.out.kept hk5 (fun e => by have h1 : gL = w4.heap.size := e; omega))
 have HT4 := Lib.hid ht4
 have LC5 := Lib.hid lc5
 have HB5 := Lib.hid hb5
 clear hb4 ht4 lc5 hk5 hb5 LS3 HB3 HZ3 HR3 LS4 HB4
 go_wp2_with (refine wpList_store_mid rfl 80 _ _ rfl w4.heap.size 0 D.toArray rfl rfl HT4.out HID2.out HD1.out ?_)
 obtain ⟨gC, hgC⟩ : ∃ gC, gC = w4.heap.size := ⟨_, rfl⟩
 generalize (w4.alloc (.cells z6 80)).setCells w4.heap.size 0 D = w5 at *
 rw [← hgC] at LC5 hz5 hz34 ⊢
 clear hgC HT4
 obtain ⟨B5, hB5⟩ : ∃ B5, B5 = w5.heap.size := ⟨_, rfl⟩
 have HB5e := Lib.hid hB5
 have hBw : w.heap.size ≤ B5 := by rw [hB5]; exact HB5.out.size
 clear hB5
 have HPR := Lib.hid (fun (wx : World) (v : Value) (hv : SeqAt wx v (cells64 ls)) => refPrint4 v ls wx hv (by rw [HLL.out]; decide) (fun n hn => by have := H256.out n hn; unfold M64; omega))
 go_wp2_with fail
 go_loopw [5, 6] (fun v c wr => ∃ i : Nat, i ≤ 256 ∧ c = .int .i64 i ∧ Hid (wr.ownsRow B5 34 1 v i (cells64 (ls.take i))) ∧ Hid (Below B5 w5 wr)) (fun _ c _ => 256 - (intOf c).toNat)
 case atStart => exact ⟨0, by omega, rfl, World.ownsRow_nil _ _ _ _, Below.refl _ _⟩
 case round =>
  obtain ⟨i, hi, rfl, ho, hb⟩ := hrel
  have hbs : B5 ≤ wr.heap.size := by rw [HB5e.out]; exact hb.out.size
  by_cases hlt : i < 256
  ·have hii : (i : Int) < 256 := by omega
   obtain ⟨n, hn⟩ : ∃ n, ls[i]? = some n := ⟨_, List.getElem?_eq_getElem (by rw [HLL.out]; exact hlt)⟩
   have hn56 := H256.out n (List.mem_of_getElem? hn)
   have k1 : wr.cell? ⟨gL, i, none⟩ = some (.int .u8 (n : Int)) := ((LS5.out.below hb.out (by rw [HB5e.out]; exact LS5.out.lt)).cell i).trans (by rw [List.getElem?_toArray, HL.out]; exact c8_get hn)
   have en : IntKind.u64.wrap (n : Int) = (n : Int) := by rw [IntKind.wrap_u64]; omega
   have htk : cells64 (ls.take (i + 1)) = cells64 (ls.take i) ++ [.int .u64 (n : Int)] := by rw [List.take_add_one, hn]; simp [cells64]
   have HTK := Lib.hid htk
   obtain ⟨A5, c5, rfl⟩ := own_sl ho.out
   clear hn htk
   go_wp2_with (at_builtin; refine append_one wr (.int .u64 (n : Int)) rfl (.tmp 18) (.tmp 23) 46 rfl B5 34 _ _ Tryz.underlying46 Tryz.infoU64 rfl rfl _ _ _ rfl ho.out rfl (by unfold maxLen; omega) (by omega) hbs ?_)
   intro v' w7 ho7 hb7 hgr
   rw [← HTK.out] at ho7
   have HO7 := Lib.hid ho7
   have HB7 := Lib.hid (hb.out.trans hb7)
   clear ho7 hb7 hgr k1 ho hb
   go_wp2
   go_roundw
   case rel => exact ⟨i + 1, by omega, by go_num, HO7, HB7⟩
   case measure => simp [intOf]; omega
  ·obtain rfl : i = 256 := by omega
   rw [show ((256 : Nat) : Int) = 256 from rfl]
   have ho2 := ho.out
   rw [List.take_of_length_le (by rw [HLL.out]; exact Nat.le_refl _)] at ho2
   have HALL := Lib.hid ho2
   obtain ⟨A5, c5, rfl⟩ := own_sl ho2
   have LS7 := Lib.hid (LS5.out.below hb.out (by rw [HB5e.out]; exact LS5.out.lt))
   have LC7 := Lib.hid (LC5.out.below hb.out (by rw [HB5e.out]; exact LC5.out.lt))
   have HB7 := Lib.hid (HB5.out.trans (hb.out.mono hBw))
   have hz7 : w.heap.size ≤ wr.heap.size := HB7.out.size
   have hg1 := LS7.out.lt
   have hg2 := LC7.out.lt
   clear ho ho2 hb LS5 LC5 HB5 hz5 hz34 hz2 hbs
   generalize hw7 : wr = w7 at *
   clear hw7
   go_wp2_with fail
   go_loopw [7, 8] (fun v c wq => ∃ i : Nat, i ≤ s.size ∧ c = .int .i64 i ∧ Hid (wq.ownsRow w7.heap.size 4 1 v (pkB cd ls (s.data.toList.take i)).length (cellsL (pkB cd ls (s.data.toList.take i)))) ∧ Hid (Below w7.heap.size w7 wq)) (fun _ c _ => s.size - (intOf c).toNat)
   case atStart => exact ⟨0, by omega, rfl, World.ownsRow_nil _ _ _ _, Below.refl _ _⟩
   case round =>
    obtain ⟨i, hi, rfl, ho, hb⟩ := hrel
    have hbs := hb.out.size
    by_cases hlt : i < s.size
    ·have hii : (i : Int) < (s.size : Int) := by omega
     have hby := byte_of s i hlt
     have htk := pkB_take (cds := cd) (lens := ls) hby
     have hple := pkB_le cd ls (s.data.toList.take i)
     rw [List.length_take, HSL.out, Nat.min_eq_left (by omega)] at hple
     have hblt := (s[i]'hlt).toNat_lt
     obtain ⟨bq, hbq⟩ : ∃ bq, bq = (s[i]'hlt).toNat := ⟨_, rfl⟩
     obtain ⟨n, hn⟩ : ∃ n, ls[bq]? = some n := ⟨_, List.getElem?_eq_getElem (by rw [HLL.out, hbq]; exact hblt)⟩
     obtain ⟨m, hm⟩ : ∃ m, cd[bq]? = some m := ⟨_, List.getElem?_eq_getElem (by rw [HCL.out, hbq]; exact hblt)⟩
     have hn56 := H256.out n (List.mem_of_getElem? hn)
     have hm64 := HCLT.out m (List.mem_of_getElem? hm)
     rw [← hbq, getD_of hn, getD_of hm] at htk
     have hpn : putL m n = bitsN m n := by unfold putL; rw [if_pos (by omega)]
     rw [hpn] at htk
     have k1 : wr.cell? ⟨gL, bq, none⟩ = some (.int .u8 (n : Int)) := ((LS7.out.below hb.out LS7.out.lt).cell bq).trans (by rw [List.getElem?_toArray, HL.out]; exact c8_get hn)
     have k2 : wr.cell? ⟨gC, bq, none⟩ = some (.int .u64 (m : Int)) := ((LC7.out.below hb.out LC7.out.lt).cell bq).trans (by rw [List.getElem?_toArray, HD.out]; exact c64_get'' hm)
     have k1' := k1
     have k2' := k2
     rw [hbq] at k1 k2
     have hbi : ((s[i]'hlt).toNat : Int) < 256 := by omega
     have en : IntKind.i64.wrap (n : Int) = (n : Int) := by rw [IntKind.wrap_i64]; omega
     have HTK := Lib.hid htk
     clear hn hm htk hby hpn
     obtain ⟨pl, hpl⟩ : ∃ pl, pl = pkB cd ls (s.data.toList.take i) := ⟨_, rfl⟩
     rw [← hpl] at hple ho
     have HPL := Lib.hid hpl
     clear hpl
     obtain ⟨A7, c7, rfl⟩ := own_sl ho.out
     have hg1w : gL < wr.heap.size := by omega
     have hg2w : gC < wr.heap.size := by omega
     have hpb : ∀ u ∈ cellsL (bitsN m n), u.oneCell' = true := fun u hu => by
      unfold cellsL at hu
      obtain ⟨b, _, rfl⟩ := List.mem_map.1 hu
      rfl
     have hno : ∀ r, (Value.slice A7 pl.length c7).ownBlock = some r → w7.heap.size ≤ r := fun r hr => (own_lt ho.out hr).1
     have HHK := Lib.hid (fun q (k : Kept (fun r => (Value.slice A7 pl.length c7).ownBlock = some r) wr q) => And.intro ((cell_keptN (i := bq) k (b := gC) (by omega) (fun e => by have := hno _ e; omega)).trans k2') (And.intro ((cell_keptN (i := bq) k (b := gL) (by omega) (fun e => by have := hno _ e; omega)).trans k1') (And.intro (Nat.lt_of_lt_of_le hg2w k.size) (Nat.lt_of_lt_of_le hg1w k.size))))
     clear k1 k2 k1' k2'
     rw [hbq] at HHK
     obtain ⟨N7, hN7⟩ : ∃ N7, N7 = w7.heap.size := ⟨_, rfl⟩
     have HN7 := Lib.hid hN7
     rw [← hN7] at ho hno hbs hg1 hg2
     clear hN7 hbq
     go_wp2_with fail
     refine wp_region_rely (fun q => Kept (fun r => (Value.slice A7 pl.length c7).ownBlock = some r) wr q) (bfV [.eq (.slice A7 pl.length c7), .eq (.string s), .eq (.int .i64 (i : Int)), .eq (.int .u8 ((s[i]'hlt).toNat : Int)), .eq (.pointer (some ⟨gC, (s[i]'hlt).toNat, none⟩)), .eq (.int .u64 (m : Int)), .eq (.string s), .eq (.int .i64 (i : Int)), .eq (.int .u8 ((s[i]'hlt).toNat : Int)), .eq (.pointer (some ⟨gL, (s[i]'hlt).toNat, none⟩)), .eq (.int .u8 (n : Int)), .eq (.int .i64 (n : Int)), .own wr.heap.size 4 1 n (cellsL (bitsN m n)), .own N7 4 1 (pl.length + n) (cellsL pl ++ cellsL (bitsN m n)), .own N7 4 1 (pl.length + n) (cellsL pl ++ cellsL (bitsN m n)), .of (fun _ q => q.ownsRow N7 4 1 (.slice A7 pl.length c7) pl.length (cellsL pl)) (fun _ _ _ hb h1 => owned_below h1 hb)]) [some 31, some 32, some 33, some 34, some 35, some 36, some 37, some 38, some 39, some 40, some 41, some 42, some 43, some 44, some 7] [[], [], [], [1, 2], [3], [4], [], [], [6, 7], [8], [9], [10], [5, 11], [0, 12, 15], [13]] [[], [], [], [1, 2], [1, 2, 3], [3, 4], [], [], [6, 7], [6, 7, 8], [8, 9], [9, 10], [4, 5, 10, 11], [0, 5, 11, 12, 15], [0, 1, 2, 3, 4, 5, 6, 7, 8, 9, 10, 11, 12, 13, 15]] [[1, 2, 3, 4, 5, 6, 7, 8, 9, 10, 11, 12, 15], [0, 2, 4, 5, 6, 7, 8, 9, 10, 11, 12, 13, 15], [0, 1, 4, 5, 6, 7, 8, 9, 10, 11, 12, 13, 15], [0, 5, 6, 7, 8, 9, 10, 11, 12, 13, 15], [0, 6, 7, 8, 9, 10, 11, 12, 13, 15], [0, 6, 7, 8, 9, 10, 11, 13, 15], [0, 1, 2, 3, 4, 5, 7, 9, 10, 11, 12, 13, 15], [0, 1, 2, 3, 4, 5, 6, 9, 10, 11, 12, 13, 15], [0, 1, 2, 3, 4, 5, 10, 11, 12, 13, 15], [0, 1, 2, 3, 4, 5, 11, 12, 13, 15], [0, 1, 2, 3, 4, 5, 12, 13, 15], [0, 1, 2, 3, 4, 5, 6, 7, 13, 15], [0, 1, 2, 6, 7, 8, 15], [1, 2, 3, 6, 7, 8, 9], []] [0, 1, 2, 3, 4, 5, 6, 7, 8, 9, 10, 11, 12, 13, 14] 16 (by kernel_rfl) (by kernel_rfl) (by kernel_rfl) (by kernel_rfl) ?rS ?rI ?rT ?rE
     case rS => exact Kept.drewN _ _ 1
     case rI =>
      intro j h1 h2
      have h2 : 15 ≤ j := h2
      obtain rfl : j = 15 := by omega
      exact owned_drewN ho.out 1
     case rT =>
      refine RelySteps.cons (RelyStep.mk [] [1, 2, 3, 4, 5, 6, 7, 8, 9, 10, 11, 12, 15] rfl rfl rfl (fun xv wS hS hV bq hb K hK => ?_)) ?_
      ·clear hV
       simp only [putsOf, List.foldl_cons, List.foldl_nil, List.getD_cons_zero, List.getD_cons_succ, List.getD_nil, cond_true, cond_false, Act.put, List.setIfInBounds_toArray, List.set_cons_zero, List.set_cons_succ] at hb
       subst hb
       rw [if_pos (by rfl)]
       go_wp2_with fail
       exact hK.out _ _ ⟨_, rfl, hS, rfl, AllP.same _⟩
      refine RelySteps.cons (RelyStep.mk [] [0, 2, 4, 5, 6, 7, 8, 9, 10, 11, 12, 13, 15] rfl rfl rfl (fun xv wS hS hV bq hb K hK => ?_)) ?_
      ·clear hV
       simp only [putsOf, List.foldl_cons, List.foldl_nil, List.getD_cons_zero, List.getD_cons_succ, List.getD_nil, cond_true, cond_false, Act.put, List.setIfInBounds_toArray, List.set_cons_zero, List.set_cons_succ] at hb
       subst hb
       rw [if_pos (by rfl)]
       go_wp2_with fail
       exact hK.out _ _ ⟨_, rfl, hS, rfl, AllP.same _⟩
      refine RelySteps.cons (RelyStep.mk [] [0, 1, 4, 5, 6, 7, 8, 9, 10, 11, 12, 13, 15] rfl rfl rfl (fun xv wS hS hV bq hb K hK => ?_)) ?_
      ·clear hV
       simp only [putsOf, List.foldl_cons, List.foldl_nil, List.getD_cons_zero, List.getD_cons_succ, List.getD_nil, cond_true, cond_false, Act.put, List.setIfInBounds_toArray, List.set_cons_zero, List.set_cons_succ] at hb
       subst hb
       rw [if_pos (by rfl)]
       go_wp2_with fail
       exact hK.out _ _ ⟨_, rfl, hS, rfl, AllP.same _⟩
      refine RelySteps.cons (RelyStep.mk [1, 2] [0, 5, 6, 7, 8, 9, 10, 11, 12, 13, 15] rfl rfl rfl (fun xv wS hS hV bq hb K hK => ?_)) ?_
      ·obtain ⟨h1, h2, _⟩ := hV
       have h1 : xv 1 = _ := h1
       have h2 : xv 2 = _ := h2
       simp only [putsOf, List.foldl_cons, List.foldl_nil, List.getD_cons_zero, List.getD_cons_succ, List.getD_nil, cond_true, cond_false, Act.put, List.setIfInBounds_toArray, List.set_cons_zero, List.set_cons_succ, h1, h2] at hb
       clear h1
       clear h2
       subst hb
       rw [if_pos (by rfl)]
       go_wp2_with fail
       exact hK.out _ _ ⟨_, rfl, hS, rfl, AllP.same _⟩
      refine RelySteps.cons (RelyStep.mk [3] [0, 6, 7, 8, 9, 10, 11, 12, 13, 15] rfl rfl rfl (fun xv wS hS hV bq hb K hK => ?_)) ?_
      ·obtain ⟨h3, _⟩ := hV
       have h3 : xv 3 = _ := h3
       simp only [putsOf, List.foldl_cons, List.foldl_nil, List.getD_cons_zero, List.getD_cons_succ, List.getD_nil, cond_true, cond_false, Act.put, List.setIfInBounds_toArray, List.set_cons_zero, List.set_cons_succ, h3] at hb
       clear h3
       subst hb
       rw [if_pos (by rfl)]
       go_wp2_with fail
       exact hK.out _ _ ⟨_, rfl, hS, rfl, AllP.same _⟩
      refine RelySteps.cons (RelyStep.mk [4] [0, 6, 7, 8, 9, 10, 11, 13, 15] rfl rfl rfl (fun xv wS hS hV bq hb K hK => ?_)) ?_
      ·obtain ⟨h4, _⟩ := hV
       have h4 : xv 4 = _ := h4
       simp only [putsOf, List.foldl_cons, List.foldl_nil, List.getD_cons_zero, List.getD_cons_succ, List.getD_nil, cond_true, cond_false, Act.put, List.setIfInBounds_toArray, List.set_cons_zero, List.set_cons_succ, h4] at hb
       clear h4
       subst hb
       rw [if_pos (by rfl)]
       (obtain ⟨q1, q2, q3, q4⟩ := HHK.out wS hS)
       go_wp2_with fail
       exact hK.out _ _ ⟨_, rfl, hS, rfl, AllP.same _⟩
      refine RelySteps.cons (RelyStep.mk [] [0, 1, 2, 3, 4, 5, 7, 9, 10, 11, 12, 13, 15] rfl rfl rfl (fun xv wS hS hV bq hb K hK => ?_)) ?_
      ·clear hV
       simp only [putsOf, List.foldl_cons, List.foldl_nil, List.getD_cons_zero, List.getD_cons_succ, List.getD_nil, cond_true, cond_false, Act.put, List.setIfInBounds_toArray, List.set_cons_zero, List.set_cons_succ] at hb
       subst hb
       rw [if_pos (by rfl)]
       go_wp2_with fail
       exact hK.out _ _ ⟨_, rfl, hS, rfl, AllP.same _⟩
      refine RelySteps.cons (RelyStep.mk [] [0, 1, 2, 3, 4, 5, 6, 9, 10, 11, 12, 13, 15] rfl rfl rfl (fun xv wS hS hV bq hb K hK => ?_)) ?_
      ·clear hV
       simp only [putsOf, List.foldl_cons, List.foldl_nil, List.getD_cons_zero, List.getD_cons_succ, List.getD_nil, cond_true, cond_false, Act.put, List.setIfInBounds_toArray, List.set_cons_zero, List.set_cons_succ] at hb
       subst hb
       rw [if_pos (by rfl)]
       go_wp2_with fail
       exact hK.out _ _ ⟨_, rfl, hS, rfl, AllP.same _⟩
      refine RelySteps.cons (RelyStep.mk [6, 7] [0, 1, 2, 3, 4, 5, 10, 11, 12, 13, 15] rfl rfl rfl (fun xv wS hS hV bq hb K hK => ?_)) ?_
      ·obtain ⟨h6, h7, _⟩ := hV
       have h6 : xv 6 = _ := h6
       have h7 : xv 7 = _ := h7
       simp only [putsOf, List.foldl_cons, List.foldl_nil, List.getD_cons_zero, List.getD_cons_succ, List.getD_nil, cond_true, cond_false, Act.put, List.setIfInBounds_toArray, List.set_cons_zero, List.set_cons_succ, h6, h7] at hb
       clear h6
       clear h7
       subst hb
       rw [if_pos (by rfl)]
       go_wp2_with fail
       exact hK.out _ _ ⟨_, rfl, hS, rfl, AllP.same _⟩
      refine RelySteps.cons (RelyStep.mk [8] [0, 1, 2, 3, 4, 5, 11, 12, 13, 15] rfl rfl rfl (fun xv wS hS hV bq hb K hK => ?_)) ?_
      ·obtain ⟨h8, _⟩ := hV
       have h8 : xv 8 = _ := h8
       simp only [putsOf, List.foldl_cons, List.foldl_nil, List.getD_cons_zero, List.getD_cons_succ, List.getD_nil, cond_true, cond_false, Act.put, List.setIfInBounds_toArray, List.set_cons_zero, List.set_cons_succ, h8] at hb
       clear h8
       subst hb
       rw [if_pos (by rfl)]
       go_wp2_with fail
       exact hK.out _ _ ⟨_, rfl, hS, rfl, AllP.same _⟩
      refine RelySteps.cons (RelyStep.mk [9] [0, 1, 2, 3, 4, 5, 12, 13, 15] rfl rfl rfl (fun xv wS hS hV bq hb K hK => ?_)) ?_
      ·obtain ⟨h9, _⟩ := hV
       have h9 : xv 9 = _ := h9
       simp only [putsOf, List.foldl_cons, List.foldl_nil, List.getD_cons_zero, List.getD_cons_succ, List.getD_nil, cond_true, cond_false, Act.put, List.setIfInBounds_toArray, List.set_cons_zero, List.set_cons_succ, h9] at hb
       clear h9
       subst hb
       rw [if_pos (by rfl)]
       (obtain ⟨q1, q2, q3, q4⟩ := HHK.out wS hS)
       go_wp2_with fail
       exact hK.out _ _ ⟨_, rfl, hS, rfl, AllP.same _⟩
      refine RelySteps.cons (RelyStep.mk [10] [0, 1, 2, 3, 4, 5, 6, 7, 13, 15] rfl rfl rfl (fun xv wS hS hV bq hb K hK => ?_)) ?_
      ·obtain ⟨h10, _⟩ := hV
       have h10 : xv 10 = _ := h10
       simp only [putsOf, List.foldl_cons, List.foldl_nil, List.getD_cons_zero, List.getD_cons_succ, List.getD_nil, cond_true, cond_false, Act.put, List.setIfInBounds_toArray, List.set_cons_zero, List.set_cons_succ, h10] at hb
       clear h10
       subst hb
       rw [if_pos (by rfl)]
       go_wp2_with fail
       exact hK.out _ _ ⟨_, rfl, hS, rfl, AllP.same _⟩
      refine RelySteps.cons (RelyStep.mk [5, 11] [0, 1, 2, 6, 7, 8, 15] rfl rfl rfl (fun xv wS hS hV bq hb K hK => ?_)) ?_
      ·obtain ⟨h5, h11, _⟩ := hV
       have h5 : xv 5 = _ := h5
       have h11 : xv 11 = _ := h11
       simp only [putsOf, List.foldl_cons, List.foldl_nil, List.getD_cons_zero, List.getD_cons_succ, List.getD_nil, cond_true, cond_false, Act.put, List.setIfInBounds_toArray, List.set_cons_zero, List.set_cons_succ, h5, h11] at hb
       clear h5
       clear h11
       subst hb
       rw [if_pos (by rfl)]
       have HSS := Lib.hid hS
       clear hS
       go_wp2_with fail
       refine (refBits m n wS hm64 (by omega)).mono ?_
       rintro e w9 ⟨v, rfl, ho9, hb9⟩
       exact hK.out _ _ ⟨_, rfl, HSS.out.trans (Kept.of_below hb9) (fun _ _ hf => hf.elim), owns_base ho9 HSS.out.size, AllP.of _ (fun j _ u h => bfV_below hb9 h)⟩
      refine RelySteps.cons (RelyStep.mk [0, 12, 15] [1, 2, 3, 6, 7, 8, 9] rfl rfl rfl (fun xv wS hS hV bq hb K hK => ?_)) ?_
      ·obtain ⟨h0, h12, h15, _⟩ := hV
       have h0 : xv 0 = _ := h0
       simp only [putsOf, List.foldl_cons, List.foldl_nil, List.getD_cons_zero, List.getD_cons_succ, List.getD_nil, cond_true, cond_false, Act.put, List.setIfInBounds_toArray, List.set_cons_zero, List.set_cons_succ, h0] at hb
       clear h0
       generalize xv 12 = y12 at *
       generalize xv 15 = y15 at *
       subst hb
       rw [if_pos (by rfl)]
       have HSS := Lib.hid hS
       have h12' : wS.ownsRow wr.heap.size 4 1 y12 n (cellsL (bitsN m n)) := h12
       have h15' : wS.ownsRow N7 4 1 (.slice A7 pl.length c7) pl.length (cellsL pl) := h15
       obtain ⟨A9, c9, rfl⟩ := own_sl h12'
       clear hS h12 h15
       refine step_list (ops := #[]) (by rfl) (append_argS wS 1 rfl (.tmp 31) (.tmp 43) 93 rfl N7 4 _ 1 Tryz.underlying93 Tryz.infoBool rfl (by decide) (.slice A7 pl.length c7) pl.length (cellsL pl) rfl h15' A9 n c9 rfl (cellsL (bitsN m n)) (SeqS.of_owns h12') hpb (by unfold maxLen; omega) (by omega) (Nat.le_trans hbs HSS.out.size) ?_)
       intro v' w9 ho9 hb9 hgr
       exact hK.out _ _ ⟨_, rfl, HSS.out.trans (Kept.of_grown hgr) (fun _ _ h => h), ho9, AllP.of _ (fun j hj u h => bfV_lit rfl hj h)⟩
      refine RelySteps.cons (RelyStep.mk [13] [] rfl rfl rfl (fun xv wS hS hV bq hb K hK => ?_)) ?_
      ·obtain ⟨h13, _⟩ := hV
       simp only [putsOf, List.foldl_cons, List.foldl_nil, List.getD_cons_zero, List.getD_cons_succ, List.getD_nil, cond_true, cond_false, Act.put, List.setIfInBounds_toArray, List.set_cons_zero, List.set_cons_succ] at hb
       generalize xv 13 = y13 at *
       subst hb
       rw [if_pos (by rfl)]
       have HSS := Lib.hid hS
       have H13 := Lib.hid h13
       clear hS h13
       go_wp2_with fail
       exact hK.out _ _ ⟨_, rfl, HSS.out, H13.out, AllP.same _⟩
      exact RelySteps.nil
     case rE =>
      intro xv wE hS hV
      have h14 := hV 14 (by decide) (by decide)
      clear hV
      simp only [putsOf, List.foldl_cons, List.foldl_nil, List.getD_cons_zero, List.getD_cons_succ, List.getD_nil, cond_true, cond_false, Act.put, List.setIfInBounds_toArray, List.set_cons_zero, List.set_cons_succ]
      generalize xv 0 = y0 at *
      generalize xv 1 = y1 at *
      generalize xv 2 = y2 at *
      generalize xv 3 = y3 at *
      generalize xv 4 = y4 at *
      generalize xv 5 = y5 at *
      generalize xv 6 = y6 at *
      generalize xv 7 = y7 at *
      generalize xv 8 = y8 at *
      generalize xv 9 = y9 at *
      generalize xv 10 = y10 at *
      generalize xv 11 = y11 at *
      generalize xv 12 = y12 at *
      generalize xv 13 = y13 at *
      generalize xv 14 = y14 at *
      have ho9 : wE.ownsRow N7 4 1 y14 (pl.length + n) (cellsL pl ++ cellsL (bitsN m n)) := h14
      have hcl : cellsL pl ++ cellsL (bitsN m n) = cellsL (pkB cd ls (s.data.toList.take (i + 1))) := by rw [HTK.out, ← HPL.out]; unfold cellsL; rw [List.map_append]
      have hll : pl.length + n = (pkB cd ls (s.data.toList.take (i + 1))).length := by rw [HTK.out, ← HPL.out, List.length_append, bitsN_length]
      rw [hcl, hll] at ho9
      have HO9 := Lib.hid ho9
      have HB9 := Lib.hid (hb.out.trans (hS.below (B := w7.heap.size) (by rw [← HN7.out]; exact hbs) (fun r hr e => by have := hno r e; rw [← HN7.out] at hr; omega)))
      clear ho9 hcl hll hS h14 ho hb
      rw [HN7.out] at HO9
      go_wp2
      go_roundw
      case rel => exact ⟨i + 1, by omega, by go_num, HO9, HB9⟩
      case measure => simp [intOf]; omega
    ·obtain rfl : s.size = i := by omega
     have ho2 := ho.out
     rw [List.take_of_length_le (by rw [HSL.out]; exact Nat.le_refl _)] at ho2
     obtain ⟨A7, c7, rfl⟩ := own_sl ho2
     have hple := pkB_le cd ls s.data.toList
     rw [HSL.out] at hple
     have hpk := HPK.out
     rw [HSL.out] at hpk
     have he := (enc_length s.size).2
     have hpr := printR_le ls
     rw [HLL.out] at hpr
     obtain ⟨pl, hpl⟩ : ∃ pl, pl = pkB cd ls s.data.toList := ⟨_, rfl⟩
     rw [← hpl] at hple hpk ho2 ⊢
     obtain ⟨E, hE⟩ : ∃ E, E = enc s.size := ⟨_, rfl⟩
     obtain ⟨Pr, hPr⟩ : ∃ Pr, Pr = printR ls := ⟨_, rfl⟩
     obtain ⟨Q, hQ⟩ : ∃ Q, Q = packB pl := ⟨_, rfl⟩
     have hql : Q.length ≤ 1000000000 := by rw [hQ]; unfold packB; rw [List.length_map, List.length_range]; omega
     rw [← hE] at he hpk
     rw [← hPr] at hpr hpk
     rw [← hQ] at hpk
     have hs1 : (textB E).size + (textB Pr).size ≤ 9223372036854775807 := by rw [textB_size, textB_size]; omega
     have ht1 : textB E ++ textB Pr = textB (E ++ Pr) := text_append _ _
     have hs2 : (textB E).size + (textB Pr).size + (textB Q).size ≤ 9223372036854775807 := by rw [textB_size, textB_size, textB_size]; omega
     have HT : Hid ((textB E ++ textB Pr) ++ textB Q = textB (pkT s.data.toList)) := by show _ = _; rw [text_append, text_append, hpk, List.append_assoc]
     have hw8 := (HB7.out.trans (hb.out.mono hz7))
     have HR1 := Lib.hid (refPrint s.size wr (by unfold M64; omega))
     rw [← hE] at HR1
     have HPR2 := HPR
     rw [← hPr] at HPR2
     have HRB := Lib.hid (fun (wx : World) (v : Value) (hv : SeqAt wx v (cellsL pl)) => refBytes v pl wx hv (by omega))
     rw [← hQ] at HRB
     have HALL2 := Lib.hid (owned_below HALL.out hb.out)
     have HO2 := Lib.hid ho2
     have HB8 := Lib.hid hw8
     clear ho ho2 hb HALL hpk he hpr hE hPr hQ hql hw8 hpl hple HPK ht1
     go_wp2_with fail
     refine HR1.out.mono ?_
     rintro e w8 ⟨rfl, hb8⟩
     have HALL3 := Lib.hid (owned_below HALL2.out hb8)
     have HO3 := Lib.hid (owned_below HO2.out hb8)
     have HB9 := Lib.hid (then_ HB8.out hb8)
     clear hb8 HALL2 HO2 HB8
     go_wp2_with fail
     refine (HPR2.out w8 _ (SeqAt.of_owns HALL3.out)).mono ?_
     rintro e w9 ⟨rfl, hb9⟩
     have HO4 := Lib.hid (owned_below HO3.out hb9)
     have HB10 := Lib.hid (then_ HB9.out hb9)
     clear hb9 HALL3 HO3 HB9
     go_wp2_with fail
     refine (HRB.out w9 _ (SeqAt.of_owns HO4.out)).mono ?_
     rintro e w10 ⟨rfl, hb10⟩
     have HB11 := Lib.hid (then_ HB10.out hb10)
     clear hb10 HO4 HB10
     go_wp2
     go_ret
     exact ⟨by rw [← HT.out]; rfl, HB11.out⟩
def sK (u : Int → Bool) (f : Ev → Nat) (l : List Ev) (t : Int) (k : Nat) : List Nat := selN u f (ownE (l.take k) t)
theorem own_next {l : List Ev} {k : Nat} {x : Ev} (t : Int) (h : l[k]? = some x) : ownE (l.take (k + 1)) t = if x.th = t then ownE (l.take k) t ++ [x] else ownE (l.take k) t := by
 unfold ownE
 rw [List.take_add_one, h, List.filter_append, Option.toList_some, List.filter_cons]
 by_cases e : x.th = t
 ·rw [if_pos (by simpa using e), if_pos e, List.filter_nil]
 ·rw [if_neg (by simpa using e), if_neg e, List.filter_nil, List.append_nil]
theorem selN_snoc (u : Int → Bool) (f : Ev → Nat) (l : List Ev) (x : Ev) : selN u f (l ++ [x]) = if u x.kd = true then selN u f l ++ [f x] else selN u f l := by
 unfold selN
 rw [List.filter_append, List.map_append, List.filter_cons]
 by_cases e : u x.kd = true
 ·rw [if_pos e, if_pos e, List.filter_nil]; rfl
 ·rw [if_neg e, if_neg e, List.filter_nil, List.map_nil, List.append_nil]
theorem sK_other {u : Int → Bool} {f : Ev → Nat} {l : List Ev} {t : Int} {k : Nat} {x : Ev} (h : l[k]? = some x) (ht : x.th ≠ t) : sK u f l t (k + 1) = sK u f l t k := by
 unfold sK; rw [own_next t h, if_neg ht]
theorem sK_own {u : Int → Bool} {f : Ev → Nat} {l : List Ev} {t : Int} {k : Nat} {x : Ev} (h : l[k]? = some x) (ht : x.th = t) : sK u f l t (k + 1) = if u x.kd = true then sK u f l t k ++ [f x] else sK u f l t k := by
 unfold sK; rw [own_next t h, if_pos ht, selN_snoc]
theorem sK_le (u : Int → Bool) (f : Ev → Nat) (l : List Ev) (t : Int) (k : Nat) : (sK u f l t k).length ≤ k := by
 unfold sK
 have h1 := selN_length u f (ownE (l.take k) t)
 have h2 := ownE_le (l.take k) t
 have h3 : (l.take k).length ≤ k := by rw [List.length_take]; omega
 omega
theorem sK_lt {u : Int → Bool} {f : Ev → Nat} {l : List Ev} (t : Int) (k : Nat) (h : ∀ x ∈ l, f x < M64) : ∀ n ∈ sK u f l t k, n < M64 := selN_lt (fun x hx => h x (List.mem_of_mem_take (List.mem_filter.1 hx).1))
theorem row_len {w : World} {B : Nat} {v : Value} {xs : List Nat} (h : RowU w B v xs) : ∃ A c, v = .slice A xs.length c ∧ xs.length ≤ c ∧ c ≤ 9223372036854775807 := by
 obtain ⟨A, c, h0, h1, h2, _⟩ := (SeqS.of_owns h).form
 unfold maxLen at h2
 exact ⟨A, c, h0, h1, h2⟩
theorem row_at {w : World} {B : Nat} {v : Value} {xs : List Nat} (h : RowU w B v xs) : SeqAt w v (cells64 xs) := SeqAt.of_owns h
theorem right_lt {l : List Ev} (hR : ∀ x ∈ l, rightE x = true) (hok : ∀ x ∈ l, evOk x) : (∀ x ∈ l, thF x < M64) ∧ (∀ x ∈ l, kdF x < M64) ∧ (∀ x ∈ l, rgF x < M64) ∧ (∀ x ∈ l, tkF x < M64) ∧ (∀ x ∈ l, vlF x < M64) := by
 refine ⟨fun x hx => ?_, fun x hx => ?_, fun x hx => ?_, fun x hx => ?_, fun x hx => ?_⟩ <;>
 ·have h1 := right_in (hR x hx)
  obtain ⟨_, _, _, h4, h5⟩ := hok x hx
  unfold M64
  first | (unfold thF; omega) | (unfold kdF; omega) | (unfold rgF; omega) | (unfold tkF; omega) | (unfold vlF; omega)
set_option maxHeartbeats 8000000 in
set_option maxRecDepth 100000 in
theorem refStreams21 (l : List Ev) (A : Option Addr) (c : Nat) (w : World) (h : EvsAt w A c l) (hR : ∀ x ∈ l, rightE x = true) (hok : ∀ x ∈ l, evOk x) (hl : l.length ≤ 65536) :
  Calls Tryz.prog 10 #[.slice A l.length c] w fun e w' => e = .returned (.string (textB (strS l))) ∧ Below w.heap.size w w' := by
 obtain ⟨A', c', e', h1, h2, _⟩ := h.form
 simp only [Value.slice.injEq, true_and] at e'
 obtain ⟨rfl, rfl⟩ := e'
 unfold maxLen at h2
 have HH := Lib.hid h
 have HR := Lib.hid hR
 have HLT := Lib.hid (right_lt hR hok)
 have HB := Lib.hid (Below.refl w.heap.size w)
 clear h hR hok
 go_enter Tryz.func10, Tryz.ntmps10
 go_wp2_with fail
 go_loopw [3, 4] (fun v t wr => ∃ i : Nat, i ≤ l.length ∧ t = .int .i64 i ∧ Hid (wr.ownsRow w.heap.size 34 1 v i (cells64 ((l.map thF).take i))) ∧ Hid (Below w.heap.size w wr)) (fun _ t _ => l.length - (intOf t).toNat)
 case atStart => exact ⟨0, by omega, rfl, World.ownsRow_nil _ _ _ _, HB.out⟩
 case round =>
  clear HB
  obtain ⟨i, hi, rfl, ho, hb⟩ := hrel
  have hbz := hb.out.size
  by_cases hlt : i < l.length
  ·have hii : (i : Int) < (l.length : Int) := by omega
   obtain ⟨x, hx⟩ : ∃ x, l[i]? = some x := ⟨_, List.getElem?_eq_getElem hlt⟩
   obtain ⟨bA, off, rfl, hbA, hc⟩ := EvsAt.at_ (SeqS.later HH.out hb.out) hx
   have c0 := hc 0 _ (by decide) rfl
   have c1 := hc 1 _ (by decide) rfl
   have c2 := hc 2 _ (by decide) rfl
   have c3 := hc 3 _ (by decide) rfl
   have c4 := hc 4 _ (by decide) rfl
   rw [Nat.add_zero] at c0
   have hrt := right_in (HR.out x (List.mem_of_getElem? hx))
   have HNX := Lib.hid (thr_next hx)
   have e1 : IntKind.u64.wrap x.th = ((thF x : Nat) : Int) := by rw [IntKind.wrap_u64]; unfold thF; omega
   obtain ⟨n, hn⟩ : ∃ n, n = thF x := ⟨_, rfl⟩
   rw [← hn] at e1 HNX
   clear hc hx hn hrt
   go_wp2_with (at_builtin; refine append_one wr (.int .u64 (n : Int)) rfl (.tmp 19) (.tmp 26) 46 rfl w.heap.size 34 _ _ Tryz.underlying46 Tryz.infoU64 rfl rfl _ _ _ rfl ho.out rfl (by unfold maxLen; omega) (by omega) hbz ?_)
   intro v' w5 ho5 hb5 _
   rw [HNX.out] at ho5
   have HO5 := Lib.hid ho5
   have HB5 := Lib.hid (hb.out.trans hb5)
   clear ho5 hb5 ho hb c0 c1 c2 c3 c4
   go_wp2
   go_roundw
   case rel => exact ⟨i + 1, by omega, by go_num, HO5, HB5⟩
   case measure => simp [intOf]; omega
  ·obtain rfl : l.length = i := by omega
   have ho2 := ho.out
   rw [List.take_of_length_le (by rw [List.length_map]; exact Nat.le_refl _)] at ho2
   have HSQ := Lib.hid (SeqAt.of_owns ho2)
   have HBr := Lib.hid hb.out
   have hle0 := printR_le21 (l.map thF)
   rw [List.length_map] at hle0
   clear ho ho2 hb
   go_wp2_with fail
   refine (refPrint4 _ (l.map thF) wr HSQ.out (by rw [List.length_map]; omega) (fun n hn => by
    obtain ⟨x, hx, rfl⟩ := List.mem_map.1 hn
    exact HLT.out.1 x hx)).mono ?_
   rintro e w3 ⟨rfl, hb3⟩
   have HB3 := Lib.hid (HBr.out.trans (hb3.mono HBr.out.size))
   clear hb3 HBr HSQ
   have hS0 : textB (printR (l.map thF)) = textB (strK l 0) := rfl
   rw [hS0]
   clear hS0 hle0 hbz
   go_wp2_with fail
   go_loopw [5, 6] (fun s t wr => ∃ k : Nat, k ≤ 8 ∧ t = .int .i64 k ∧ s = .string (textB (strK l k)) ∧ Hid (Below w.heap.size w wr)) (fun _ t _ => 8 - (intOf t).toNat)
   case atStart => exact ⟨0, by omega, rfl, rfl, HB3.out⟩
   case round =>
    clear HB3
    obtain ⟨k, hk, rfl, rfl, hb⟩ := hrel
    have hbz := hb.out.size
    have hle : (strK l k).length ≤ 10 + 20 * l.length + 8 * (40 + 60 * l.length) := Nat.le_trans (strK_le l k) (Nat.add_le_add_left (Nat.mul_le_mul_right _ hk) _)
    by_cases hk8 : k < 8
    ·have hki : (k : Int) < 8 := by omega
     obtain ⟨S, hS⟩ : ∃ S, S = textB (strK l k) := ⟨_, rfl⟩
     rw [← hS]
     have HS := Lib.hid hS
     have hSz : S.size ≤ 40000000 := by rw [hS, textB_size]; omega
     clear hS hle
     generalize hwK : wr = wK at *
     clear hwK
     go_wp2_with fail
     go_loopw [7, 8, 9, 10, 11] (fun v1 v2 v3 v4 t wr => ∃ i : Nat, i ≤ l.length ∧ t = .int .i64 i ∧ Hid (Row4 wr wK.heap.size v1 v2 v3 v4 (sK allU kdF l (k : Int) i) (sK ringB rgF l (k : Int) i) (sK ticketB tkF l (k : Int) i) (sK valueB vlF l (k : Int) i)) ∧ Hid (Below wK.heap.size wK wr)) (fun _ _ _ _ t _ => l.length - (intOf t).toNat)
     case atStart => exact ⟨0, by omega, rfl, Row4.nil _ _, Below.refl _ _⟩
     case round =>
      obtain ⟨i, hi, rfl, hq, hbk⟩ := hrel
      have hkz := hbk.out.size
      have HBw := Lib.hid (hb.out.trans (hbk.out.mono hbz))
      by_cases hlt : i < l.length
      ·have hii : (i : Int) < (l.length : Int) := by omega
       obtain ⟨x, hx⟩ : ∃ x, l[i]? = some x := ⟨_, List.getElem?_eq_getElem hlt⟩
       obtain ⟨bA, off, rfl, hbA, hc⟩ := EvsAt.at_ (SeqS.later HH.out HBw.out) hx
       have c0 := hc 0 _ (by decide) rfl
       have c1 := hc 1 _ (by decide) rfl
       have c2 := hc 2 _ (by decide) rfl
       have c3 := hc 3 _ (by decide) rfl
       have c4 := hc 4 _ (by decide) rfl
       rw [Nat.add_zero] at c0
       have hrt := right_in (HR.out x (List.mem_of_getElem? hx))
       have hl1 := sK_le allU kdF l (k : Int) i
       have hl2 := sK_le ringB rgF l (k : Int) i
       have hl3 := sK_le ticketB tkF l (k : Int) i
       have hl4 := sK_le valueB vlF l (k : Int) i
       have HX := Lib.hid hx
       have HO := Lib.hid (fun e => And.intro (sK_other (u := allU) (f := kdF) hx (t := (k : Int)) e) (And.intro (sK_other (u := ringB) (f := rgF) hx (t := (k : Int)) e) (And.intro (sK_other (u := ticketB) (f := tkF) hx (t := (k : Int)) e) (sK_other (u := valueB) (f := vlF) hx (t := (k : Int)) e))))
       have e1 : IntKind.u64.wrap x.kd = ((kdF x : Nat) : Int) := by rw [IntKind.wrap_u64]; unfold kdF; omega
       have e2 : IntKind.u64.wrap x.rg = ((rgF x : Nat) : Int) := by rw [IntKind.wrap_u64]; unfold rgF; omega
       clear hc hx hrt
       go_upto_region 15 with (fail)
       have LE := Lib.hid (Lies.made wr 36 (evC x))
       have hba := (Below.refl wr.heap.size wr).alloc (Nat.le_refl _) (.cells (evC x) 36)
       have HBa := Lib.hid (hbk.out.trans (hba.mono hkz))
       have HQa := Lib.hid (hq.out.below hba)
       obtain ⟨g, hg⟩ : ∃ g, g = wr.heap.size := ⟨_, rfl⟩
       rw [← hg] at LE ⊢
       clear c0 c1 c2 c3 c4 hg hq hbk hba HBw
       generalize wr.alloc (.cells (evC x) 36) = w3 at *
       have hz3 := HBa.out.size
       have d0 := (LE.out.cell 0).trans (show _ = some (Value.int .i64 x.th) from rfl)
       have d1 := (LE.out.cell 1).trans (show _ = some (Value.int .i64 x.kd) from rfl)
       have d2 := (LE.out.cell 2).trans (show _ = some (Value.int .i64 x.rg) from rfl)
       have d3 := (LE.out.cell 3).trans (show _ = some (Value.int .u64 (x.tk : Int)) from rfl)
       have d4 := (LE.out.cell 4).trans (show _ = some (Value.int .u64 (x.vl : Int)) from rfl)
       have el := LE.out.lt
       by_cases ht : x.th = (k : Int)
       case neg =>
        have x1 : (x.th != (k : Int)) = true := by rw [bne_iff_ne]; exact ht
        have hO := HO.out ht
        have HQ4 : Hid (Row4 w3 wK.heap.size u7 u8 u9 u10 (sK allU kdF l (k : Int) (i + 1)) (sK ringB rgF l (k : Int) (i + 1)) (sK ticketB tkF l (k : Int) (i + 1)) (sK valueB vlF l (k : Int) (i + 1))) := by
         have h := HQa.out
         rw [← hO.1, ← hO.2.1, ← hO.2.2.1, ← hO.2.2.2] at h
         exact h
        clear ht hO HO HX HQa LE
        go_wp2
        go_roundw
        case rel => exact ⟨i + 1, by omega, by go_num, HQ4, HBa⟩
        case measure => simp [intOf]; omega
       have x1 : (x.th != (k : Int)) = false := by rw [bne_eq_false_iff_eq]; exact ht
       rcases kinds_apart x.kd with ⟨ht2, hr, hv⟩ | ⟨ht2, hr, hv⟩ | ⟨ht2, hr, hv⟩ | ⟨ht2, hr, hv⟩
       ·have HNR := Lib.hid (fun w => (by have h := namesR x w; rw [hr] at h; exact h : Calls Tryz.prog 24 #[.agg (evC x), .int .u8 82] w fun e w' => e = .returned (.bool true) ∧ Below w.heap.size w w'))
        have HNT := Lib.hid (fun w => (by have h := namesT x w; rw [ht2] at h; exact h : Calls Tryz.prog 24 #[.agg (evC x), .int .u8 84] w fun e w' => e = .returned (.bool true) ∧ Below w.heap.size w w'))
        have HNV := Lib.hid (fun w => (by have h := namesV x w; rw [hv] at h; exact h : Calls Tryz.prog 24 #[.agg (evC x), .int .u8 86] w fun e w' => e = .returned (.bool false) ∧ Below w.heap.size w w'))
        have HN2 := Lib.hid ((sK_own (u := ringB) (f := rgF) HX.out ht).trans (if_pos hr))
        have HN3 := Lib.hid ((sK_own (u := ticketB) (f := tkF) HX.out ht).trans (if_pos ht2))
        have HN4 := Lib.hid ((sK_own (u := valueB) (f := vlF) HX.out ht).trans (if_neg (by rw [hv]; decide)))
        have HN1 := Lib.hid ((sK_own (u := allU) (f := kdF) HX.out ht).trans (if_pos rfl))
        clear hr ht2 hv ht HO HX
        go_wp2_with (at_builtin; refine append_four w3 (kdF x) rfl (.tmp 48) (.tmp 52) 46 rfl wK.heap.size _ _ Tryz.underlying46 Tryz.infoU64 rfl HQa.out rfl rfl (by unfold maxLen; omega) (by omega) hz3 ?_)
        intro v1' w5 hq5 hb5 hk5
        rw [← HN1.out] at hq5
        have HQ5 := Lib.hid hq5
        have LE5 := Lib.hid (hk5 _ _ _ LE.out (by decide))
        have HB5 := Lib.hid (HBa.out.trans hb5)
        clear hq5 hb5 hk5 LE HBa HQa HN1 d0 d1 d2 d3 d4 el hz3
        have d0 := (LE5.out.cell 0).trans (show _ = some (Value.int .i64 x.th) from rfl)
        have d1 := (LE5.out.cell 1).trans (show _ = some (Value.int .i64 x.kd) from rfl)
        have d2 := (LE5.out.cell 2).trans (show _ = some (Value.int .i64 x.rg) from rfl)
        have d3 := (LE5.out.cell 3).trans (show _ = some (Value.int .u64 (x.tk : Int)) from rfl)
        have d4 := (LE5.out.cell 4).trans (show _ = some (Value.int .u64 (x.vl : Int)) from rfl)
        have el := LE5.out.lt
        go_wp2_with fail
        refine (HNR.out w5).mono ?_
        rintro e w6 ⟨rfl, hb6⟩
        have HQ6 := Lib.hid (HQ5.out.below hb6)
        have LE6 := Lib.hid (LE5.out.below hb6 LE5.out.lt)
        have HB6 := Lib.hid (HB5.out.trans (hb6.mono HB5.out.size))
        clear hb6 HQ5 LE5 HB5 HNR d0 d1 d2 d3 d4 el
        have d2 := (LE6.out.cell 2).trans (show _ = some (Value.int .i64 x.rg) from rfl)
        have el := LE6.out.lt
        have hz6 := HB6.out.size
        go_wp2_with (at_builtin; refine append_four w6 (rgF x) rfl (.tmp 56) (.tmp 60) 46 rfl wK.heap.size _ _ Tryz.underlying46 Tryz.infoU64 rfl HQ6.out.turn rfl rfl (by unfold maxLen; omega) (by omega) hz6 ?_)
        intro v2' w7 hq7 hb7 hk7
        rw [← HN2.out] at hq7
        have HQ7 := Lib.hid hq7.turn.turn.turn
        have LE7 := Lib.hid (hk7 _ _ _ LE6.out (by decide))
        have HB7 := Lib.hid (HB6.out.trans hb7)
        clear hq7 hb7 hk7 LE6 HB6 HQ6 HN2 d2 el hz6
        have d0 := (LE7.out.cell 0).trans (show _ = some (Value.int .i64 x.th) from rfl)
        have d1 := (LE7.out.cell 1).trans (show _ = some (Value.int .i64 x.kd) from rfl)
        have d2 := (LE7.out.cell 2).trans (show _ = some (Value.int .i64 x.rg) from rfl)
        have d3 := (LE7.out.cell 3).trans (show _ = some (Value.int .u64 (x.tk : Int)) from rfl)
        have d4 := (LE7.out.cell 4).trans (show _ = some (Value.int .u64 (x.vl : Int)) from rfl)
        have el := LE7.out.lt
        go_wp2_with fail
        refine (HNT.out w7).mono ?_
        rintro e w8 ⟨rfl, hb8⟩
        have HQ8 := Lib.hid (HQ7.out.below hb8)
        have LE8 := Lib.hid (LE7.out.below hb8 LE7.out.lt)
        have HB8 := Lib.hid (HB7.out.trans (hb8.mono HB7.out.size))
        clear hb8 HQ7 LE7 HB7 HNT d0 d1 d2 d3 d4 el
        have d3 := (LE8.out.cell 3).trans (show _ = some (Value.int .u64 (x.tk : Int)) from rfl)
        have el := LE8.out.lt
        have hz8 := HB8.out.size
        go_wp2_with (at_builtin; refine append_four w8 x.tk rfl (.tmp 64) (.tmp 67) 46 rfl wK.heap.size _ _ Tryz.underlying46 Tryz.infoU64 rfl HQ8.out.turn.turn rfl rfl (by unfold maxLen; omega) (by omega) hz8 ?_)
        intro v3' w9 hq9 hb9 hk9
        rw [show x.tk = tkF x from rfl, ← HN3.out] at hq9
        have HQ9 := Lib.hid hq9.turn.turn
        have LE9 := Lib.hid (hk9 _ _ _ LE8.out (by decide))
        have HB9 := Lib.hid (HB8.out.trans hb9)
        clear hq9 hb9 hk9 LE8 HB8 HQ8 HN3 d3 el hz8
        have d0 := (LE9.out.cell 0).trans (show _ = some (Value.int .i64 x.th) from rfl)
        have d1 := (LE9.out.cell 1).trans (show _ = some (Value.int .i64 x.kd) from rfl)
        have d2 := (LE9.out.cell 2).trans (show _ = some (Value.int .i64 x.rg) from rfl)
        have d3 := (LE9.out.cell 3).trans (show _ = some (Value.int .u64 (x.tk : Int)) from rfl)
        have d4 := (LE9.out.cell 4).trans (show _ = some (Value.int .u64 (x.vl : Int)) from rfl)
        have el := LE9.out.lt
        go_wp2_with fail
        refine (HNV.out w9).mono ?_
        rintro e w10 ⟨rfl, hb10⟩
        have HQ10 := Lib.hid (HQ9.out.below hb10)
        have LE10 := Lib.hid (LE9.out.below hb10 LE9.out.lt)
        have HB10 := Lib.hid (HB9.out.trans (hb10.mono HB9.out.size))
        clear hb10 HQ9 LE9 HB9 HNV d0 d1 d2 d3 d4 el
        replace HQ10 := Lib.hid (by have h := HQ10.out; rw [← HN4.out] at h; exact h)
        clear HN4
        go_wp2
        go_roundw
        case rel => exact ⟨i + 1, by omega, by go_num, HQ10.out, HB10.out⟩
        case measure => simp [intOf]; omega
       ·have HNR := Lib.hid (fun w => (by have h := namesR x w; rw [hr] at h; exact h : Calls Tryz.prog 24 #[.agg (evC x), .int .u8 82] w fun e w' => e = .returned (.bool true) ∧ Below w.heap.size w w'))
        have HNT := Lib.hid (fun w => (by have h := namesT x w; rw [ht2] at h; exact h : Calls Tryz.prog 24 #[.agg (evC x), .int .u8 84] w fun e w' => e = .returned (.bool false) ∧ Below w.heap.size w w'))
        have HNV := Lib.hid (fun w => (by have h := namesV x w; rw [hv] at h; exact h : Calls Tryz.prog 24 #[.agg (evC x), .int .u8 86] w fun e w' => e = .returned (.bool false) ∧ Below w.heap.size w w'))
        have HN2 := Lib.hid ((sK_own (u := ringB) (f := rgF) HX.out ht).trans (if_pos hr))
        have HN3 := Lib.hid ((sK_own (u := ticketB) (f := tkF) HX.out ht).trans (if_neg (by rw [ht2]; decide)))
        have HN4 := Lib.hid ((sK_own (u := valueB) (f := vlF) HX.out ht).trans (if_neg (by rw [hv]; decide)))
        have HN1 := Lib.hid ((sK_own (u := allU) (f := kdF) HX.out ht).trans (if_pos rfl))
        clear hr ht2 hv ht HO HX
        go_wp2_with (at_builtin; refine append_four w3 (kdF x) rfl (.tmp 48) (.tmp 52) 46 rfl wK.heap.size _ _ Tryz.underlying46 Tryz.infoU64 rfl HQa.out rfl rfl (by unfold maxLen; omega) (by omega) hz3 ?_)
        intro v1' w5 hq5 hb5 hk5
        rw [← HN1.out] at hq5
        have HQ5 := Lib.hid hq5
        have LE5 := Lib.hid (hk5 _ _ _ LE.out (by decide))
        have HB5 := Lib.hid (HBa.out.trans hb5)
        clear hq5 hb5 hk5 LE HBa HQa HN1 d0 d1 d2 d3 d4 el hz3
        have d0 := (LE5.out.cell 0).trans (show _ = some (Value.int .i64 x.th) from rfl)
        have d1 := (LE5.out.cell 1).trans (show _ = some (Value.int .i64 x.kd) from rfl)
        have d2 := (LE5.out.cell 2).trans (show _ = some (Value.int .i64 x.rg) from rfl)
        have d3 := (LE5.out.cell 3).trans (show _ = some (Value.int .u64 (x.tk : Int)) from rfl)
        have d4 := (LE5.out.cell 4).trans (show _ = some (Value.int .u64 (x.vl : Int)) from rfl)
        have el := LE5.out.lt
        go_wp2_with fail
        refine (HNR.out w5).mono ?_
        rintro e w6 ⟨rfl, hb6⟩
        have HQ6 := Lib.hid (HQ5.out.below hb6)
        have LE6 := Lib.hid (LE5.out.below hb6 LE5.out.lt)
        have HB6 := Lib.hid (HB5.out.trans (hb6.mono HB5.out.size))
        clear hb6 HQ5 LE5 HB5 HNR d0 d1 d2 d3 d4 el
        have d2 := (LE6.out.cell 2).trans (show _ = some (Value.int .i64 x.rg) from rfl)
        have el := LE6.out.lt
        have hz6 := HB6.out.size
        go_wp2_with (at_builtin; refine append_four w6 (rgF x) rfl (.tmp 56) (.tmp 60) 46 rfl wK.heap.size _ _ Tryz.underlying46 Tryz.infoU64 rfl HQ6.out.turn rfl rfl (by unfold maxLen; omega) (by omega) hz6 ?_)
        intro v2' w7 hq7 hb7 hk7
        rw [← HN2.out] at hq7
        have HQ7 := Lib.hid hq7.turn.turn.turn
        have LE7 := Lib.hid (hk7 _ _ _ LE6.out (by decide))
        have HB7 := Lib.hid (HB6.out.trans hb7)
        clear hq7 hb7 hk7 LE6 HB6 HQ6 HN2 d2 el hz6
        have d0 := (LE7.out.cell 0).trans (show _ = some (Value.int .i64 x.th) from rfl)
        have d1 := (LE7.out.cell 1).trans (show _ = some (Value.int .i64 x.kd) from rfl)
        have d2 := (LE7.out.cell 2).trans (show _ = some (Value.int .i64 x.rg) from rfl)
        have d3 := (LE7.out.cell 3).trans (show _ = some (Value.int .u64 (x.tk : Int)) from rfl)
        have d4 := (LE7.out.cell 4).trans (show _ = some (Value.int .u64 (x.vl : Int)) from rfl)
        have el := LE7.out.lt
        go_wp2_with fail
        refine (HNT.out w7).mono ?_
        rintro e w8 ⟨rfl, hb8⟩
        have HQ8 := Lib.hid (HQ7.out.below hb8)
        have LE8 := Lib.hid (LE7.out.below hb8 LE7.out.lt)
        have HB8 := Lib.hid (HB7.out.trans (hb8.mono HB7.out.size))
        clear hb8 HQ7 LE7 HB7 HNT d0 d1 d2 d3 d4 el
        replace HQ8 := Lib.hid (by have h := HQ8.out; rw [← HN3.out] at h; exact h)
        clear HN3
        have d0 := (LE8.out.cell 0).trans (show _ = some (Value.int .i64 x.th) from rfl)
        have d1 := (LE8.out.cell 1).trans (show _ = some (Value.int .i64 x.kd) from rfl)
        have d2 := (LE8.out.cell 2).trans (show _ = some (Value.int .i64 x.rg) from rfl)
        have d3 := (LE8.out.cell 3).trans (show _ = some (Value.int .u64 (x.tk : Int)) from rfl)
        have d4 := (LE8.out.cell 4).trans (show _ = some (Value.int .u64 (x.vl : Int)) from rfl)
        have el := LE8.out.lt
        go_wp2_with fail
        refine (HNV.out w8).mono ?_
        rintro e w9 ⟨rfl, hb9⟩
        have HQ9 := Lib.hid (HQ8.out.below hb9)
        have LE9 := Lib.hid (LE8.out.below hb9 LE8.out.lt)
        have HB9 := Lib.hid (HB8.out.trans (hb9.mono HB8.out.size))
        clear hb9 HQ8 LE8 HB8 HNV d0 d1 d2 d3 d4 el
        replace HQ9 := Lib.hid (by have h := HQ9.out; rw [← HN4.out] at h; exact h)
        clear HN4
        go_wp2
        go_roundw
        case rel => exact ⟨i + 1, by omega, by go_num, HQ9.out, HB9.out⟩
        case measure => simp [intOf]; omega
       ·have HNR := Lib.hid (fun w => (by have h := namesR x w; rw [hr] at h; exact h : Calls Tryz.prog 24 #[.agg (evC x), .int .u8 82] w fun e w' => e = .returned (.bool false) ∧ Below w.heap.size w w'))
        have HNT := Lib.hid (fun w => (by have h := namesT x w; rw [ht2] at h; exact h : Calls Tryz.prog 24 #[.agg (evC x), .int .u8 84] w fun e w' => e = .returned (.bool false) ∧ Below w.heap.size w w'))
        have HNV := Lib.hid (fun w => (by have h := namesV x w; rw [hv] at h; exact h : Calls Tryz.prog 24 #[.agg (evC x), .int .u8 86] w fun e w' => e = .returned (.bool true) ∧ Below w.heap.size w w'))
        have HN2 := Lib.hid ((sK_own (u := ringB) (f := rgF) HX.out ht).trans (if_neg (by rw [hr]; decide)))
        have HN3 := Lib.hid ((sK_own (u := ticketB) (f := tkF) HX.out ht).trans (if_neg (by rw [ht2]; decide)))
        have HN4 := Lib.hid ((sK_own (u := valueB) (f := vlF) HX.out ht).trans (if_pos hv))
        have HN1 := Lib.hid ((sK_own (u := allU) (f := kdF) HX.out ht).trans (if_pos rfl))
        clear hr ht2 hv ht HO HX
        go_wp2_with (at_builtin; refine append_four w3 (kdF x) rfl (.tmp 48) (.tmp 52) 46 rfl wK.heap.size _ _ Tryz.underlying46 Tryz.infoU64 rfl HQa.out rfl rfl (by unfold maxLen; omega) (by omega) hz3 ?_)
        intro v1' w5 hq5 hb5 hk5
        rw [← HN1.out] at hq5
        have HQ5 := Lib.hid hq5
        have LE5 := Lib.hid (hk5 _ _ _ LE.out (by decide))
        have HB5 := Lib.hid (HBa.out.trans hb5)
        clear hq5 hb5 hk5 LE HBa HQa HN1 d0 d1 d2 d3 d4 el hz3
        have d0 := (LE5.out.cell 0).trans (show _ = some (Value.int .i64 x.th) from rfl)
        have d1 := (LE5.out.cell 1).trans (show _ = some (Value.int .i64 x.kd) from rfl)
        have d2 := (LE5.out.cell 2).trans (show _ = some (Value.int .i64 x.rg) from rfl)
        have d3 := (LE5.out.cell 3).trans (show _ = some (Value.int .u64 (x.tk : Int)) from rfl)
        have d4 := (LE5.out.cell 4).trans (show _ = some (Value.int .u64 (x.vl : Int)) from rfl)
        have el := LE5.out.lt
        go_wp2_with fail
        refine (HNR.out w5).mono ?_
        rintro e w6 ⟨rfl, hb6⟩
        have HQ6 := Lib.hid (HQ5.out.below hb6)
        have LE6 := Lib.hid (LE5.out.below hb6 LE5.out.lt)
        have HB6 := Lib.hid (HB5.out.trans (hb6.mono HB5.out.size))
        clear hb6 HQ5 LE5 HB5 HNR d0 d1 d2 d3 d4 el
        replace HQ6 := Lib.hid (by have h := HQ6.out; rw [← HN2.out] at h; exact h)
        clear HN2
        have d0 := (LE6.out.cell 0).trans (show _ = some (Value.int .i64 x.th) from rfl)
        have d1 := (LE6.out.cell 1).trans (show _ = some (Value.int .i64 x.kd) from rfl)
        have d2 := (LE6.out.cell 2).trans (show _ = some (Value.int .i64 x.rg) from rfl)
        have d3 := (LE6.out.cell 3).trans (show _ = some (Value.int .u64 (x.tk : Int)) from rfl)
        have d4 := (LE6.out.cell 4).trans (show _ = some (Value.int .u64 (x.vl : Int)) from rfl)
        have el := LE6.out.lt
        go_wp2_with fail
        refine (HNT.out w6).mono ?_
        rintro e w7 ⟨rfl, hb7⟩
        have HQ7 := Lib.hid (HQ6.out.below hb7)
        have LE7 := Lib.hid (LE6.out.below hb7 LE6.out.lt)
        have HB7 := Lib.hid (HB6.out.trans (hb7.mono HB6.out.size))
        clear hb7 HQ6 LE6 HB6 HNT d0 d1 d2 d3 d4 el
        replace HQ7 := Lib.hid (by have h := HQ7.out; rw [← HN3.out] at h; exact h)
        clear HN3
        have d0 := (LE7.out.cell 0).trans (show _ = some (Value.int .i64 x.th) from rfl)
        have d1 := (LE7.out.cell 1).trans (show _ = some (Value.int .i64 x.kd) from rfl)
        have d2 := (LE7.out.cell 2).trans (show _ = some (Value.int .i64 x.rg) from rfl)
        have d3 := (LE7.out.cell 3).trans (show _ = some (Value.int .u64 (x.tk : Int)) from rfl)
        have d4 := (LE7.out.cell 4).trans (show _ = some (Value.int .u64 (x.vl : Int)) from rfl)
        have el := LE7.out.lt
        go_wp2_with fail
        refine (HNV.out w7).mono ?_
        rintro e w8 ⟨rfl, hb8⟩
        have HQ8 := Lib.hid (HQ7.out.below hb8)
        have LE8 := Lib.hid (LE7.out.below hb8 LE7.out.lt)
        have HB8 := Lib.hid (HB7.out.trans (hb8.mono HB7.out.size))
        clear hb8 HQ7 LE7 HB7 HNV d0 d1 d2 d3 d4 el
        have d4 := (LE8.out.cell 4).trans (show _ = some (Value.int .u64 (x.vl : Int)) from rfl)
        have el := LE8.out.lt
        have hz8 := HB8.out.size
        go_wp2_with (at_builtin; refine append_four w8 x.vl rfl (.tmp 71) (.tmp 74) 46 rfl wK.heap.size _ _ Tryz.underlying46 Tryz.infoU64 rfl HQ8.out.turn.turn.turn rfl rfl (by unfold maxLen; omega) (by omega) hz8 ?_)
        intro v4' w9 hq9 hb9 hk9
        rw [show x.vl = vlF x from rfl, ← HN4.out] at hq9
        have HQ9 := Lib.hid hq9.turn
        have LE9 := Lib.hid (hk9 _ _ _ LE8.out (by decide))
        have HB9 := Lib.hid (HB8.out.trans hb9)
        clear hq9 hb9 hk9 LE8 HB8 HQ8 HN4 d4 el hz8
        go_wp2
        go_roundw
        case rel => exact ⟨i + 1, by omega, by go_num, HQ9.out, HB9.out⟩
        case measure => simp [intOf]; omega
       ·have HNR := Lib.hid (fun w => (by have h := namesR x w; rw [hr] at h; exact h : Calls Tryz.prog 24 #[.agg (evC x), .int .u8 82] w fun e w' => e = .returned (.bool false) ∧ Below w.heap.size w w'))
        have HNT := Lib.hid (fun w => (by have h := namesT x w; rw [ht2] at h; exact h : Calls Tryz.prog 24 #[.agg (evC x), .int .u8 84] w fun e w' => e = .returned (.bool false) ∧ Below w.heap.size w w'))
        have HNV := Lib.hid (fun w => (by have h := namesV x w; rw [hv] at h; exact h : Calls Tryz.prog 24 #[.agg (evC x), .int .u8 86] w fun e w' => e = .returned (.bool false) ∧ Below w.heap.size w w'))
        have HN2 := Lib.hid ((sK_own (u := ringB) (f := rgF) HX.out ht).trans (if_neg (by rw [hr]; decide)))
        have HN3 := Lib.hid ((sK_own (u := ticketB) (f := tkF) HX.out ht).trans (if_neg (by rw [ht2]; decide)))
        have HN4 := Lib.hid ((sK_own (u := valueB) (f := vlF) HX.out ht).trans (if_neg (by rw [hv]; decide)))
        have HN1 := Lib.hid ((sK_own (u := allU) (f := kdF) HX.out ht).trans (if_pos rfl))
        clear hr ht2 hv ht HO HX
        go_wp2_with (at_builtin; refine append_four w3 (kdF x) rfl (.tmp 48) (.tmp 52) 46 rfl wK.heap.size _ _ Tryz.underlying46 Tryz.infoU64 rfl HQa.out rfl rfl (by unfold maxLen; omega) (by omega) hz3 ?_)
        intro v1' w5 hq5 hb5 hk5
        rw [← HN1.out] at hq5
        have HQ5 := Lib.hid hq5
        have LE5 := Lib.hid (hk5 _ _ _ LE.out (by decide))
        have HB5 := Lib.hid (HBa.out.trans hb5)
        clear hq5 hb5 hk5 LE HBa HQa HN1 d0 d1 d2 d3 d4 el hz3
        have d0 := (LE5.out.cell 0).trans (show _ = some (Value.int .i64 x.th) from rfl)
        have d1 := (LE5.out.cell 1).trans (show _ = some (Value.int .i64 x.kd) from rfl)
        have d2 := (LE5.out.cell 2).trans (show _ = some (Value.int .i64 x.rg) from rfl)
        have d3 := (LE5.out.cell 3).trans (show _ = some (Value.int .u64 (x.tk : Int)) from rfl)
        have d4 := (LE5.out.cell 4).trans (show _ = some (Value.int .u64 (x.vl : Int)) from rfl)
        have el := LE5.out.lt
        go_wp2_with fail
        refine (HNR.out w5).mono ?_
        rintro e w6 ⟨rfl, hb6⟩
        have HQ6 := Lib.hid (HQ5.out.below hb6)
        have LE6 := Lib.hid (LE5.out.below hb6 LE5.out.lt)
        have HB6 := Lib.hid (HB5.out.trans (hb6.mono HB5.out.size))
        clear hb6 HQ5 LE5 HB5 HNR d0 d1 d2 d3 d4 el
        replace HQ6 := Lib.hid (by have h := HQ6.out; rw [← HN2.out] at h; exact h)
        clear HN2
        have d0 := (LE6.out.cell 0).trans (show _ = some (Value.int .i64 x.th) from rfl)
        have d1 := (LE6.out.cell 1).trans (show _ = some (Value.int .i64 x.kd) from rfl)
        have d2 := (LE6.out.cell 2).trans (show _ = some (Value.int .i64 x.rg) from rfl)
        have d3 := (LE6.out.cell 3).trans (show _ = some (Value.int .u64 (x.tk : Int)) from rfl)
        have d4 := (LE6.out.cell 4).trans (show _ = some (Value.int .u64 (x.vl : Int)) from rfl)
        have el := LE6.out.lt
        go_wp2_with fail
        refine (HNT.out w6).mono ?_
        rintro e w7 ⟨rfl, hb7⟩
        have HQ7 := Lib.hid (HQ6.out.below hb7)
        have LE7 := Lib.hid (LE6.out.below hb7 LE6.out.lt)
        have HB7 := Lib.hid (HB6.out.trans (hb7.mono HB6.out.size))
        clear hb7 HQ6 LE6 HB6 HNT d0 d1 d2 d3 d4 el
        replace HQ7 := Lib.hid (by have h := HQ7.out; rw [← HN3.out] at h; exact h)
        clear HN3
        have d0 := (LE7.out.cell 0).trans (show _ = some (Value.int .i64 x.th) from rfl)
        have d1 := (LE7.out.cell 1).trans (show _ = some (Value.int .i64 x.kd) from rfl)
        have d2 := (LE7.out.cell 2).trans (show _ = some (Value.int .i64 x.rg) from rfl)
        have d3 := (LE7.out.cell 3).trans (show _ = some (Value.int .u64 (x.tk : Int)) from rfl)
        have d4 := (LE7.out.cell 4).trans (show _ = some (Value.int .u64 (x.vl : Int)) from rfl)
        have el := LE7.out.lt
        go_wp2_with fail
        refine (HNV.out w7).mono ?_
        rintro e w8 ⟨rfl, hb8⟩
        have HQ8 := Lib.hid (HQ7.out.below hb8)
        have LE8 := Lib.hid (LE7.out.below hb8 LE7.out.lt)
        have HB8 := Lib.hid (HB7.out.trans (hb8.mono HB7.out.size))
        clear hb8 HQ7 LE7 HB7 HNV d0 d1 d2 d3 d4 el
        replace HQ8 := Lib.hid (by have h := HQ8.out; rw [← HN4.out] at h; exact h)
        clear HN4
        go_wp2
        go_roundw
        case rel => exact ⟨i + 1, by omega, by go_num, HQ8.out, HB8.out⟩
        case measure => simp [intOf]; omega
      ·obtain rfl : l.length = i := by omega
       obtain ⟨⟨hq1, hq2, hq3, hq4⟩, _⟩ := hq.out
       obtain ⟨K1, hK1⟩ : ∃ K, K = sK allU kdF l (k : Int) l.length := ⟨_, rfl⟩
       obtain ⟨K2, hK2⟩ : ∃ K, K = sK ringB rgF l (k : Int) l.length := ⟨_, rfl⟩
       obtain ⟨K3, hK3⟩ : ∃ K, K = sK ticketB tkF l (k : Int) l.length := ⟨_, rfl⟩
       obtain ⟨K4, hK4⟩ : ∃ K, K = sK valueB vlF l (k : Int) l.length := ⟨_, rfl⟩
       have hl1 := sK_le allU kdF l (k : Int) l.length
       have hl2 := sK_le ringB rgF l (k : Int) l.length
       have hl3 := sK_le ticketB tkF l (k : Int) l.length
       have hl4 := sK_le valueB vlF l (k : Int) l.length
       have hm1 := sK_lt (u := allU) (k : Int) l.length HLT.out.2.1
       have hm2 := sK_lt (u := ringB) (k : Int) l.length HLT.out.2.2.1
       have hm3 := sK_lt (u := ticketB) (k : Int) l.length HLT.out.2.2.2.1
       have hm4 := sK_lt (u := valueB) (k : Int) l.length HLT.out.2.2.2.2
       have hT : strT l k = if K1.length = 0 then [] else printR K1 ++ (printR K2 ++ (encList (deltas 0 K3) ++ encList (deltas 0 K4))) := by
        rw [hK1, hK2, hK3, hK4]
        unfold sK
        rw [List.take_length]
        have h9 : (selN allU kdF (ownE l (k : Int))).length = (ownE l (k : Int)).length := by
         unfold selN
         rw [List.length_map, show (ownE l (k : Int)).filter (fun x => allU x.kd) = ownE l (k : Int) from List.filter_eq_self.2 (fun _ _ => rfl)]
        rw [h9]; rfl
       rw [← hK1] at hq1 hl1 hm1
       rw [← hK2] at hq2 hl2 hm2
       rw [← hK3] at hq3 hl3 hm3
       rw [← hK4] at hq4 hl4 hm4
       obtain ⟨A1, c1, rfl, a1, b1⟩ := row_len hq1
       obtain ⟨A2, c2, rfl, a2, b2⟩ := row_len hq2
       obtain ⟨A3, c3, rfl, a3, b3⟩ := row_len hq3
       obtain ⟨A4, c4, rfl, a4, b4⟩ := row_len hq4
       have H1 := Lib.hid hq1
       have H2 := Lib.hid hq2
       have H3 := Lib.hid hq3
       have H4 := Lib.hid hq4
       have M1 := Lib.hid hm1
       have M2 := Lib.hid hm2
       have M3 := Lib.hid hm3
       have M4 := Lib.hid hm4
       have HT := Lib.hid hT
       clear hq hq1 hq2 hq3 hq4 hm1 hm2 hm3 hm4 hT hK1 hK2 hK3 hK4 hbk
       have hwz : w.heap.size ≤ wr.heap.size := HBw.out.size
       by_cases h0 : K1.length = 0
       ·have HS2 : Hid (S = textB (strK l (k + 1))) := by
         show _ = textB (strK l k ++ strT l k)
         rw [HT.out, if_pos h0, List.append_nil]; exact HS.out
        have x1 : decide ((0 : Int) < (K1.length : Int)) = false := decide_eq_false (by omega)
        have x2 : decide (0 < K1.length) = false := decide_eq_false (by omega)
        clear HT h0
        go_wp2
        go_roundw
        case rel => exact ⟨k + 1, by omega, by go_num, by rw [HS2.out], HBw⟩
        case measure => simp [intOf]; omega
       have HS2 : Hid (textB (strK l (k + 1)) = textB (strK l k ++ (((printR K1 ++ printR K2) ++ encList (deltas 0 K3)) ++ encList (deltas 0 K4)))) := by
        show textB (strK l k ++ strT l k) = _
        rw [HT.out, if_neg h0]; simp only [List.append_assoc]
       have x1 : decide ((0 : Int) < (K1.length : Int)) = true := decide_eq_true (by omega)
       have x2 : decide (0 < K1.length) = true := decide_eq_true (by omega)
       clear HT h0
       have y1 := printR_le21 K1
       have y2 := printR_le21 K2
       have y3 := encList_le (deltas 0 K3)
       have y4 := encList_le (deltas 0 K4)
       rw [deltas_length] at y3 y4
       have HP1 := Lib.hid (fun v w h => refPrint4 v K1 w h (by omega) M1.out)
       have HP2 := Lib.hid (fun v w h => refPrint4 v K2 w h (by omega) M2.out)
       have HP3 := Lib.hid (fun v w h => refDPrint v K3 w h M3.out (by omega))
       have HP4 := Lib.hid (fun v w h => refDPrint v K4 w h M4.out (by omega))
       have hJ : S ++ (textB (printR K1) ++ textB (printR K2) ++ textB (encList (deltas 0 K3)) ++ textB (encList (deltas 0 K4))) = textB (strK l (k + 1)) := by rw [HS.out, text_append, text_append, text_append, text_append, HS2.out]
       have s1 : (textB (printR K1)).size ≤ 3000000 := by rw [textB_size]; omega
       have s2 : (textB (printR K2)).size ≤ 3000000 := by rw [textB_size]; omega
       have s3 : (textB (encList (deltas 0 K3))).size ≤ 3000000 := by rw [textB_size]; omega
       have s4 : (textB (encList (deltas 0 K4))).size ≤ 3000000 := by rw [textB_size]; omega
       generalize textB (printR K1) = T1 at *
       generalize textB (printR K2) = T2 at *
       generalize textB (encList (deltas 0 K3)) = T3 at *
       generalize textB (encList (deltas 0 K4)) = T4 at *
       have HJ := Lib.hid hJ
       have z1 : ¬ 9223372036854775807 < T1.size + T2.size := by omega
       have z2 : ¬ 9223372036854775807 < T1.size + T2.size + T3.size := by omega
       have z3 : ¬ 9223372036854775807 < T1.size + T2.size + T3.size + T4.size := by omega
       have z4 : ¬ 9223372036854775807 < S.size + (T1.size + T2.size + T3.size + T4.size) := by omega
       clear y1 y2 y3 y4 M1 M2 M3 M4 HS HS2 hJ
       go_wp2_with fail
       refine (HP1.out _ wr (row_at H1.out)).mono ?_
       rintro e w5 ⟨rfl, hb5⟩
       have HB5 := Lib.hid (HBw.out.trans (hb5.mono hwz))
       replace H2 := Lib.hid (H2.out.below hb5)
       replace H3 := Lib.hid (H3.out.below hb5)
       replace H4 := Lib.hid (H4.out.below hb5)
       clear hb5 H1 HBw HP1
       go_wp2_with fail
       refine (HP2.out _ w5 (row_at H2.out)).mono ?_
       rintro e w6 ⟨rfl, hb6⟩
       have HB6 := Lib.hid (HB5.out.trans (hb6.mono HB5.out.size))
       replace H3 := Lib.hid (H3.out.below hb6)
       replace H4 := Lib.hid (H4.out.below hb6)
       clear hb6 H2 HB5 HP2
       go_wp2_with fail
       refine (HP3.out _ w6 (row_at H3.out)).mono ?_
       rintro e w7 ⟨rfl, hb7⟩
       have HB7 := Lib.hid (HB6.out.trans (hb7.mono HB6.out.size))
       replace H4 := Lib.hid (H4.out.below hb7)
       clear hb7 H3 HB6 HP3
       go_wp2_with fail
       refine (HP4.out _ w7 (row_at H4.out)).mono ?_
       rintro e w8 ⟨rfl, hb8⟩
       have HB8 := Lib.hid (HB7.out.trans (hb8.mono HB7.out.size))
       clear hb8 H4 HB7 HP4
       go_wp2
       go_roundw
       case rel => exact ⟨k + 1, by omega, by go_num, by rw [HJ.out], HB8⟩
       case measure => simp [intOf]; omega
    ·obtain rfl : k = 8 := by omega
     have HE := Lib.hid (show textB (strK l 8) = textB (strS l) from rfl)
     clear hle
     go_wp2
     go_ret
     exact ⟨by rw [HE.out]; rfl, hb.out⟩
set_option maxHeartbeats 2000000 in
theorem refPrint21 (l : List Ev) (A : Option Addr) (c : Nat) (w : World) (h : EvsAt w A c l) (hR : ∀ x ∈ l, rightE x = true) (hok : ∀ x ∈ l, evOk x) (hl : l.length ≤ 65536) :
  Calls Tryz.prog 11 #[.slice A l.length c] w fun e w' => e = .returned (.string (textB (pkT (strS l)))) ∧ Below w.heap.size w w' := by
 have HS := Lib.hid (refStreams21 l A c w h hR hok hl)
 have hle := strK_le l 8
 have HP := Lib.hid (fun w => refHuffPack (textB (strS l)) w (by rw [textB_size]; unfold strS; omega))
 rw [show (textB (strS l)).data.toList = strS l from rfl] at HP
 clear hle h hR hok
 generalize textB (strS l) = X at *
 go_enter Tryz.func11, Tryz.ntmps11
 go_wp2_with fail
 refine HS.out.mono ?_
 rintro e w1 ⟨rfl, hb1⟩
 go_wp2_with fail
 refine (HP.out w1).mono ?_
 rintro e w2 ⟨rfl, hb2⟩
 have HB := Lib.hid (then_ hb1 hb2)
 clear hb1 hb2
 go_wp2
 go_ret
 exact ⟨rfl, HB.out⟩
theorem un_size (s : ByteArray) : (textB (unT s 4194304)).size ≤ 1099511627776 := by
 rw [textB_size]
 by_cases h : unE s 4194304 = 0
 ·have := (unE_same h).2; omega
 ·unfold unT; rw [if_neg h]; decide
theorem rdC_range {s : ByteArray} {m : Int} {l : List Ev} (h : rdC s m = (0, l)) : 0 ≤ m ∧ m ≤ 65536 := by
 unfold rdC at h
 by_cases c : m < 0 ∨ 65536 < m
 ·rw [if_pos c] at h; simp at h
 ·omega
set_option maxHeartbeats 8000000 in
set_option maxRecDepth 100000 in
theorem reads_walk (s : ByteArray) (m : Int) (W : World) (hs : s.size ≤ maxLen) (wm : (Lit.int .i64 m).wf = true) :
  Calls Tryz.prog 4 #[.string s, .int .i64 m] W fun e w' => e = .returned (.bool true) ∧ Below W.heap.size W w' := by
 have hm := bounds_i64 wm
 unfold maxLen at hs
 clear wm
 have HB := Lib.hid (Below.refl W.heap.size W)
 by_cases hl : 1500 < s.size
 ·have e1 : decide (1500 < s.size) = true := decide_eq_true hl
  have e2 : decide ((1500 : Int) < (s.size : Int)) = true := decide_eq_true (by omega)
  go_enter Tryz.func4, Tryz.ntmps4
  go_wp2_with fail
  refine (awake21 W).mono ?_
  rintro e w1 ⟨rfl, hb1⟩
  replace HB := Lib.hid (HB.out.trans (hb1.mono HB.out.size))
  clear hb1
  go_wp2_with fail
  refine (awake21 w1).mono ?_
  rintro e w2 ⟨rfl, hb2⟩
  replace HB := Lib.hid (HB.out.trans (hb2.mono HB.out.size))
  clear hb2
  go_wp2
  go_ret
  exact ⟨rfl, HB.out⟩
 have e1 : decide (1500 < s.size) = false := decide_eq_false hl
 have e2 : decide ((1500 : Int) < (s.size : Int)) = false := decide_eq_false (by omega)
 have HRD := Lib.hid (fun w => chunkRead s m w (by omega) hm.1 (un_size s))
 obtain ⟨c, l, hcl⟩ : ∃ c l, rdC s m = (c, l) := ⟨_, _, rfl⟩
 rw [hcl] at HRD
 simp only at HRD
 by_cases hc : c = 0
 ·subst hc
  obtain ⟨ht, hch, hle, hok⟩ := rdC_text hcl
  obtain ⟨r1, r2⟩ := rdC_range hcl
  have HRC := Lib.hid (fun A c w h => rfCheck15 l A c w h)
  have HPR := Lib.hid (fun A c w h => chunkPrint l A c w h hok)
  have HRP := Lib.hid (fun A c w h => (by have := refPrint21 l A c w h (chE_zero hch).2 hok (chE_zero hch).1; rw [← prV_ok hch, ht] at this; exact this : Calls Tryz.prog 11 #[.slice A l.length c] w fun e w' => e = .returned (.string s) ∧ Below w.heap.size w w'))
  obtain ⟨p, k, hpk⟩ : ∃ p k, chE l = (p, k) := ⟨_, _, rfl⟩
  have hk0 : k = 0 := by rw [hpk] at hch; exact hch
  subst hk0
  rw [hpk] at HRC HPR
  rw [ht] at HPR
  simp only at HRC HPR
  clear hcl hch hpk hok ht
  obtain ⟨M, rfl⟩ : ∃ M : Nat, m = (M : Int) := ⟨m.toNat, by omega⟩
  have hM : l.length ≤ M := by omega
  have y1 : decide ((M : Int) < 0) = false := decide_eq_false (by omega)
  have y2 : decide ((65536 : Int) < (M : Int)) = false := decide_eq_false (by omega)
  have y3 : decide (65536 < M) = false := decide_eq_false (by omega)
  have y4 : decide ((l.length : Int) ≤ (M : Int)) = true := decide_eq_true (by omega)
  have y5 : decide (l.length ≤ M) = true := decide_eq_true hM
  go_enter Tryz.func4, Tryz.ntmps4
  go_wp2_with fail
  refine (awake21 W).mono ?_
  rintro e w1 ⟨rfl, hb1⟩
  replace HB := Lib.hid (HB.out.trans (hb1.mono HB.out.size))
  clear hb1
  go_wp2_with fail
  refine (HRD.out w1).mono ?_
  rintro e w2 ⟨v2, rfl, ho2, hb2⟩
  replace HB := Lib.hid (HB.out.trans (hb2.mono HB.out.size))
  have HO := Lib.hid ho2
  obtain ⟨A, c, rfl⟩ := own_sl21 ho2
  obtain ⟨q1, q2⟩ : l.length ≤ c ∧ c ≤ 9223372036854775807 := by
   obtain ⟨A9, c9, e9, h91, h92, _⟩ := (SeqS.of_owns ho2).form
   simp only [Value.slice.injEq, true_and] at e9
   obtain ⟨rfl, rfl⟩ := e9
   unfold maxLen at h92
   omega
  clear hb2 ho2 HRD
  go_wp2_with fail
  refine (HPR.out _ _ _ (SeqS.of_owns HO.out)).mono ?_
  rintro e w3 ⟨rfl, hb3⟩
  replace HB := Lib.hid (HB.out.trans (hb3.mono HB.out.size))
  have HO3 := Lib.hid (owned_below HO.out hb3)
  clear hb3 HO HPR
  go_wp2_with fail
  refine (HRC.out _ _ _ (SeqS.of_owns HO3.out)).mono ?_
  rintro e w4 ⟨rfl, hb4⟩
  replace HB := Lib.hid (HB.out.trans (hb4.mono HB.out.size))
  have HO4 := Lib.hid (owned_below HO3.out hb4)
  clear hb4 HO3 HRC
  by_cases h12 : 120 < l.length
  ·have z1 : decide (120 < l.length) = true := decide_eq_true h12
   have z2 : decide ((120 : Int) < (l.length : Int)) = true := decide_eq_true (by omega)
   clear h12 HO4 HRP
   go_wp2
   go_ret
   exact ⟨ret_bool (by simp), HB.out⟩
  ·have z1 : decide (120 < l.length) = false := decide_eq_false h12
   have z2 : decide ((120 : Int) < (l.length : Int)) = false := decide_eq_false (by omega)
   clear h12
   go_wp2_with fail
   refine (HRP.out _ _ _ (SeqS.of_owns HO4.out)).mono ?_
   rintro e w5 ⟨rfl, hb5⟩
   replace HB := Lib.hid (HB.out.trans (hb5.mono HB.out.size))
   clear hb5 HO4 HRP
   go_wp2
   go_ret
   exact ⟨ret_bool (by simp), HB.out⟩
 ·have hbad := rdC_bad (s := s) (most := m) (by rw [hcl]; exact hc)
  rw [hcl] at hbad
  obtain ⟨hc2, rfl⟩ := Prod.mk.inj hbad
  clear hbad hcl hc
  by_cases hr : m < 0 ∨ 65536 < m
  ·rw [if_pos hr] at hc2
   subst hc2
   rcases hr with hr | hr
   ·have y1 : decide (m < 0) = true := decide_eq_true hr
    go_enter Tryz.func4, Tryz.ntmps4
    go_wp2_with fail
    refine (awake21 W).mono ?_
    rintro e w1 ⟨rfl, hb1⟩
    replace HB := Lib.hid (HB.out.trans (hb1.mono HB.out.size))
    clear hb1
    go_wp2_with fail
    refine (HRD.out w1).mono ?_
    rintro e w2 ⟨v2, rfl, ho2, hb2⟩
    replace HB := Lib.hid (HB.out.trans (hb2.mono HB.out.size))
    obtain ⟨A, c, rfl⟩ := own_sl21 ho2
    clear hb2 ho2 HRD
    go_wp2
    go_ret
    exact ⟨rfl, HB.out⟩
   ·have y1 : decide (m < 0) = false := decide_eq_false (by omega)
    have y2 : decide ((65536 : Int) < m) = true := decide_eq_true hr
    go_enter Tryz.func4, Tryz.ntmps4
    go_wp2_with fail
    refine (awake21 W).mono ?_
    rintro e w1 ⟨rfl, hb1⟩
    replace HB := Lib.hid (HB.out.trans (hb1.mono HB.out.size))
    clear hb1
    go_wp2_with fail
    refine (HRD.out w1).mono ?_
    rintro e w2 ⟨v2, rfl, ho2, hb2⟩
    replace HB := Lib.hid (HB.out.trans (hb2.mono HB.out.size))
    obtain ⟨A, c, rfl⟩ := own_sl21 ho2
    clear hb2 ho2 HRD
    go_wp2
    go_ret
    exact ⟨rfl, HB.out⟩
  ·rw [if_neg hr] at hc2
   subst hc2
   have y1 : decide (m < 0) = false := decide_eq_false (by omega)
   have y2 : decide ((65536 : Int) < m) = false := decide_eq_false (by omega)
   go_enter Tryz.func4, Tryz.ntmps4
   go_wp2_with fail
   refine (awake21 W).mono ?_
   rintro e w1 ⟨rfl, hb1⟩
   replace HB := Lib.hid (HB.out.trans (hb1.mono HB.out.size))
   clear hb1
   go_wp2_with fail
   refine (HRD.out w1).mono ?_
   rintro e w2 ⟨v2, rfl, ho2, hb2⟩
   replace HB := Lib.hid (HB.out.trans (hb2.mono HB.out.size))
   obtain ⟨A, c, rfl⟩ := own_sl21 ho2
   clear hb2 ho2 HRD
   go_wp2
   go_ret
   exact ⟨rfl, HB.out⟩
end Go.Proofs.YtmadgdmiipgjoaaGreat
