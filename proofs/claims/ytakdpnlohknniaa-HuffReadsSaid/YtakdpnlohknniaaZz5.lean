import Derived.Test.YtakdpnlohknniaaZz4
namespace Go.Proofs.Ytakdpnlohknniaa
open Go.RowKit
set_option linter.unusedVariables false
set_option linter.unusedSimpArgs false
set_option maxHeartbeats 1000000 in
set_option maxRecDepth 100000 in
theorem refWhole (ls : List Nat) (w : World) (h : LOk ls) :
  Calls Try.prog 15 #[.agg (c8 ls).toArray] w fun e w' => e = .returned (.bool (wholeB ls)) ∧ Below w.heap.size w w' := by
 have hlen : (c8 ls).length = 256 := by rw [c8_length]; exact h.1
 obtain ⟨L, hL⟩ : ∃ L, L = c8 ls := ⟨_, rfl⟩
 rw [← hL] at hlen ⊢
 have HLq := Lib.hid hL
 have hi1 : (Try.prog.info? 27).map (·.size) = some L.length := by rw [hlen]; exact info8
 have H := Lib.hid h
 have HI1 := Lib.hid hi1
 clear h hL hi1
 have hb := Lib.hid ((Below.refl w.heap.size w).alloc (Nat.le_refl _) (.cells L.toArray 27))
 have LA := Lib.hid (Lies.made w 27 L.toArray)
 go_enter Try.func15, Try.ntmps15
 go_wp2_with fail
 generalize w.alloc (.cells L.toArray 27) = w1 at *
 go_loopw [3, 4, 5, 6] (fun sh co on c wr => ∃ i : Nat, i ≤ 256 ∧ c = .int .i64 i ∧ co = .int .i64 (cod ls i : Nat) ∧ on = .int .i64 (ct ls 1 i : Nat) ∧ sh = .int .u64 (shr ls i : Nat) ∧ wr = w1)
  (fun _ _ _ c _ => 256 - (intOf c).toNat)
 case atStart => exact ⟨0, by omega, rfl, rfl, rfl, rfl, rfl⟩
 case round =>
  obtain ⟨i, hi, rfl, rfl, rfl, rfl, rfl⟩ := hrel
  have hc0 := ct_le_b ls 0 i
  have hc1 := ct_le_b ls 1 i
  have hsl := shr_le ls i
  by_cases hlt : i < 256
  ·have hii : (i : Int) < 256 := by omega
   obtain ⟨n, hn, hn56⟩ := H.out.get hlt
   have hix : wr.cell? ⟨w.heap.size, i, none⟩ = some (.int .u8 (n : Int)) := (LA.out.cell i).trans (by rw [HLq.out]; exact c8_get' hn)
   have hcs := cod_step hn hc0
   have h1s := ct_step 1 hn
   have hss := shr_step hn
   have HC : Hid (cod ls (i + 1) = cod ls i + if n = 0 then 0 else 1) := hcs
   have H1 := Lib.hid h1s
   have HS := Lib.hid hss
   have hcl : cod ls i ≤ 256 := by unfold cod; omega
   have hshl : shr ls i < 9223372036854775808 := by
    refine Nat.lt_of_le_of_lt hsl ?_
    calc i * 2 ^ 55 < 256 * 2 ^ 55 := by exact Nat.mul_lt_mul_of_pos_right hlt (by decide)
     _ = 9223372036854775808 := by decide
   clear hcs h1s hss hn hsl hc0
   generalize cod ls i = co at *
   generalize ct ls 1 i = on at *
   generalize shr ls i = sh at *
   by_cases h0 : n = 0
   ·have e1 : ((n : Int) == 0) = true := by simp; omega
    have e2 : (n == 0) = true := by simpa using h0
    have HC2 : Hid (cod ls (i + 1) = co) := by show _ = _; rw [HC.out, if_pos h0]; rfl
    have H12 : Hid (ct ls 1 (i + 1) = on) := by show _ = _; rw [H1.out, if_neg (by omega)]; rfl
    have HS2 : Hid (shr ls (i + 1) = sh) := by show _ = _; rw [HS.out]; unfold shF; rw [if_pos h0]
    clear h0 HC H1 HS
    go_wp2_with fail
    go_roundw
    case rel => exact ⟨i + 1, by omega, by go_num, by rw [HC2.out], by rw [H12.out], by rw [HS2.out], trivial⟩
    case measure => simp [intOf]; omega
   ·have e1 : ((n : Int) == 0) = false := by simp; omega
    have e2 : (n == 0) = false := by simpa using h0
    have HC2 : Hid (cod ls (i + 1) = co + 1) := by show _ = _; rw [HC.out, if_neg h0]
    have hp55 : 2 ^ (56 - n) ≤ 36028797018963968 := by
     have : 2 ^ (56 - n) ≤ 2 ^ 55 := Nat.pow_le_pow_right (by decide) (by omega)
     exact this
    obtain ⟨pw, hpw⟩ : ∃ pw, pw = 2 ^ (56 - n) := ⟨_, rfl⟩
    have HS2 : Hid (shr ls (i + 1) = sh + pw) := by show _ = _; rw [HS.out]; unfold shF; rw [if_neg h0, hpw]
    have ew : IntKind.u64.wrap (56 - (n : Int)) = ((56 - n : Nat) : Int) := by rw [IntKind.wrap_u64]; omega
    have ewn : IntKind.u64.wrap (n : Int) = (n : Int) := by rw [IntKind.wrap_u64]; omega
    have es : (2 : Int) ^ (56 - n) = (pw : Int) := by rw [hpw]; exact (Int.natCast_pow 2 _).symm
    rw [← hpw] at hp55
    have HPW := Lib.hid hpw
    clear hpw
    by_cases hn1 : n = 1
    ·have e3 : ((n : Int) == 1) = true := by simp; omega
     have e4 : (n == 1) = true := by simpa using hn1
     have H12 : Hid (ct ls 1 (i + 1) = on + 1) := by show _ = _; rw [H1.out, if_pos hn1]
     clear h0 HC H1 HS hn1
     go_wp2_with fail
     go_roundw
     case rel => exact ⟨i + 1, by omega, by go_num, by rw [HC2.out]; go_num, by rw [H12.out]; go_num, by rw [HS2.out]; go_num, trivial⟩
     case measure => simp [intOf]; omega
    ·have e3 : ((n : Int) == 1) = false := by simp; omega
     have e4 : (n == 1) = false := by simpa using hn1
     have H12 : Hid (ct ls 1 (i + 1) = on) := by show _ = _; rw [H1.out, if_neg hn1]; rfl
     clear h0 HC H1 HS hn1
     go_wp2_with fail
     go_roundw
     case rel => exact ⟨i + 1, by omega, by go_num, by rw [HC2.out]; go_num, by rw [H12.out], by rw [HS2.out]; go_num, trivial⟩
     case measure => simp [intOf]; omega
  ·obtain rfl : i = 256 := by omega
   have hcl : cod ls 256 ≤ 256 := by unfold cod; omega
   have HW : Hid (wholeB ls = decide (cod ls 256 = 0 ∨ (cod ls 256 = 1 ∧ ct ls 1 256 = 1) ∨ shr ls 256 = 72057594037927936)) := rfl
   generalize cod ls 256 = co at *
   generalize ct ls 1 256 = on at *
   generalize shr ls 256 = sh at *
   clear hsl hc0
   by_cases hc : co = 0
   ·have HX : Hid (wholeB ls = true) := by show _ = _; rw [HW.out, decide_eq_true (.inl hc)]
    have e1 : ((co : Int) == 0) = true := by simp; omega
    have e2 : (co == 0) = true := by simpa using hc
    clear hc HW
    go_wp2
    go_ret
    exact ⟨ret_bool HX.out.symm, hb.out⟩
   ·have e1 : ((co : Int) == 0) = false := by simp; omega
    have e2 : (co == 0) = false := by simpa using hc
    by_cases hs : sh = 72057594037927936
    ·have HX : Hid (wholeB ls = true) := by show _ = _; rw [HW.out, decide_eq_true (.inr (.inr hs))]
     have e5 : ((sh : Int) == 72057594037927936) = true := by simp; omega
     have e6 : (sh == 72057594037927936) = true := by simpa using hs
     clear hs HW
     by_cases hc1' : co = 1
     ·have e3 : ((co : Int) == 1) = true := by simp; omega
      have e4 : (co == 1) = true := by simpa using hc1'
      by_cases ho : on = 1
      ·have e7 : ((on : Int) == 1) = true := by simp; omega
       have e8 : (on == 1) = true := by simpa using ho
       clear hc hc1' ho
       go_wp2
       go_ret
       exact ⟨ret_bool HX.out.symm, hb.out⟩
      ·have e7 : ((on : Int) == 1) = false := by simp; omega
       have e8 : (on == 1) = false := by simpa using ho
       clear hc hc1' ho
       go_wp2
       go_ret
       exact ⟨ret_bool HX.out.symm, hb.out⟩
     ·have e3 : ((co : Int) == 1) = false := by simp; omega
      have e4 : (co == 1) = false := by simpa using hc1'
      clear hc hc1'
      go_wp2
      go_ret
      exact ⟨ret_bool HX.out.symm, hb.out⟩
    ·have e5 : ((sh : Int) == 72057594037927936) = false := by simp; omega
     have e6 : (sh == 72057594037927936) = false := by simpa using hs
     by_cases hc1' : co = 1
     ·have e3 : ((co : Int) == 1) = true := by simp; omega
      have e4 : (co == 1) = true := by simpa using hc1'
      by_cases ho : on = 1
      ·have HX : Hid (wholeB ls = true) := by show _ = _; rw [HW.out, decide_eq_true (.inr (.inl ⟨hc1', ho⟩))]
       have e7 : ((on : Int) == 1) = true := by simp; omega
       have e8 : (on == 1) = true := by simpa using ho
       clear hc hc1' ho HW hs
       go_wp2
       go_ret
       exact ⟨ret_bool HX.out.symm, hb.out⟩
      ·have HX : Hid (wholeB ls = false) := by show _ = _; rw [HW.out, decide_eq_false (fun h => by omega)]
       have e7 : ((on : Int) == 1) = false := by simp; omega
       have e8 : (on == 1) = false := by simpa using ho
       clear hc hc1' ho HW hs
       go_wp2
       go_ret
       exact ⟨ret_bool HX.out.symm, hb.out⟩
     ·have HX : Hid (wholeB ls = false) := by show _ = _; rw [HW.out, decide_eq_false (fun h => by omega)]
      have e3 : ((co : Int) == 1) = false := by simp; omega
      have e4 : (co == 1) = false := by simpa using hc1'
      clear hc hc1' HW hs
      go_wp2
      go_ret
      exact ⟨ret_bool HX.out.symm, hb.out⟩
set_option maxHeartbeats 2000000 in
set_option maxRecDepth 100000 in
theorem refCodes (ls : List Nat) (w : World) (h : LOk ls) :
  Calls Try.prog 16 #[.agg (c8 ls).toArray] w fun e w' => e = .returned (.agg (cells64 (codL ls)).toArray) ∧ Below w.heap.size w w' := by
 have hlen : (c8 ls).length = 256 := by rw [c8_length]; exact h.1
 obtain ⟨L, hL⟩ : ∃ L, L = c8 ls := ⟨_, rfl⟩
 rw [← hL] at hlen ⊢
 have HLq := Lib.hid hL
 have H := Lib.hid h
 obtain ⟨Z, hZ⟩ : ∃ Z, Z = cells64 (List.replicate 256 0) := ⟨_, rfl⟩
 have hz := zero64
 have hzz : (Array.replicate 256 (Value.int .u64 0)) = Z.toArray := by rw [hZ]; unfold cells64; rw [List.map_replicate]; exact (List.toArray_replicate 256 _).symm
 rw [hzz] at hz
 have hzl : Z.length = 256 := by rw [hZ, c64_length, List.length_replicate]
 have HZ := Lib.hid hZ
 have HZL := Lib.hid hzl
 have l0 := ((Lies.made w 27 L.toArray).alloc (.cells Z.toArray 25)).alloc (.cells Z.toArray 25)
 have l1 := (Lies.made (w.alloc (.cells L.toArray 27)) 25 Z.toArray).alloc (.cells Z.toArray 25)
 have l2 := Lies.made ((w.alloc (.cells L.toArray 27)).alloc (.cells Z.toArray 25)) 25 Z.toArray
 rw [show (w.alloc (.cells L.toArray 27)).heap.size = w.heap.size + 1 by simp] at l1
 rw [show ((w.alloc (.cells L.toArray 27)).alloc (.cells Z.toArray 25)).heap.size = w.heap.size + 1 + 1 by simp] at l2
 have hb1 := (((Below.refl w.heap.size w).alloc (Nat.le_refl _) (.cells L.toArray 27)).alloc (by simp) (.cells Z.toArray 25)).alloc (by simp; omega) (.cells Z.toArray 25)
 have hsz : (((w.alloc (.cells L.toArray 27)).alloc (.cells Z.toArray 25)).alloc (.cells Z.toArray 25)).heap.size = w.heap.size + 3 := by simp
 have L0 := Lib.hid l0
 have L1 := Lib.hid l1
 have L2 := Lib.hid l2
 have HB1 := Lib.hid hb1
 have HSZ := Lib.hid hsz
 clear hL h hZ hzz hzl l0 l1 l2 hb1 hsz
 go_enter Try.func16, Try.ntmps16
 go_wp2_with fail
 generalize ((w.alloc (.cells L.toArray 27)).alloc (.cells Z.toArray 25)).alloc (.cells Z.toArray 25) = w1 at *
 clear hz
 go_loopw [4, 5] (fun co t wr => ∃ k : Nat, 1 ≤ k ∧ k ≤ 57 ∧ t = .int .u8 k ∧ co = .int .u64 (aft ls k : Nat) ∧ Lies wr (w.heap.size + 1 + 1) 25 (cells64 (cdP ls k 0)).toArray ∧ Kept (oneRow (w.heap.size + 1 + 1)) w1 wr)
  (fun _ t _ => 57 - (intOf t).toNat)
 case atStart => exact ⟨1, by omega, by omega, rfl, rfl, by rw [← cdP_next ls 0 H.out.1]; show Lies _ _ _ (cells64 (cdP ls 0 0)).toArray; rw [cdP_start, ← HZ.out]; exact L2.out, Kept.refl _ _⟩
 case round =>
  obtain ⟨k, hk1, hk, rfl, rfl, lc, hkk⟩ := hrel
  have LC := Lib.hid lc
  have HK := Lib.hid hkk
  clear lc hkk
  by_cases hlt : k < 57
  ·have hki : (k : Int) ≤ 56 := by omega
   have hal := aft_lt ls k
   have hat := aft_two ls k
   have haf : aft ls (k + 1) = (fcM ls k + ls.count k) % M64' := by show (fcM ls k + if k = 0 then 0 else ls.count k) % M64' = _; rw [if_neg (by omega)]
   have hfl := fcM_lt ls k
   have hcx := cdP_next ls k H.out.1
   rw [if_neg (by omega)] at hcx
   unfold M64' at hat haf hfl
   obtain ⟨F, hF⟩ : ∃ F, F = fcM ls k := ⟨_, rfl⟩
   rw [← hF] at hat haf hfl
   have hsh : IntKind.u64.wrap ((aft ls k : Nat) * (2 : Int)) = (F : Int) := by rw [IntKind.wrap_u64]; omega
   have HAF := Lib.hid haf
   have HCX := Lib.hid hcx
   have HF := Lib.hid hF
   clear hat haf hcx hF
   generalize aft ls k = a0 at *
   go_wp2_with fail
   go_loopw [4, 6] (fun co t wq => ∃ i : Nat, i ≤ 256 ∧ t = .int .i64 i ∧ co = .int .u64 (((F + ct ls k i) % 18446744073709551616 : Nat) : Int) ∧ Lies wq (w.heap.size + 1 + 1) 25 (cells64 (cdP ls k (ct ls k i))).toArray ∧ Kept (oneRow (w.heap.size + 1 + 1)) w1 wq)
    (fun _ t _ => 256 - (intOf t).toNat)
   case atStart => exact ⟨0, by omega, rfl, by rw [ct_zero, Nat.add_zero, Nat.mod_eq_of_lt hfl], by rw [ct_zero]; exact LC.out, HK.out⟩
   case round =>
    clear LC HK
    obtain ⟨i, hi, rfl, rfl, lc, hkk⟩ := hrel
    have LC := Lib.hid lc
    have HK := Lib.hid hkk
    have L0w := Lib.hid (L0.out.kept hkk (fun e => by have h1 : w.heap.size = w.heap.size + 1 + 1 := e; omega))
    clear lc hkk
    by_cases hi2 : i < 256
    ·have hii : (i : Int) < 256 := by omega
     obtain ⟨n, hn, hn56⟩ := H.out.get hi2
     have hcs := ct_step k hn
     have cn : wr.cell? ⟨w.heap.size, i, none⟩ = some (.int .u8 (n : Int)) := (L0w.out.cell i).trans (by rw [HLq.out]; exact c8_get' hn)
     obtain ⟨r, hr⟩ : ∃ r, r = ct ls k i := ⟨_, rfl⟩
     rw [← hr] at hcs LC ⊢
     obtain ⟨X, hX⟩ : ∃ X, X = (F + r) % 18446744073709551616 := ⟨_, rfl⟩
     have hXl : X < 18446744073709551616 := by rw [hX]; exact Nat.mod_lt _ (by decide)
     have HX := Lib.hid hX
     by_cases hnk : n = k
     ·subst hnk
      rw [if_pos rfl] at hcs
      have hX1 : IntKind.u64.wrap ((X : Int) + 1) = (((F + (r + 1)) % 18446744073709551616 : Nat) : Int) := by rw [IntKind.wrap_u64, hX]; omega
      obtain ⟨Y, hY⟩ : ∃ Y, Y = (F + (r + 1)) % 18446744073709551616 := ⟨_, rfl⟩
      rw [← hY] at hX1
      have HY := Lib.hid hY
      obtain ⟨z, hz⟩ : ∃ z, (cdP ls n r)[i]? = some z := ⟨_, List.getElem?_eq_getElem (by rw [cdP_length]; exact hi2)⟩
      have cz : wr.cell? ⟨w.heap.size + 1 + 1, i, none⟩ = some (.int .u64 (z : Int)) := (LC.out.cell i).trans (c64_get hz)
      have fz := LC.out.free i
      have hput := LC.out.put i (.int .u64 (X : Int))
      rw [c64_set, HX.out, HF.out] at hput
      have hstep := cdP_step (ls := ls) H.out.1 (by omega) hn hr.symm
      unfold M64' at hstep
      rw [hstep, ← HF.out, ← HX.out, ← hcs] at hput
      have HPUT := Lib.hid hput
      have HKP := Lib.hid (HK.out.trans (Kept.put wr (w.heap.size + 1 + 1) i (.int .u64 (X : Int))) (fun _ _ h => h))
      have HCS := Lib.hid hcs
      rw [← hX]
      clear hput hstep hz hn hcs hr hX hY
      go_wp2_with fail
      go_roundw
      case rel => exact ⟨i + 1, by omega, by go_num, by rw [HCS.out, ← HY.out], HPUT.out, HKP.out⟩
      case measure => simp [intOf]; omega
     ·rw [if_neg hnk, Nat.add_zero] at hcs
      have e1 : ((n : Int) == (k : Int)) = false := by simp; omega
      have e2 : (n == k) = false := by simpa using hnk
      have HCS := Lib.hid hcs
      rw [← hX]
      clear hn hcs hr hX hnk
      go_wp2_with fail
      go_roundw
      case rel => exact ⟨i + 1, by omega, by go_num, by rw [HCS.out, Nat.add_zero, ← HX.out], by rw [HCS.out]; exact LC.out, HK.out⟩
      case measure => simp [intOf]; omega
    ·obtain rfl : i = 256 := by omega
     have lc := LC.out
     have hca := ct_all ls k 256 (by rw [H.out.1]; exact Nat.le_refl _)
     rw [hca, HCX.out] at lc
     have HLC := Lib.hid lc
     have HXA : Hid ((F + ct ls k 256) % 18446744073709551616 = aft ls (k + 1)) := by show _ = _; rw [HAF.out, hca]
     have ek : IntKind.u8.wrap ((k : Int) + 1) = ((k + 1 : Nat) : Int) := by rw [IntKind.wrap_u8]; omega
     obtain ⟨Q, hQ⟩ : ∃ Q, Q = (F + ct ls k 256) % 18446744073709551616 := ⟨_, rfl⟩
     rw [← hQ] at HXA ⊢
     clear lc hca hQ LC
     go_wp2_with fail
     exact ⟨⟨k + 1, by omega, by omega, by go_num, by rw [HXA.out], HLC.out, HK.out⟩, by simp [intOf]; omega⟩
  ·obtain rfl : k = 57 := by omega
   have lc := LC.out
   rw [cdP_end H.out.2 H.out.1] at lc
   obtain ⟨U, hU⟩ : ∃ U, U = cells64 (codL ls) := ⟨_, rfl⟩
   have hUl : U.length = 256 := by rw [hU, c64_length, codL_length]
   have hU1 : U.toArray.all (·.oneCell') = true := by rw [hU]; exact c64_one _
   rw [← hU] at lc
   have HU := Lib.hid hU
   have l1 := L1.out.kept HK.out (fun e => by have h1 : w.heap.size + 1 = w.heap.size + 1 + 1 := e; omega)
   have hr := Lib.hid (arr_range lc)
   have ht := Lib.hid (arr_there l1 (n := U.toArray.size) (by simp [hUl, HZL.out]))
   have hst := Lib.hid (arr_store l1 (L := U) (by simp [hUl, HZL.out]))
   have hi1 : (Try.prog.info? 25).map (·.size) = some U.length := by rw [hUl]; exact info64
   have hi2 : (Try.prog.info? 25).map (·.size) = some U.toArray.size := by rw [List.size_toArray, hUl]; exact info64
   have HJ2 := Lib.hid hi1
   have HJ3 := Lib.hid hi2
   have HU1 := Lib.hid hU1
   have hbw := HB1.out.trans (HK.out.below (B := w.heap.size) (by rw [HSZ.out]; omega) (fun k hk e => by have h1 : k = w.heap.size + 1 + 1 := e; omega))
   have hbz := Lib.hid (below_cellsA (Nat.le_succ w.heap.size) U 0 wr hbw)
   clear hU hU1 hi1 hi2 lc l1 hbw
   go_wp2_with (first | refine wpList_load_mid rfl 25 _ rfl (w.heap.size + 1 + 1) 0 rfl U _ hr.out under64 rfl HJ2.out ?_ | refine wpList_store_mid rfl 25 _ _ rfl (w.heap.size + 1) 0 U.toArray rfl rfl ht.out HJ3.out HU1.out ?_)
   refine bodyPost_ret (v := .agg U.toArray) (results_cell_arr Try.results16 _ _ (w.heap.size + 1) U _ rfl (arr_range hst.out) under64 rfl HJ2.out) rfl ⟨by rw [HU.out], hbz.out⟩
theorem u8_list {W : World} {a : Option Addr} {len cap : Nat} {zs : List Int} (h : ArgInts .u8 W a len cap zs) : ∃ l : List Nat, l.length = len ∧ (∀ x ∈ l, x < 256) ∧ SeqAt W (.slice a len cap) (c8 l) ∧ len ≤ cap ∧ cap ≤ maxLen := by
 obtain ⟨h0, h1, h2, h3, h4, h5⟩ := h
 have hb : ∀ n ∈ zs, 0 ≤ n ∧ n < 256 := fun n hn => by
  have := bounds_u8 (h5 n hn)
  omega
 have hm : zs.map (Value.int .u8) = c8 (zs.map Int.toNat) := by
  unfold c8
  rw [List.map_map]
  refine List.map_congr_left fun n hn => ?_
  show Value.int .u8 n = Value.int .u8 ((n.toNat : Nat) : Int)
  rw [Int.toNat_of_nonneg (hb n hn).1]
 refine ⟨zs.map Int.toNat, by simp [h3], fun x hx => ?_, ?_, h1, h2⟩
 ·obtain ⟨n, hn, rfl⟩ := List.mem_map.1 hx
  have := hb n hn; omega
 ·rw [hm] at h4
  exact SeqAt.of_arg h4 (Below.refl _ _) (by rw [c8_length, List.length_map, h3]) h1 h2
theorem greatB_pad (l : List Nat) (k : Nat) : greatB (l ++ List.replicate k 0) = greatB l := by
 unfold greatB
 rw [List.any_append]
 have : (List.replicate k 0).any (fun n => decide (56 < n)) = false := by
  rw [List.any_eq_false]
  intro x hx
  rw [List.eq_of_mem_replicate hx]; decide
 rw [this, Bool.or_false]
set_option maxHeartbeats 4000000 in
set_option maxRecDepth 100000 in
theorem codes_walk (a : Option Addr) (len cap : Nat) (zs : List Int) (w : World) (h : ArgInts .u8 w a len cap zs) :
  Calls Try.prog 4 #[.slice a len cap] w fun e w' => e = .returned (.bool true) ∧ Below w.heap.size w w' := by
 obtain ⟨l, hll, hl256, hseq, hlc, hcm⟩ := u8_list h
 clear h
 unfold maxLen at hcm
 have HSQ := Lib.hid hseq
 by_cases hgt : 256 < len
 ·have x1 : decide ((256 : Int) < (len : Int)) = true := by simp; omega
  have x2 : decide (256 < len) = true := by simpa using hgt
  clear hseq hll hl256
  go_enter Try.func4, Try.ntmps4
  go_wp2_with fail
  refine (huffAwake w).mono ?_
  rintro e w1 ⟨rfl, hb1⟩
  go_wp2_with fail
  refine (huffAwake w1).mono ?_
  rintro e w2 ⟨rfl, hb2⟩
  go_wp2
  go_ret
  exact ⟨rfl, hb1.trans (hb2.mono hb1.size)⟩
 have x1 : decide ((256 : Int) < (len : Int)) = false := by simp; omega
 have x2 : decide (256 < len) = false := by simpa using hgt
 obtain ⟨ls, hls⟩ : ∃ ls, ls = l ++ List.replicate (256 - len) 0 := ⟨_, rfl⟩
 have hlsl : ls.length = 256 := by rw [hls, List.length_append, List.length_replicate]; omega
 have hls256 : ∀ x ∈ ls, x < 256 := fun x hx => by
  rw [hls] at hx
  rcases List.mem_append.1 hx with hx | hx
  ·exact hl256 x hx
  ·rw [List.eq_of_mem_replicate hx]; decide
 have hgr : greatB ls = greatB l := by rw [hls]; exact greatB_pad l _
 have hcd := fun w => huffCodes ls w hlsl hls256
 obtain ⟨L, hL⟩ : ∃ L, L = c8 ls := ⟨_, rfl⟩
 obtain ⟨D, hD⟩ : ∃ D, D = cells64 (cdsOf ls) := ⟨_, rfl⟩
 have hLl : L.length = 256 := by rw [hL, c8_length, hlsl]
 have hDl : D.length = 256 := by rw [hD, c64_length, cdsOf_length]
 have hD1 : D.toArray.all (·.oneCell') = true := by rw [hD]; exact c64_one _
 rw [← hL, ← hD] at hcd
 obtain ⟨Z, hZ⟩ : ∃ Z, Z = c8 (List.replicate 256 0) := ⟨_, rfl⟩
 obtain ⟨Z6, hZ6⟩ : ∃ Z, Z = cells64 (List.replicate 256 0) := ⟨_, rfl⟩
 have hz := zero8
 have hy := zero64
 have hzz : (Array.replicate 256 (Value.int .u8 0)) = Z.toArray := by rw [hZ]; unfold c8; rw [List.map_replicate]; exact (List.toArray_replicate 256 _).symm
 have hyy : (Array.replicate 256 (Value.int .u64 0)) = Z6.toArray := by rw [hZ6]; unfold cells64; rw [List.map_replicate]; exact (List.toArray_replicate 256 _).symm
 rw [hzz] at hz
 rw [hyy] at hy
 have hZl : Z.length = 256 := by rw [hZ, c8_length, List.length_replicate]
 have hZ6l : Z6.length = 256 := by rw [hZ6, c64_length, List.length_replicate]
 have hiL : (Try.prog.info? 27).map (·.size) = some L.length := by rw [hLl]; exact info8
 have hiD : (Try.prog.info? 25).map (·.size) = some D.length := by rw [hDl]; exact info64
 have hiD2 : (Try.prog.info? 25).map (·.size) = some D.toArray.size := by rw [List.size_toArray, hDl]; exact info64
 have heq1 := fun w => arr64Eql (cdsOf ls) (List.replicate 256 0) (cdsOf_length _) List.length_replicate w
 have heq2 := fun w => arr64Eql (cdsOf ls) (codL ls) (cdsOf_length _) (codL_length _) w
 have hgd := guard64
 rw [← hD, ← hZ6] at heq1
 rw [← hD] at heq2
 have HCD := Lib.hid hcd
 have HL := Lib.hid hL
 have HD := Lib.hid hD
 have HD1 := Lib.hid hD1
 have HZ := Lib.hid hZ
 have HZL := Lib.hid hZl
 have HIL := Lib.hid hiL
 have HID := Lib.hid hiD
 have HID2 := Lib.hid hiD2
 have HE1 := Lib.hid heq1
 have HE2 := Lib.hid heq2
 have HLS := Lib.hid hls
 have HLSL := Lib.hid hlsl
 have HGR := Lib.hid hgr
 have HLL := Lib.hid hll
 have H256 := Lib.hid hl256
 have HDL := Lib.hid hDl
 have HZ6L := Lib.hid hZ6l
 clear hcd hL hD hLl hDl hD1 hZ hZ6 hzz hyy hZl hZ6l hiL hiD hiD2 heq1 heq2 hls hlsl hls256 hgr hll hl256 hseq
 go_enter Try.func4, Try.ntmps4
 go_wp2_with fail
 refine (huffAwake w).mono ?_
 rintro e w1 ⟨rfl, hb1⟩
 have LA := Lib.hid (Lies.made w1 27 Z.toArray)
 have HB2 := Lib.hid (hb1.trans (((Below.refl w1.heap.size w1).alloc (Nat.le_refl _) (.cells Z.toArray 27)).mono hb1.size))
 have hz1 : w.heap.size ≤ w1.heap.size := hb1.size
 have hs2 : (w1.alloc (.cells Z.toArray 27)).heap.size = w1.heap.size + 1 := by simp
 obtain ⟨ga, hga⟩ : ∃ ga, ga = w1.heap.size := ⟨_, rfl⟩
 rw [← hga] at LA hz1 hs2
 have HGA := Lib.hid hga
 have HS2 := Lib.hid hs2
 clear hb1 hga hs2
 go_wp2_with fail
 rw [← HGA.out]
 generalize w1.alloc (.cells Z.toArray 27) = w2 at *
 go_loopw [4, 19] (fun gr c wr => ∃ i : Nat, i ≤ len ∧ c = .int .i64 i ∧ gr = .bool (greatB (l.take i)) ∧ Lies wr ga 27 (c8 (l.take i ++ List.replicate (256 - i) 0)).toArray ∧ Kept (oneRow ga) w2 wr)
  (fun _ c _ => len - (intOf c).toNat)
 case atStart => exact ⟨0, by omega, rfl, rfl, by rw [List.take_zero, List.nil_append, Nat.sub_zero, ← HZ.out]; exact LA.out, Kept.refl _ _⟩
 case round =>
  clear LA
  obtain ⟨i, hi, rfl, rfl, la, hk⟩ := hrel
  have LA := Lib.hid la
  have HK := Lib.hid hk
  have hbw := HB2.out.trans (hk.below (B := w.heap.size) (by rw [HS2.out]; omega) (fun k hk e => by have h1 : k = ga := e; omega))
  have HBW := Lib.hid hbw
  clear la hk hbw
  by_cases hlt : i < len
  ·have hii : (i : Int) < (len : Int) := by omega
   have hi256 : (i : Int) < 256 := by omega
   obtain ⟨n, hn⟩ : ∃ n, l[i]? = some n := ⟨_, List.getElem?_eq_getElem (by rw [HLL.out]; exact hlt)⟩
   obtain ⟨A', c', e1, _, _, hc⟩ := HSQ.out
   simp only [Value.slice.injEq] at e1
   obtain ⟨rfl, _, rfl⟩ := e1
   obtain ⟨b, off, rfl, hcell⟩ := hc i _ (c8_get hn)
   have cn : wr.cell? ⟨b, off + i, none⟩ = some (.int .u8 (n : Int)) := (HBW.out.cell (World.block_lt_of_cell? w _ hcell)).trans hcell
   have hlt2 : (l.take i).length = i := by rw [List.length_take, HLL.out]; omega
   have cz : wr.cell? ⟨ga, i, none⟩ = some (.int .u8 ((0 : Nat) : Int)) := (LA.out.cell i).trans (by
    rw [List.getElem?_toArray]
    exact c8_get (by rw [List.getElem?_append_right (by omega), hlt2, Nat.sub_self, List.getElem?_replicate, if_pos (by omega)]))
   have fz := LA.out.free i
   have hput := LA.out.putL' i (.int .u8 (n : Int))
   rw [c8_set, take_rep hn (by omega)] at hput
   have HP := Lib.hid hput
   have HKP := Lib.hid (HK.out.trans (Kept.put wr ga i (.int .u8 (n : Int))) (fun _ _ h => h))
   have hgn : greatB (l.take (i + 1)) = (greatB (l.take i) || decide (56 < n)) := by
    unfold greatB
    rw [List.take_add_one, hn, List.any_append]
    simp
   have HGN := Lib.hid hgn
   have e5 : decide ((56 : Int) < (n : Int)) = decide (56 < n) := decide_eq_decide.2 (by omega)
   clear hput hn hgn hcell hlt2 hc
   cases hg : greatB (l.take i)
   ·rw [hg] at HGN
    go_wp2_with fail
    go_roundw
    case rel => exact ⟨i + 1, by omega, by go_num, by rw [HGN.out]; rfl, HP.out, HKP.out⟩
    case measure => simp [intOf]; omega
   ·rw [hg] at HGN
    go_wp2_with fail
    go_roundw
    case rel => exact ⟨i + 1, by omega, by go_num, by rw [HGN.out]; rfl, HP.out, HKP.out⟩
    case measure => simp [intOf]; omega
  ·obtain rfl : i = len := by omega
   have la := LA.out
   have htk : l.take i = l := List.take_of_length_le (by rw [HLL.out]; exact Nat.le_refl _)
   rw [htk, ← HLS.out, ← HL.out] at la
   rw [htk, ← HGR.out]
   have LA2 := Lib.hid la
   have HRA := Lib.hid (arr_range la)
   have hbz : w.heap.size ≤ wr.heap.size := HBW.out.size
   clear la htk LA
   go_wp2_with (refine wpList_load_mid rfl 27 _ rfl ga 0 rfl L _ HRA.out under8 rfl HIL.out ?_)
   refine (HCD.out wr).mono ?_
   rintro e w3 ⟨rfl, hb3⟩
   have LA3 := Lib.hid (LA2.out.below hb3 LA2.out.lt)
   have HB3 := Lib.hid (HBW.out.trans (hb3.mono hbz))
   have hz3 : w.heap.size ≤ w3.heap.size := HB3.out.size
   obtain ⟨th, lk, hbk, hsz⟩ := newArr (B := w.heap.size) (w := w3) (t := 25) (zs := Z6.toArray) (L := D) (by rw [List.size_toArray, HZ6L.out, HDL.out]) hz3
   have TH := Lib.hid th
   have LC := Lib.hid lk
   have LA4 := Lib.hid (LA3.out.below hbk LA3.out.lt)
   have HB4 := Lib.hid (HB3.out.trans (hbk.mono hz3))
   have HRC := Lib.hid (arr_range lk)
   have HRA4 := Lib.hid (arr_range LA4.out)
   clear hb3 th lk hbk hsz LA2 HBW HRA HB2 HB3 LA3 HK
   cases hg : greatB ls
   ·have hok : LOk ls := ⟨HLSL.out, fun n hn => by
     unfold greatB at hg
     rw [List.any_eq_false] at hg
     have := hg n hn
     simp at this; omega⟩
    have hrw := fun w => refWhole ls w hok
    have hrc := fun w => refCodes ls w hok
    rw [← HL.out] at hrw hrc
    have HRW := Lib.hid hrw
    have HRCD := Lib.hid hrc
    clear hrw hrc
    go_wp2_with (first | refine wpList_store_mid rfl 25 _ _ rfl w3.heap.size 0 D.toArray rfl rfl TH.out HID2.out HD1.out ?_ | refine wpList_load_mid rfl 27 _ rfl ga 0 rfl L _ HRA4.out under8 rfl HIL.out ?_)
    obtain ⟨gc, hgc⟩ : ∃ gc, gc = w3.heap.size := ⟨_, rfl⟩
    generalize (w3.alloc (.cells Z6.toArray 25)).setCells w3.heap.size 0 D = w4 at *
    rw [← hgc] at LC HRC hz3 ⊢
    clear hgc TH
    have hz4 : w.heap.size ≤ w4.heap.size := HB4.out.size
    refine (HRW.out w4).mono ?_
    rintro e w5 ⟨rfl, hb5⟩
    have LA5 := Lib.hid (LA4.out.below hb5 LA4.out.lt)
    have LC5 := Lib.hid (LC.out.below hb5 LC.out.lt)
    have HB5 := Lib.hid (HB4.out.trans (hb5.mono hz4))
    have hz5 : w.heap.size ≤ w5.heap.size := HB5.out.size
    have HRC5 := Lib.hid (arr_range LC5.out)
    clear hb5 LA4 LC HB4 HRC HRA4 HRW
    by_cases hw : wholeB ls = true
    ·have hE : cdsE ls = 0 := by unfold cdsE; rw [hg, hw]; rfl
     have hO : cdsOf ls = codL ls := by unfold cdsOf; rw [hE]; rfl
     have heq := HE2.out
     rw [decide_eq_true hO] at heq
     rw [hE, hw]
     obtain ⟨C, hC⟩ : ∃ C, C = cells64 (codL ls) := ⟨_, rfl⟩
     have hCD : C = D := by rw [hC, HD.out, hO]
     have hrc := HRCD.out
     rw [← hC, hCD] at hrc
     rw [← hC, hCD] at heq
     have HRCD2 := Lib.hid hrc
     have HEQ := Lib.hid heq
     clear hE hO hg hw hrc hC hCD heq HRCD hz hy hok
     go_wp2_with fail
     try simp only [Act.put, List.setIfInBounds_toArray, List.set_cons_zero, List.set_cons_succ]
     have hKeep : Hid (∀ a b : World, Below a.heap.size a b → (Lies a ga 27 L.toArray ∧ Lies a gc 25 D.toArray) → (Lies b ga 27 L.toArray ∧ Lies b gc 25 D.toArray)) :=
      fun a b hb h => ⟨h.1.below hb h.1.lt, h.2.below hb h.2.lt⟩
     refine wp_region_held_drew (S := fun u => (Lies u ga 27 L.toArray ∧ Lies u gc 25 D.toArray) ∧ Below w.heap.size w u ∧ w.heap.size ≤ u.heap.size) (by kernel_rfl)
      ⟨⟨LA5.out, LC5.out⟩, below_drewN HB5.out 1, hz5⟩ (fun hHeld => ?_)
     refine wpAnyH_take (i := 0) (v := (.int .i64 0)) rfl (by kernel_rfl) (by kernel_rfl) (by kernel_rfl) (fun _ _ _ h => h) (Or.inl ⟨by rfl, fun w h => by (simp only [List.getElem_toArray, List.getElem_cons_succ, List.getElem_cons_zero]; clear h; go_simp)⟩) (by assumption) ?_
     simp only [Act.put, List.getElem_toArray, List.getElem_cons_succ, List.getElem_cons_zero, List.setIfInBounds_toArray, List.set_cons_zero, List.set_cons_succ]
     refine wpAnyH_take (i := 1) (v := (.bool true)) rfl (by kernel_rfl) (by kernel_rfl) (by kernel_rfl) (fun _ _ _ h => h) (Or.inl ⟨by rfl, fun w h => by (simp only [List.getElem_toArray, List.getElem_cons_succ, List.getElem_cons_zero]; clear h; go_simp)⟩) (by assumption) ?_
     simp only [Act.put, List.getElem_toArray, List.getElem_cons_succ, List.getElem_cons_zero, List.setIfInBounds_toArray, List.set_cons_zero, List.set_cons_succ]
     refine wpAnyH_take (i := 2) (v := (.bool true)) rfl (by kernel_rfl) (by kernel_rfl) (by kernel_rfl) (fun _ _ _ h => h) (Or.inl ⟨by rfl, fun w h => by (simp only [List.getElem_toArray, List.getElem_cons_succ, List.getElem_cons_zero]; clear h; go_simp)⟩) (by assumption) ?_
     simp only [Act.put, List.getElem_toArray, List.getElem_cons_succ, List.getElem_cons_zero, List.setIfInBounds_toArray, List.set_cons_zero, List.set_cons_succ]
     refine wpAnyH_take (i := 3) rfl (by kernel_rfl) (by kernel_rfl) (by kernel_rfl) (fun _ _ _ h => h) (yieldsIf_load_mid (by rfl) _ _ rfl gc 0 rfl D _ (fun w h => arr_range h.1.2) under64 rfl HID.out) (by assumption) ?_
     try simp only [Act.put, List.setIfInBounds_toArray, List.set_cons_zero, List.set_cons_succ]
     refine wpAnyH_take (i := 4) rfl (by kernel_rfl) (by kernel_rfl) (by kernel_rfl) (fun _ _ _ h => h) (yieldsIf_load_mid (by rfl) _ _ rfl ga 0 rfl L _ (fun w h => arr_range h.1.1) under8 rfl HIL.out) (by assumption) ?_
     try simp only [Act.put, List.setIfInBounds_toArray, List.set_cons_zero, List.set_cons_succ]
     refine wpAnyH_ready (rs := [5]) (by kernel_rfl) (by simp) ?_
     refine AllReadyH.cons rfl (fun K hK => ?_) AllReadyH.nil
     rw [if_pos (by rfl)]
     go_wp2_with fail
     refine (keep_callS hKeep.out (HRCD2.out _) (by assumption)).mono ?_
     rintro e w' ⟨he, q⟩
     cases he
     dsimp only
     refine hK.out _ _ q (fun hHeld => ?_)
     clear hK K
     try simp only [Act.put, List.setIfInBounds_toArray, List.set_cons_zero, List.set_cons_succ]
     have heq := HEQ.out
     refine wpAnyH_ready (rs := [6]) (by kernel_rfl) (by simp) ?_
     refine AllReadyH.cons rfl (fun K hK => ?_) AllReadyH.nil
     rw [if_pos (by rfl)]
     go_wp2_with fail
     refine hK.out _ _ (by assumption) (fun hHeld => ?_)
     clear hK K
     try simp only [Act.put, List.setIfInBounds_toArray, List.set_cons_zero, List.set_cons_succ]
     refine wpAnyH_ready (rs := [7]) (by kernel_rfl) (by simp) ?_
     refine AllReadyH.cons rfl (fun K hK => ?_) AllReadyH.nil
     rw [if_pos (by rfl)]
     go_wp2_with fail
     refine hK.out _ _ (by assumption) (fun hHeld => ?_)
     clear hK K
     try simp only [Act.put, List.setIfInBounds_toArray, List.set_cons_zero, List.set_cons_succ]
     refine wpAnyH_ready (rs := [8]) (by kernel_rfl) (by simp) ?_
     refine AllReadyH.cons rfl (fun K hK => ?_) AllReadyH.nil
     rw [if_pos (by rfl)]
     go_wp2_with fail
     refine hK.out _ _ (by assumption) (fun hHeld => ?_)
     clear hK K
     try simp only [Act.put, List.setIfInBounds_toArray, List.set_cons_zero, List.set_cons_succ]
     refine wpAnyH_done (by kernel_rfl) ?_ _
     go_wp2
     go_ret
     exact ⟨rfl, And.left (And.right (by assumption))⟩
    ·have hw2 : wholeB ls = false := by simpa using hw
     have hE : cdsE ls = 3 := by unfold cdsE; rw [hg, hw2]; rfl
     have hO : cdsOf ls = List.replicate 256 0 := by unfold cdsOf; rw [hE]; rfl
     have heq := HE1.out
     rw [decide_eq_true hO] at heq
     rw [hE, hw2]
     clear hE hO hg hw hw2 hok
     go_wp2_with fail
     refine wp_load_mid 25 _ rfl gc 0 rfl D _ HRC5.out under64 rfl HID.out ?_
     go_wp2
     go_ret
     exact ⟨rfl, HB5.out⟩
   ·have hE : cdsE ls = 1 := by unfold cdsE; rw [if_pos hg]
    have hO : cdsOf ls = List.replicate 256 0 := by unfold cdsOf; rw [hE]; rfl
    have heq := HE1.out
    rw [decide_eq_true hO] at heq
    rw [hE]
    clear hE hO hg
    go_wp2_with (refine wpList_store_mid rfl 25 _ _ rfl w3.heap.size 0 D.toArray rfl rfl TH.out HID2.out HD1.out ?_)
    refine wp_load_mid 25 _ rfl w3.heap.size 0 rfl D _ HRC.out under64 rfl HID.out ?_
    go_wp2
    go_ret
    exact ⟨rfl, HB4.out⟩
end Go.Proofs.Ytakdpnlohknniaa
