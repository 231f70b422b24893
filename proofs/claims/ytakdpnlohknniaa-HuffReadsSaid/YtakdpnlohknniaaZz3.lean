import Derived.Test.YtakdpnlohknniaaZz2
namespace Go.Proofs.Ytakdpnlohknniaa
open Go.RowKit
set_option linter.unusedVariables false
set_option linter.unusedSimpArgs false
def greatB (ls : List Nat) : Bool := ls.any fun n => decide (56 < n)
def cdsE (ls : List Nat) : Nat := if greatB ls = true then 1 else if wholeB ls = true then 0 else 3
def cdsOf (ls : List Nat) : List Nat := if cdsE ls = 0 then codL ls else List.replicate 256 0
theorem codL_length (ls : List Nat) : (codL ls).length = 256 := by simp [codL]
theorem cdP_length (ls : List Nat) (k r : Nat) : (cdP ls k r).length = 256 := by simp [cdP]
theorem results_cell_tmp {P : Program} {fn : Func} {p t : Tmp} {ty : TypeId} (h : fn.results = #[.cell p ty, .tmp t]) (tmps : Array Value) (w : World) (g : Nat) (cs : List Value) (d : TypeDesc)
  (hp : tmps.getD p undef = .pointer (some ⟨g, 0, none⟩)) (hc : w.rangeAt g 0 cs) (hu : P.underlying ty = some d) (hd : d.isRow = true) (hi : (P.info? ty).map (·.size) = some cs.length) :
  (results fn tmps).run P w = .ok (.tuple #[.agg cs.toArray, tmps.getD t undef]) w := by
 have hp' : tmps[p]?.getD undef = .pointer (some ⟨g, 0, none⟩) := by simpa using hp
 simp [results, h, hp', asAddr, run_loadVar_mid w g 0 ty cs d hc hu hd hi]
theorem ixI (cs : List Nat) (hl : cs.length = 57) (k : IntKind) (i n : Nat) (hn : cs[i]? = some n) (w : World) : (Instr.index 56 (.agg (cI cs).toArray) (.int k (i : Int))).run Try.prog w = .ok (.int .i64 (n : Int)) w :=
 run_index_arr 56 3 57 (cI cs).toArray k i _ underI isAggI sizeOfI (by have := (List.getElem?_eq_some_iff.1 hn).1; omega) (by rw [List.getElem?_toArray]; exact cI_get hn) w
def aft (ls : List Nat) : Nat → Nat
 | 0 => 0
 | k + 1 => (fcM ls k + if k = 0 then 0 else ls.count k) % M64'
theorem aft_lt (ls : List Nat) (k : Nat) : aft ls k < 18446744073709551616 := by
 cases k with
 | zero => show 0 < 18446744073709551616; decide
 | succ k => exact Nat.mod_lt _ (by decide)
theorem aft_two (ls : List Nat) (k : Nat) : (aft ls k * 2) % M64' = fcM ls k := by
 cases k with
 | zero => rfl
 | succ k => rw [fcM, aft, Nat.mul_comm]
theorem size_setCells (b : Nat) : ∀ (vs : List Value) (o : Nat) (w : World), (w.setCells b o vs).heap.size = w.heap.size
 | [], o, w => rfl
 | v :: vs, o, w => by rw [World.setCells, size_setCells b vs (o + 1)]; simp
set_option maxHeartbeats 2000000 in
set_option maxRecDepth 100000 in
theorem huffCodes (ls : List Nat) (w : World) (hl : ls.length = 256) (hlt256 : ∀ x ∈ ls, x < 256) :
  Calls Try.prog 14 #[.agg (c8 ls).toArray] w fun e w' => e = .returned (.tuple #[.agg (cells64 (cdsOf ls)).toArray, .int .i64 (cdsE ls : Nat)]) ∧ Below w.heap.size w w' := by
 have hg := ix8 ls .i64
 have hlen : (c8 ls).length = 256 := by rw [c8_length]; exact hl
 have hcm := fun w h => huffComplete ls w h
 have hbk := fun w h => huffNewBook ls w h
 obtain ⟨L, hL⟩ : ∃ L, L = c8 ls := ⟨_, rfl⟩
 rw [← hL] at hg hlen hcm hbk ⊢
 have hi1 : (Try.prog.info? 27).map (·.size) = some L.length := by rw [hlen]; exact info8
 have HG := Lib.hid hg
 have HCM := Lib.hid hcm
 have HBK := Lib.hid hbk
 have HI1 := Lib.hid hi1
 obtain ⟨Z, hZ⟩ : ∃ Z, Z = cells64 (List.replicate 256 0) := ⟨_, rfl⟩
 have hz := zero64
 have hzz : (Array.replicate 256 (Value.int .u64 0)) = Z.toArray := by rw [hZ]; unfold cells64; rw [List.map_replicate]; exact (List.toArray_replicate 256 _).symm
 rw [hzz] at hz
 have hzl : Z.length = 256 := by rw [hZ, c64_length, List.length_replicate]
 have hz1 : Z.toArray.all (·.oneCell') = true := by rw [hZ]; exact c64_one _
 have HZ := Lib.hid hZ
 have HZL := Lib.hid hzl
 have HZ1 := Lib.hid hz1
 have HL := Lib.hid hl
 have HLT := Lib.hid hlt256
 clear hg hL hi1 hcm hbk hZ hzz hzl hz1 hl hlt256
 have l0 := (Lies.made w 27 L.toArray).alloc (.cells Z.toArray 25)
 have l1 := Lies.made (w.alloc (.cells L.toArray 27)) 25 Z.toArray
 rw [show (w.alloc (.cells L.toArray 27)).heap.size = w.heap.size + 1 by simp] at l1
 have hb1 := ((Below.refl w.heap.size w).alloc (Nat.le_refl _) (.cells L.toArray 27)).alloc (by simp) (.cells Z.toArray 25)
 have hsz : ((w.alloc (.cells L.toArray 27)).alloc (.cells Z.toArray 25)).heap.size = w.heap.size + 2 := by simp
 have L0 := Lib.hid l0
 have L1 := Lib.hid l1
 have HB1 := Lib.hid hb1
 have HR0 := Lib.hid (arr_range l0)
 have HSZ := Lib.hid hsz
 have hi2 : (Try.prog.info? 25).map (·.size) = some Z.length := by rw [HZL.out]; exact info64
 have hi3 : (Try.prog.info? 25).map (·.size) = some Z.toArray.size := by rw [List.size_toArray, HZL.out]; exact info64
 have HI2 := Lib.hid hi2
 have HI3 := Lib.hid hi3
 have HTH := Lib.hid (arr_there l1 (n := Z.toArray.size) rfl)
 have HSTO := Lib.hid (arr_store l1 (L := Z) (by simp))
 have HBZ := Lib.hid (below_cellsA (Nat.le_succ w.heap.size) Z 0 _ hb1)
 clear l0 l1 hb1 hsz hi2 hi3
 go_enter Try.func14, Try.ntmps14
 go_wp2_with (refine wpList_load_mid rfl 27 _ rfl w.heap.size 0 rfl L _ HR0.out under8 rfl HI1.out ?_)
 generalize (w.alloc (.cells L.toArray 27)).alloc (.cells Z.toArray 25) = w1 at *
 have hsame : ∀ wr, wr = w1 → wr = w1 := fun _ h => h
 go_loopw [13] (fun c wr => ∃ i : Nat, i ≤ 256 ∧ c = .int .i64 i ∧ Hid (∀ j, j < i → ls.getD j 0 ≤ 56) ∧ wr = w1)
  (fun c _ => 256 - (intOf c).toNat)
 case atStart => exact ⟨0, by omega, rfl, (fun j hj => by omega), rfl⟩
 case round =>
  obtain ⟨i, hi, rfl, hall, rfl⟩ := hrel
  by_cases hlt : i < 256
  ·have hii : (i : Int) < 256 := by omega
   obtain ⟨n, hn⟩ : ∃ n, ls[i]? = some n := ⟨_, List.getElem?_eq_getElem (by rw [HL.out]; exact hlt)⟩
   have hix := HG.out i n hlt hn
   have hgd := getD_of hn
   by_cases hn56 : 56 < n
   ·have e1 : decide ((56 : Int) < (n : Int)) = true := by simp; omega
    have e2 : decide (56 < n) = true := by simpa using hn56
    have hgr : greatB ls = true := List.any_eq_true.2 ⟨n, List.mem_of_getElem? hn, by simpa using hn56⟩
    have hE : cdsE ls = 1 := by unfold cdsE; rw [if_pos hgr]
    have hO : cdsOf ls = List.replicate 256 0 := by unfold cdsOf; rw [hE]; rfl
    have HE := Lib.hid hE
    have HO := Lib.hid hO
    clear hgr hE hO hn hgd hn56
    go_wp2_with (refine wpList_store_mid rfl 25 _ _ rfl (w.heap.size + 1) 0 Z.toArray rfl rfl HTH.out HI3.out HZ1.out ?_)
    refine bodyPost_ret (v := .tuple #[.agg Z.toArray, .int .i64 1]) (results_cell_tmp Try.results14 _ _ (w.heap.size + 1) Z _ rfl (arr_range HSTO.out) under64 rfl HI2.out) rfl ⟨by rw [HE.out, HO.out, ← HZ.out]; rfl, HBZ.out⟩
   ·have e1 : decide ((56 : Int) < (n : Int)) = false := by simp; omega
    have e2 : decide (56 < n) = false := by simpa using hn56
    have hall2 : Hid (∀ j, j < i + 1 → ls.getD j 0 ≤ 56) := fun j hj => by
     by_cases h : j = i
     ·rw [h, hgd]; omega
     ·exact hall.out j (by omega)
    clear hn hgd hn56
    go_wp2_with fail
    go_roundw
    case rel => exact ⟨i + 1, by omega, by go_num, hall2, trivial⟩
    case measure => simp [intOf]; omega
  ·obtain rfl : i = 256 := by omega
   have hok : LOk ls := ⟨HL.out, fun n hn => by
    obtain ⟨j, hj, he⟩ := List.getElem_of_mem hn
    have h1 := hall.out j (by rw [← HL.out]; exact hj)
    rw [getD_of (show ls[j]? = some n by rw [List.getElem?_eq_getElem hj, he])] at h1
    exact h1⟩
   have HOK := Lib.hid hok
   have hgr : greatB ls = false := by
    unfold greatB
    rw [List.any_eq_false]
    intro n hn
    have := hok.2 n hn
    simp; omega
   have HGR := Lib.hid hgr
   clear hok hall hgr
   go_wp2_with (refine wpList_load_mid rfl 27 _ rfl w.heap.size 0 rfl L _ HR0.out under8 rfl HI1.out ?_)
   refine (HCM.out _ HOK.out).mono ?_
   rintro e w2 ⟨rfl, hb2⟩
   have L02 := Lib.hid (L0.out.below hb2 (by rw [HSZ.out]; omega))
   have L12 := Lib.hid (L1.out.below hb2 (by rw [HSZ.out]; omega))
   have HB2 := Lib.hid (HB1.out.trans (hb2.mono (by rw [HSZ.out]; omega)))
   have hz2 : w.heap.size + 2 ≤ w2.heap.size := by have := hb2.size; rw [HSZ.out] at this; exact this
   clear hb2 HTH HSTO HBZ HR0
   by_cases hw : wholeB ls = true
   ·have hE : cdsE ls = 0 := by unfold cdsE; rw [HGR.out, hw]; rfl
    have hO : cdsOf ls = codL ls := by unfold cdsOf; rw [hE]; rfl
    have HE := Lib.hid hE
    have HO := Lib.hid hO
    have HR0 := Lib.hid (arr_range L02.out)
    rw [hw]
    clear hE hO hw
    go_wp2_with (refine wpList_load_mid rfl 27 _ rfl w.heap.size 0 rfl L _ HR0.out under8 rfl HI1.out ?_)
    refine (HBK.out _ HOK.out).mono ?_
    rintro e w3 ⟨v, bs, rfl, hown, hbs, hb3⟩
    have HBS := Lib.hid hbs
    have HOW := Lib.hid hown
    have L13 := Lib.hid (L12.out.below hb3 (by omega))
    have HB3 := Lib.hid (HB2.out.trans (hb3.mono (by omega)))
    have hz3 : w.heap.size + 2 ≤ w3.heap.size := by have := hb3.size; omega
    obtain ⟨A, cp, rfl, hq1, hq2, _⟩ := (SeqS.of_owns hown).form
    unfold maxLen at hq2
    have hC : bs.length ≤ 256 := by rw [hbs.1]; unfold cod; omega
    obtain ⟨C, hCC⟩ : ∃ C, C = bs.length := ⟨_, rfl⟩
    rw [← hCC] at hq1 hC ⊢
    have hown2 := hown
    rw [← hCC] at hown2
    have HOW2 := Lib.hid hown2
    have HCC := Lib.hid hCC
    obtain ⟨T, hT⟩ : ∃ T, T = bkC (cnA ls 256) (.slice A C cp) := ⟨_, rfl⟩
    have hTl : T.length = 58 := by rw [hT, bkC_length (cnA_length ls 256)]
    have hone : T.toArray.all (·.oneCell') = true := by
     rw [hT]
     refine all_oneCell_toArray (fun v hv => ?_)
     unfold bkC at hv
     rcases List.mem_append.1 hv with hv | hv
     ·obtain ⟨i, _, rfl⟩ := List.mem_map.1 hv; rfl
     ·rw [List.mem_singleton.1 hv]; rfl
    rw [← hT]
    have HT := Lib.hid hT
    have HTL := Lib.hid hTl
    obtain ⟨zb, hzb⟩ : ∃ zb : Array Value, zb = Array.replicate 57 (.int .i64 0) ++ #[.slice none 0 0] := ⟨_, rfl⟩
    have hzbk := zeroBk
    rw [← hzb] at hzbk
    have hzbs : zb.size = 58 := by rw [hzb]; simp
    have HZB := Lib.hid hzbs
    have hi4 : (Try.prog.info? 58).map (·.size) = some T.toArray.size := by rw [List.size_toArray, hTl]; exact infoBk
    have HI4 := Lib.hid hi4
    have HONE := Lib.hid hone
    have HTH := Lib.hid (arr_there (Lies.made w3 58 zb) (n := T.toArray.size) (hzbs.trans (by rw [List.size_toArray, hTl])))
    have LBK := Lib.hid (arr_store (Lies.made w3 58 zb) (L := T) (hzbs.trans hTl.symm))
    have hk4 := (Kept.alloc (oneRow w3.heap.size) w3 (.cells zb 58)).trans (kept_cellsH T 0 _ (g := w3.heap.size)) (fun _ _ h => h)
    have L14 := Lib.hid (L13.out.kept hk4 (fun e => by have h1 : w.heap.size + 1 = w3.heap.size := e; omega))
    have HO4 := Lib.hid (owns_kept HOW2.out hk4 (fun q cur _ hl e => by have h1 : q = w3.heap.size := e; have := hl.lt; omega))
    have HB4 := Lib.hid (HB3.out.trans (hk4.below (B := w.heap.size) (by omega) (fun k hk e => by have h1 : k = w3.heap.size := e; omega)))
    have hz4 := size_setCells w3.heap.size T 0 (w3.alloc (.cells zb 58))
    rw [show (w3.alloc (.cells zb 58)).heap.size = w3.heap.size + 1 by simp] at hz4
    clear hown hbs hb3 hown2 hCC hT hTl hone hzb hzbs hi4 hk4 HCM HBK L02 L0 L1 L12 HB1 HB2 HB3 L13 HOW HOW2 HSZ HR0
    have HRB := Lib.hid (show World.rangeAt ((w3.alloc (.cells zb 58)).setCells w3.heap.size 0 T) w3.heap.size 0 (cI (cnA ls 256)) from fun j v hv => by
     rw [Nat.zero_add, LBK.out.cell j, List.getElem?_toArray, HT.out]
     unfold bkC
     rw [List.getElem?_append_left (List.getElem?_eq_some_iff.1 hv).1]
     exact hv)
    have hi5 : (Try.prog.info? 56).map (·.size) = some (cI (cnA ls 256)).length := by rw [cI_length, cnA_length]; exact infoI
    have HI5 := Lib.hid hi5
    clear hi5
    have HRC := Lib.hid (show World.rangeAt (((w3.alloc (.cells zb 58)).setCells w3.heap.size 0 T).alloc (.cells Z.toArray 25)) w3.heap.size 0 (cI (cnA ls 256)) from fun j v hv => by
     have h1 := HRB.out j v hv
     exact (((Below.refl _ _).alloc (Nat.le_refl _) (.cells Z.toArray 25)).cell (p := ⟨w3.heap.size, 0 + j, none⟩) (by rw [hz4]; exact Nat.lt_succ_self _)).trans h1)
    go_wp2_with (first | refine wpList_store_mid rfl 58 _ _ rfl w3.heap.size 0 T.toArray rfl rfl HTH.out HI4.out HONE.out ?_ | refine wpList_load_mid rfl 56 _ rfl w3.heap.size 0 rfl (cI (cnA ls 256)) _ HRC.out underI rfl HI5.out ?_)
    clear HRC HRB HTH
    generalize (w3.alloc (.cells zb 58)).setCells w3.heap.size 0 T = w4 at *
    obtain ⟨gk, hgk⟩ : ∃ gk, gk = w3.heap.size := ⟨_, rfl⟩
    rw [← hgk] at LBK hz4 hz3 ⊢
    have LB5 := Lib.hid (LBK.out.alloc (.cells Z.toArray 25))
    have L15 := Lib.hid (L14.out.alloc (.cells Z.toArray 25))
    have HO5 := Lib.hid (HO4.out.alloc (.cells Z.toArray 25))
    have HB5 := Lib.hid (HB4.out.alloc (by omega) (.cells Z.toArray 25))
    have LC5 := Lib.hid (Lies.made w4 25 Z.toArray)
    have hz5 : gk + 2 ≤ (w4.alloc (.cells Z.toArray 25)).heap.size := by simp; omega
    rw [hz4] at LC5
    obtain ⟨gc, hgc⟩ : ∃ gc, gc = gk + 1 := ⟨_, rfl⟩
    rw [← hgc] at LC5 ⊢
    have hgc1 : gk < gc := by omega
    clear hgc
    clear hgk hz4 LBK L14 HO4 HB4
    generalize w4.alloc (.cells Z.toArray 25) = w5 at *
    go_loopw [8, 9, 28] (fun co nx ix wr => ∃ k : Nat, k ≤ 57 ∧ ix = .int .i64 k ∧ nx = .int .i64 (pre ls k : Nat) ∧ co = .int .u64 (aft ls k : Nat) ∧ Lies wr gc 25 (cells64 (cdP ls k 0)).toArray ∧ Kept (oneRow gc) w5 wr)
     (fun _ _ ix _ => 57 - (intOf ix).toNat)
    case atStart => exact ⟨0, by omega, rfl, rfl, rfl, by rw [cdP_start, ← HZ.out]; exact LC5.out, Kept.refl _ _⟩
    case round =>
     obtain ⟨k, hk, rfl, rfl, rfl, lc, hkk⟩ := hrel
     have LC := Lib.hid lc
     have HK := Lib.hid hkk
     clear lc hkk
     by_cases hlt : k < 57
     ·have hki : (k : Int) < 57 := by omega
      obtain ⟨ck, hck⟩ : ∃ ck, ck = (if k = 0 then 0 else ls.count k) := ⟨_, rfl⟩
      have hcn : (cnA ls 256)[k]? = some ck := by
       have := mapR_get (n := 57) (fun k => if k = 0 then 0 else ct ls k 256) (i := k) hlt
       rw [ct_all ls k 256 (by rw [HL.out]; exact Nat.le_refl _), ← hck] at this
       exact this
      have hix := ixI (cnA ls 256) (cnA_length ls 256) .i64 k ck hcn
      have hckl : ck ≤ 256 := by
       rw [hck]
       split
       ·omega
       ·exact ls_cnt ls HL.out k
      have hpl := pre_le_all HOK.out (k := k) (by omega)
      have hpn := pre_le_all HOK.out (k := k + 1) (by omega)
      have hps : pre ls (k + 1) = pre ls k + ck := by rw [hck]; rfl
      have hal := aft_lt ls k
      have hat := aft_two ls k
      have haf : aft ls (k + 1) = (fcM ls k + ck) % M64' := by rw [hck]; rfl
      have hfl := fcM_lt ls k
      have hcx := cdP_next ls k HL.out
      rw [← hck] at hcx
      unfold M64' at hat haf hfl
      obtain ⟨F, hF⟩ : ∃ F, F = fcM ls k := ⟨_, rfl⟩
      rw [← hF] at hat haf hfl
      have hsh : IntKind.u64.wrap ((aft ls k : Nat) * (2 : Int)) = (F : Int) := by rw [IntKind.wrap_u64]; omega
      have HPS := Lib.hid hps
      have HAF := Lib.hid haf
      have HCX := Lib.hid hcx
      have HF := Lib.hid hF
      have HCK := Lib.hid hck
      clear hck hcn hps hat haf hcx hF
      generalize aft ls k = a0 at *
      obtain ⟨P, hP⟩ : ∃ P, P = pre ls k := ⟨_, rfl⟩
      rw [← hP] at hpl ⊢
      have HP := Lib.hid hP
      clear hP
      go_wp2_with fail
      go_loopw [8, 9, 34] (fun co nx ix wq => ∃ r : Nat, r ≤ ck ∧ ix = .int .i64 r ∧ nx = .int .i64 ((P + r : Nat) : Int) ∧ co = .int .u64 (((F + r) % 18446744073709551616 : Nat) : Int) ∧ Lies wq gc 25 (cells64 (cdP ls k r)).toArray ∧ Kept (oneRow gc) w5 wq)
       (fun _ _ ix _ => ck - (intOf ix).toNat)
      case atStart => exact ⟨0, by omega, rfl, rfl, by rw [Nat.add_zero, Nat.mod_eq_of_lt hfl], LC.out, HK.out⟩
      case round =>
       clear LC HK
       obtain ⟨r, hr, rfl, rfl, rfl, lc, hkk⟩ := hrel
       have LC := Lib.hid lc
       have HK := Lib.hid hkk
       have lb := LB5.out.kept hkk (fun e => by have h1 : gk = gc := e; omega)
       have LB := Lib.hid lb
       have ho := owns_kept HO5.out hkk (fun q cur _ hl e => by
        have h1 : q = gc := e
        subst h1
        exact absurd (hl.same LC5.out).1 (by decide))
       have HO := Lib.hid ho
       clear lc hkk lb ho
       obtain ⟨X, hX⟩ : ∃ X, X = (F + r) % 18446744073709551616 := ⟨_, rfl⟩
       have hXl : X < 18446744073709551616 := by rw [hX]; exact Nat.mod_lt _ (by decide)
       have hX1 : IntKind.u64.wrap ((X : Int) + 1) = (((F + (r + 1)) % 18446744073709551616 : Nat) : Int) := by rw [IntKind.wrap_u64, hX]; omega
       rw [← hX]
       obtain ⟨Y, hY⟩ : ∃ Y, Y = (F + (r + 1)) % 18446744073709551616 := ⟨_, rfl⟩
       rw [← hY] at hX1
       have HX := Lib.hid hX
       have HY := Lib.hid hY
       clear hX hY
       by_cases hlr : r < ck
       ·have hri : (r : Int) < (ck : Int) := by omega
        have hk0 : 0 < k := by
         rcases Nat.eq_zero_or_pos k with h | h
         ·have := HCK.out; rw [if_pos h] at this; omega
         ·exact h
        have hck2 : ck = ls.count k := by have := HCK.out; rwa [if_neg (by omega)] at this
        obtain ⟨i, hi256, hli, hct⟩ := ct_nth ls k 256 r (by rw [ct_all ls k 256 (by rw [HL.out]; exact Nat.le_refl _), ← hck2]; exact hlr)
        have hbi := HBS.out.2 i k hi256 hli hk0
        rw [hct, ← HP.out] at hbi
        have hPr : P + r < C := by rw [HCC.out]; exact (List.getElem?_eq_some_iff.1 hbi).1
        obtain ⟨p3, cp5, hv3, hBp, _, _, _⟩ := owns_openS HO.out (by omega)
        have hv4 : A = some ⟨p3, 0, none⟩ := by
         simp only [Value.slice.injEq] at hv3
         exact hv3.1
        subst hv4
        have cb := owns_cell HO.out (c8_get hbi)
        have c57 : wr.cell? ⟨gk, 57, none⟩ = some (.slice (some ⟨p3, 0, none⟩) C cp) := (LB.out.cell 57).trans (by rw [List.getElem?_toArray, HT.out]; exact bkC_last (cnA_length ls 256))
        obtain ⟨z, hz⟩ : ∃ z, (cdP ls k r)[i]? = some z := ⟨_, List.getElem?_eq_getElem (by rw [cdP_length]; exact hi256)⟩
        have cz : wr.cell? ⟨gc, i, none⟩ = some (.int .u64 (z : Int)) := (LC.out.cell i).trans (c64_get hz)
        have fz := LC.out.free i
        have hput := LC.out.put i (.int .u64 (X : Int))
        rw [c64_set, HX.out, HF.out] at hput
        have hstep := cdP_step (ls := ls) HL.out hk0 hli hct
        unfold M64' at hstep
        rw [hstep, ← HF.out, ← HX.out] at hput
        have HPUT := Lib.hid hput
        have HKP := Lib.hid (HK.out.trans (Kept.put wr gc i (.int .u64 (X : Int))) (fun _ _ h => h))
        have hii : (i : Int) < 256 := by omega
        have hPi : (P : Int) + (r : Int) < (C : Int) := by omega
        clear hput hstep hz hbi hli hct hv3 hck2
        go_wp2_with fail
        go_roundw
        case rel => exact ⟨r + 1, by omega, by go_num, by go_num, by rw [← HY.out], HPUT.out, HKP.out⟩
        case measure => simp [intOf]; omega
       ·obtain rfl : r = ck := by omega
        have HXA : Hid (X = aft ls (k + 1)) := by show _ = _; rw [HX.out, HAF.out]
        clear hX1 hXl HY HX hlr hr
        go_wp2_with fail
        exact ⟨⟨k + 1, by omega, by go_num, by rw [HPS.out, HP.out], by rw [HXA.out], by rw [← HCX.out]; exact LC.out, HK.out⟩, by simp [intOf]; omega⟩
     ·obtain rfl : k = 57 := by omega
      have lc := LC.out
      rw [cdP_end HOK.out.2 HL.out, ← HO.out] at lc
      obtain ⟨U, hU⟩ : ∃ U, U = cells64 (cdsOf ls) := ⟨_, rfl⟩
      have hUl : U.length = 256 := by rw [hU, c64_length, HO.out, codL_length]
      have hU1 : U.toArray.all (·.oneCell') = true := by rw [hU]; exact c64_one _
      rw [← hU] at lc
      have HU := Lib.hid hU
      have l1 := L15.out.kept HK.out (fun e => by have h1 : w.heap.size + 1 = gc := e; omega)
      have hr := Lib.hid (arr_range lc)
      have ht := Lib.hid (arr_there l1 (n := U.toArray.size) (by simp [hUl, HZL.out]))
      have hst := Lib.hid (arr_store l1 (L := U) (by simp [hUl, HZL.out]))
      have hi1 : (Try.prog.info? 25).map (·.size) = some U.length := by rw [hUl]; exact info64
      have hi2 : (Try.prog.info? 25).map (·.size) = some U.toArray.size := by rw [List.size_toArray, hUl]; exact info64
      have HJ2 := Lib.hid hi1
      have HJ3 := Lib.hid hi2
      have HU1 := Lib.hid hU1
      have hbw := HB5.out.trans (HK.out.below (B := w.heap.size) (by omega) (fun k hk e => by have h1 : k = gc := e; omega))
      have hbz := Lib.hid (below_cellsA (Nat.le_succ w.heap.size) U 0 wr hbw)
      clear hU hU1 hi1 hi2 lc l1 hbw
      go_wp2_with (first | refine wpList_load_mid rfl 25 _ rfl gc 0 rfl U _ hr.out under64 rfl HJ2.out ?_ | refine wpList_store_mid rfl 25 _ _ rfl (w.heap.size + 1) 0 U.toArray rfl rfl ht.out HJ3.out HU1.out ?_)
      refine bodyPost_ret (v := .tuple #[.agg U.toArray, .int .i64 0]) (results_cell_tmp Try.results14 _ _ (w.heap.size + 1) U _ rfl (arr_range hst.out) under64 rfl HJ2.out) rfl ⟨by rw [HE.out, HU.out]; rfl, hbz.out⟩
   ·have hw2 : wholeB ls = false := by simpa using hw
    have hE : cdsE ls = 3 := by unfold cdsE; rw [HGR.out, hw2]; rfl
    have hO : cdsOf ls = List.replicate 256 0 := by unfold cdsOf; rw [hE]; rfl
    have HE := Lib.hid hE
    have HO := Lib.hid hO
    have HTH := Lib.hid (arr_there L12.out (n := Z.toArray.size) rfl)
    have HSTO := Lib.hid (arr_store L12.out (L := Z) (by simp))
    have HBZ := Lib.hid (below_cellsA (Nat.le_succ w.heap.size) Z 0 _ HB2.out)
    rw [hw2]
    clear hE hO hw hw2
    go_wp2_with (refine wpList_store_mid rfl 25 _ _ rfl (w.heap.size + 1) 0 Z.toArray rfl rfl HTH.out HI3.out HZ1.out ?_)
    refine bodyPost_ret (v := .tuple #[.agg Z.toArray, .int .i64 3]) (results_cell_tmp Try.results14 _ _ (w.heap.size + 1) Z _ rfl (arr_range HSTO.out) under64 rfl HI2.out) rfl ⟨by rw [HE.out, HO.out, ← HZ.out]; rfl, HBZ.out⟩
def bitsN (n : Nat) : Nat → List Bool
 | 0 => []
 | c + 1 => decide (n / 2 ^ c % 2 = 1) :: bitsN n c
theorem bitsN_length (n c : Nat) : (bitsN n c).length = c := by induction c with
 | zero => rfl
 | succ c ih => simp [bitsN, ih]
def numB (l : List Bool) : Nat := l.foldl (fun n b => 2 * n + b.toNat) 0
theorem numB_fold (l : List Bool) : ∀ n, l.foldl (fun n b => 2 * n + b.toNat) n = n * 2 ^ l.length + numB l := by
 induction l with
 | nil => intro n; simp [numB]
 | cons b l ih =>
  intro n
  have e : numB (b :: l) = (2 * 0 + b.toNat) * 2 ^ l.length + numB l := by
   show List.foldl _ 0 (b :: l) = _
   rw [List.foldl_cons, ih]
  rw [List.foldl_cons, ih, e]
  simp only [List.length_cons, Nat.pow_succ, Nat.mul_zero, Nat.zero_add, Nat.add_mul]
  rw [show 2 * n * 2 ^ l.length = n * (2 ^ l.length * 2) by ac_rfl, Nat.add_assoc]
theorem numB_snoc (l : List Bool) (b : Bool) : numB (l ++ [b]) = 2 * numB l + b.toNat := by simp [numB]
theorem numB_append (l m : List Bool) : numB (l ++ m) = numB l * 2 ^ m.length + numB m := by
 rw [numB, List.foldl_append, numB_fold]; rfl
theorem numB_cons (b : Bool) (l : List Bool) : numB (b :: l) = b.toNat * 2 ^ l.length + numB l := numB_append [b] l |>.trans (by simp [numB])
theorem numB_lt (l : List Bool) : numB l < 2 ^ l.length := by
 induction l with
 | nil => decide
 | cons b l ih =>
  rw [numB_cons, List.length_cons, Nat.pow_succ]
  cases b <;> simp <;> omega
def bitD (l : List Bool) (m : Nat) : Nat := (l.getD m false).toNat
theorem bitD_snoc (l : List Bool) (b : Bool) (m : Nat) : bitD (l ++ [b]) m = if m = l.length then b.toNat else bitD l m := by
 unfold bitD
 simp only [List.getD_eq_getElem?_getD]
 by_cases h : m = l.length
 ·subst h; simp
 ·rw [if_neg h]
  rcases Nat.lt_or_ge m l.length with h1 | h1
  ·rw [List.getElem?_append_left h1]
  ·rw [List.getElem?_eq_none (by simp; omega), List.getElem?_eq_none h1]
theorem bitD_out (l : List Bool) (m : Nat) (h : l.length ≤ m) : bitD l m = 0 := by
 unfold bitD; rw [List.getD_eq_getElem?_getD, List.getElem?_eq_none h]; rfl
theorem bitD_le (l : List Bool) (m : Nat) : bitD l m ≤ 1 := by unfold bitD; cases l.getD m false <;> simp
def byteN (l : List Bool) (j : Nat) : Nat :=
 bitD l (8 * j) * 128 + bitD l (8 * j + 1) * 64 + bitD l (8 * j + 2) * 32 + bitD l (8 * j + 3) * 16 + bitD l (8 * j + 4) * 8 + bitD l (8 * j + 5) * 4 + bitD l (8 * j + 6) * 2 + bitD l (8 * j + 7)
theorem byteN_lt (l : List Bool) (j : Nat) : byteN l j < 256 := by
 unfold byteN
 have := bitD_le l (8 * j); have := bitD_le l (8 * j + 1); have := bitD_le l (8 * j + 2); have := bitD_le l (8 * j + 3)
 have := bitD_le l (8 * j + 4); have := bitD_le l (8 * j + 5); have := bitD_le l (8 * j + 6); have := bitD_le l (8 * j + 7)
 omega
theorem byteN_out (l : List Bool) (j : Nat) (h : l.length ≤ 8 * j) : byteN l j = 0 := by
 unfold byteN
 rw [bitD_out l (8 * j) (by omega), bitD_out l (8 * j + 1) (by omega), bitD_out l (8 * j + 2) (by omega), bitD_out l (8 * j + 3) (by omega), bitD_out l (8 * j + 4) (by omega), bitD_out l (8 * j + 5) (by omega), bitD_out l (8 * j + 6) (by omega), bitD_out l (8 * j + 7) (by omega)]
theorem byteN_far (l : List Bool) (b : Bool) (j : Nat) (h : j ≠ l.length / 8) : byteN (l ++ [b]) j = byteN l j := by
 unfold byteN
 simp only [bitD_snoc]
 rw [if_neg (by omega), if_neg (by omega), if_neg (by omega), if_neg (by omega), if_neg (by omega), if_neg (by omega), if_neg (by omega), if_neg (by omega)]
theorem byteN_near (l : List Bool) (b : Bool) : byteN (l ++ [b]) (l.length / 8) = byteN l (l.length / 8) + b.toNat * 2 ^ (7 - l.length % 8) ∧ ∃ m, byteN l (l.length / 8) = m * 2 ^ (8 - l.length % 8) := by
 obtain ⟨q, r, hq, hr⟩ : ∃ q r, l.length = 8 * q + r ∧ r < 8 := ⟨l.length / 8, l.length % 8, by omega, by omega⟩
 have hd : l.length / 8 = q := by omega
 have hm : l.length % 8 = r := by omega
 rw [hd, hm]
 unfold byteN
 simp only [bitD_snoc, hq]
 have o : ∀ k, r ≤ k → bitD l (8 * q + k) = 0 := fun k hk => bitD_out l _ (by omega)
 have o0 : r ≤ 0 → bitD l (8 * q) = 0 := fun hk => bitD_out l _ (by omega)
 rcases (show r = 0 ∨ r = 1 ∨ r = 2 ∨ r = 3 ∨ r = 4 ∨ r = 5 ∨ r = 6 ∨ r = 7 by omega) with rfl | rfl | rfl | rfl | rfl | rfl | rfl | rfl
 ·rw [o0 (by omega), o 1 (by omega), o 2 (by omega), o 3 (by omega), o 4 (by omega), o 5 (by omega), o 6 (by omega), o 7 (by omega)]
  exact ⟨by simp, 0, by simp⟩
 ·rw [o 1 (by omega), o 2 (by omega), o 3 (by omega), o 4 (by omega), o 5 (by omega), o 6 (by omega), o 7 (by omega)]
  exact ⟨by simp, bitD l (8 * q), by simp⟩
 ·rw [o 2 (by omega), o 3 (by omega), o 4 (by omega), o 5 (by omega), o 6 (by omega), o 7 (by omega)]
  exact ⟨by simp, bitD l (8 * q) * 2 + bitD l (8 * q + 1), by omega⟩
 ·rw [o 3 (by omega), o 4 (by omega), o 5 (by omega), o 6 (by omega), o 7 (by omega)]
  exact ⟨by simp, bitD l (8 * q) * 4 + bitD l (8 * q + 1) * 2 + bitD l (8 * q + 2), by omega⟩
 ·rw [o 4 (by omega), o 5 (by omega), o 6 (by omega), o 7 (by omega)]
  exact ⟨by simp, bitD l (8 * q) * 8 + bitD l (8 * q + 1) * 4 + bitD l (8 * q + 2) * 2 + bitD l (8 * q + 3), by omega⟩
 ·rw [o 5 (by omega), o 6 (by omega), o 7 (by omega)]
  exact ⟨by simp, bitD l (8 * q) * 16 + bitD l (8 * q + 1) * 8 + bitD l (8 * q + 2) * 4 + bitD l (8 * q + 3) * 2 + bitD l (8 * q + 4), by omega⟩
 ·rw [o 6 (by omega), o 7 (by omega)]
  exact ⟨by simp, bitD l (8 * q) * 32 + bitD l (8 * q + 1) * 16 + bitD l (8 * q + 2) * 8 + bitD l (8 * q + 3) * 4 + bitD l (8 * q + 4) * 2 + bitD l (8 * q + 5), by omega⟩
 ·rw [o 7 (by omega)]
  exact ⟨by simp, bitD l (8 * q) * 64 + bitD l (8 * q + 1) * 32 + bitD l (8 * q + 2) * 16 + bitD l (8 * q + 3) * 8 + bitD l (8 * q + 4) * 4 + bitD l (8 * q + 5) * 2 + bitD l (8 * q + 6), by omega⟩
def packB (l : List Bool) : List UInt8 := (List.range ((l.length + 7) / 8)).map fun j => UInt8.ofNat (byteN l j)
theorem packB_length (l : List Bool) : (packB l).length = (l.length + 7) / 8 := by simp [packB]
theorem byte_val (l : List Bool) (j : Nat) : (UInt8.ofNat (byteN l j)).toNat = byteN l j := by
 rw [UInt8.toNat_ofNat']; have := byteN_lt l j; omega
theorem packB_get (l : List Bool) (j : Nat) (h : j < (l.length + 7) / 8) : (packB l)[j]? = some (UInt8.ofNat (byteN l j)) := by simp [packB, h]
theorem packB_same (l : List Bool) (b : Bool) (h : l.length % 8 ≠ 0) : packB (l ++ [b]) = (packB l).set (l.length / 8) (UInt8.ofNat (byteN (l ++ [b]) (l.length / 8))) := by
 apply List.ext_getElem?
 intro j
 have hl : (l ++ [b]).length = l.length + 1 := by simp
 rw [List.getElem?_set]
 by_cases hj : j < (l.length + 7) / 8
 ·rw [packB_get _ j (by rw [hl]; omega)]
  by_cases e : l.length / 8 = j
  ·subst e; rw [if_pos rfl, if_pos (by rw [packB_length]; exact hj)]
  ·rw [if_neg e, packB_get _ j hj, byteN_far l b j (by omega)]
 ·rw [List.getElem?_eq_none (by rw [packB_length, hl]; omega), if_neg (by omega), List.getElem?_eq_none (by rw [packB_length]; omega)]
theorem packB_more (l : List Bool) (b : Bool) (h : l.length % 8 = 0) : packB (l ++ [b]) = packB l ++ [UInt8.ofNat (byteN (l ++ [b]) (l.length / 8))] := by
 have hl : (l ++ [b]).length = l.length + 1 := by simp
 have e : ((l ++ [b]).length + 7) / 8 = (l.length + 7) / 8 + 1 := by rw [hl]; omega
 unfold packB
 rw [e, List.range_succ, List.map_append]
 have e2 : (l.length + 7) / 8 = l.length / 8 := by omega
 rw [e2]
 congr 1
 refine List.map_congr_left fun j hj => ?_
 rw [byteN_far l b j (by have := List.mem_range.1 hj; omega)]
theorem packB_or (l : List Bool) (b : Bool) : bits .or .u8 (byteN l (l.length / 8) : Nat) (b.toNat * 2 ^ (7 - l.length % 8) : Nat) = (byteN (l ++ [b]) (l.length / 8) : Nat) := by
 obtain ⟨h1, m, h2⟩ := byteN_near l b
 have h3 := byteN_lt l (l.length / 8)
 have h4 := byteN_lt (l ++ [b]) (l.length / 8)
 have hr : l.length % 8 < 8 := Nat.mod_lt _ (by decide)
 have hp : b.toNat * 2 ^ (7 - l.length % 8) < 2 ^ (8 - l.length % 8) := by
  rw [show 8 - l.length % 8 = (7 - l.length % 8) + 1 by omega, Nat.pow_succ]
  have := Nat.two_pow_pos (7 - l.length % 8)
  cases b <;> simp <;> omega
 have h5 : b.toNat * 2 ^ (7 - l.length % 8) < 256 := by omega
 rw [u8_or_nat _ _ h3 h5, h1, h2]
 have := or_add (a := b.toNat * 2 ^ (7 - l.length % 8)) (b := m) (k := 8 - l.length % 8) hp
 rw [Nat.or_comm, this, Nat.add_comm]
def BwAt (w : World) (B g : Nat) (l : List Bool) : Prop := ∃ v, Lies w g 62 #[v, .int .i64 l.length] ∧ w.ownsRow B 5 1 v (packB l).length (cellsB (packB l))
def bwRows (w : World) (B g : Nat) : Nat → Prop := fun k => k = g ∨ (B ≤ k ∧ ∃ cur, Lies w k 5 cur)
theorem row_lies {w : World} {B : Nat} {e : TypeId} {n cap : Nat} {r : Nat} {xs : List Value} (h : w.ownsRow B e 1 (.slice (some ⟨r, 0, none⟩) n cap) n xs) : ∃ cur, Lies w r e cur := by
 rcases owns_row h with ⟨h1, _⟩ | ⟨r', _, cur, h1, _, h2, _⟩
 ·cases h1
 ·simp only [Value.slice.injEq, Option.some.injEq, Addr.mk.injEq] at h1
  obtain ⟨⟨rfl, _⟩, _⟩ := h1
  exact ⟨cur, h2⟩
theorem lies_back {S : Nat → Prop} {w w' : World} {i : Nat} {t : TypeId} {cs : Array Value} (k : Kept S w w') (h : Lies w' i t cs) (hi : i < w.heap.size) (hn : ¬ S i) : Lies w i t cs := (k.at_ i hi hn).symm.trans h
theorem bw_trans {w0 w1 w2 : World} {B g : Nat} (h : Kept (bwRows w0 B g) w0 w1) (k : Kept (bwRows w1 B g) w1 w2) : Kept (bwRows w0 B g) w0 w2 :=
 h.trans k (fun i hi hs => by
  by_cases hn : bwRows w0 B g i
  ·exact hn
  ·rcases hs with rfl | ⟨h1, cur, h2⟩
   ·exact absurd (.inl rfl) hn
   ·exact .inr ⟨h1, cur, lies_back h h2 hi hn⟩)
set_option maxHeartbeats 1000000 in
set_option maxRecDepth 100000 in
theorem bitsBit (B g : Nat) (l : List Bool) (b : Bool) (w : World) (h : BwAt w B g l) (hB : B ≤ w.heap.size) (hl : l.length ≤ 1099511627776) :
  Calls Try.prog 50 #[.pointer (some ⟨g, 0, none⟩), .int .u8 (b.toNat : Nat)] w fun e w' => e = .returned (.tuple #[]) ∧ BwAt w' B g (l ++ [b]) ∧ Kept (bwRows w B g) w w' := by
 obtain ⟨v, hli, ho⟩ := h
 have hq : (l.length : Int) / 8 = ((l.length / 8 : Nat) : Int) := by omega
 have hr : (l.length : Int) % 8 = ((l.length % 8 : Nat) : Int) := by omega
 have hpl := packB_length l
 have hor := packB_or l b
 have hp256 : b.toNat * 2 ^ (7 - l.length % 8) < 256 := by
  have : 2 ^ (7 - l.length % 8) ≤ 2 ^ 7 := Nat.pow_le_pow_right (by decide) (by omega)
  cases b <;> simp <;> omega
 have hor2 : bits .or .u8 ((byteN l (l.length / 8) : Nat) : Int) ((b.toNat : Int) * 2 ^ (7 - l.length % 8) % 256) = (byteN (l ++ [b]) (l.length / 8) : Nat) := by
  rw [← hor]
  congr 1
  have e : (b.toNat : Int) * 2 ^ (7 - l.length % 8) = ((b.toNat * 2 ^ (7 - l.length % 8) : Nat) : Int) := by rw [Int.natCast_mul, Int.natCast_pow]; rfl
  rw [e]; omega
 have HOR2 := Lib.hid hor2
 have hri : (0 : Int) ≤ 7 - ((l.length % 8 : Nat) : Int) := by omega
 have hr8 : (l.length % 8 : Nat) < 8 := by omega
 have hbv := byteN_lt (l ++ [b]) (l.length / 8)
 have hsame := packB_same l b
 have hmore := packB_more l b
 have hget := packB_get l (l.length / 8)
 have hout := byteN_out l (l.length / 8)
 clear hor hor2 hp256
 by_cases h8 : l.length % 8 = 0
 ·have e0 : (((l.length % 8 : Nat) : Int) == 0) = true := by rw [beq_iff_eq]; omega
  have hPq : (packB l ++ [0])[l.length / 8]? = some (UInt8.ofNat (byteN l (l.length / 8))) := by
   rw [List.getElem?_append_right (by rw [hpl]; omega), hpl, show l.length / 8 - (l.length + 7) / 8 = 0 by omega, hout (by omega)]; rfl
  have hPs : (packB l ++ [0]).set (l.length / 8) (UInt8.ofNat (byteN (l ++ [b]) (l.length / 8))) = packB (l ++ [b]) := by
   rw [hmore h8, List.set_append_right _ _ (by rw [hpl]; omega), hpl, show l.length / 8 - (l.length + 7) / 8 = 0 by omega]; rfl
  have hpl2 : (packB (l ++ [b])).length = (packB l).length + 1 := by rw [← hPs]; simp
  have HPL2 := Lib.hid hpl2
  have hnl : (packB l).length ≤ 1099511627776 := by rw [hpl]; omega
  have hqn : l.length / 8 < (packB l).length + 1 := by rw [hpl]; omega
  have hqi : ((l.length / 8 : Nat) : Int) < ((packB l).length : Int) + 1 := by rw [hpl]; omega
  have HO := Lib.hid ho
  have HLI := Lib.hid hli
  have hne := own_ne ho hli (by decide)
  have c0 := hli.cell 0
  have c1 := hli.cell 1
  simp at c0 c1
  clear hsame hmore hget hout hpl h8 hpl2 ho hli
  generalize l.length / 8 = q at *
  generalize l.length % 8 = r8 at *
  go_enter Try.func50, Try.ntmps50
  go_wp2_with (at_builtin; refine append_one w (.int .u8 0) rfl (.tmp 14) (.tmp 15) 30 rfl B 5 _ _ Try.underlying30 Try.infoU8 rfl rfl _ _ _ rfl HO.out rfl (by unfold maxLen; omega) (by omega) hB ?_)
  intro v1 w1 ho1 hb1 hgr
  have ho1 : w1.ownsRow B 5 1 v1 ((packB l).length + 1) (cellsB (packB l ++ [0])) := by rw [cellsB_append]; exact ho1
  obtain ⟨r, cap, hv, hr1, hr2, hc1, hc2⟩ := owns_openS ho1 (by omega)
  rw [hv] at ho1
  rw [hv]
  have hl1 := (HLI.out.alloc (.cells #[Value.int .u8 0] 5)).kept (Kept.of_grown hgr) hne
  have g0 := hl1.cell 0
  have gf := hl1.free 0
  simp at g0
  have hli := hl1.put 0 (.slice (some ⟨r, 0, none⟩) ((packB l).length + 1) cap)
  rw [show (#[v, Value.int .i64 (l.length : Int)].setIfInBounds 0 (.slice (some ⟨r, 0, none⟩) ((packB l).length + 1) cap)) = #[Value.slice (some ⟨r, 0, none⟩) ((packB l).length + 1) cap, Value.int .i64 (l.length : Int)] from rfl] at hli
  have ho := owns_put ho1 hl1 (by decide) 0 (.slice (some ⟨r, 0, none⟩) ((packB l).length + 1) cap)
  have hvS : ∀ i, v.ownBlock = some i → bwRows w B g i := fun i hv => by
   rcases owns_row HO.out with ⟨rfl, _⟩ | ⟨r', _, cur, rfl, h2, h3, _⟩
   ·cases hv
   ·obtain rfl : r' = i := by simpa [Value.ownBlock] using hv
    exact .inr ⟨h2, cur, h3⟩
  have hk0 : Kept (bwRows w B g) w w1 := (kept_grown hgr).mono (fun i hi hv => hvS i hv)
  have hrS : ∀ i, i < w.heap.size → i = r → bwRows w B g i := fun i hi e => by
   subst e
   by_cases hn : bwRows w B g i
   ·exact hn
   ·obtain ⟨cur, hc⟩ := row_lies ho1
    exact .inr ⟨hr1, cur, lies_back hk0 hc hi hn⟩
  have hk := hk0.trans (Kept.put w1 g 0 (.slice (some ⟨r, 0, none⟩) ((packB l).length + 1) cap)) (fun i hi (e : i = g) => .inl e)
  unfold maxLen at hc2
  have hqn2 : q < (packB l).length + 1 := hqn
  clear hv hl1 ho1 hb1 hgr hk0 HO HLI hne c0 c1 hB hvS
  have hcl := owns_cell ho (k := q) (u := .int .u8 ((byteN l q : Nat) : Int)) (by unfold cellsB; rw [List.getElem?_map, hPq]; simp only [Option.map_some]; rw [byte_val])
  have hfr := owns_free ho hqn
  have hset := owns_set (u := .int .u8 ((byteN (l ++ [b]) q : Nat) : Int)) ho hqn
  rw [cellsB_set _ _ _ hbv, hPs] at hset
  have hrg : r ≠ g := fun e => by
   subst e
   rcases owns_row ho with ⟨h1, _⟩ | ⟨r', _, _, h1, _, h2, _⟩
   ·cases h1
   ·simp only [Value.slice.injEq, Option.some.injEq, Addr.mk.injEq] at h1
    obtain ⟨⟨rfl, _⟩, _⟩ := h1
    exact absurd (h2.same hli).1 (by decide)
  have c0 := hli.cell 0
  have c1 := hli.cell 1
  have f1 := hli.free 1
  simp at c0 c1
  have hliA := (Lies.far hli (p := ⟨r, q, none⟩) (fun e => hrg e.symm) (.int .u8 ((byteN (l ++ [b]) q : Nat) : Int))).drew
  have hb1 := (hliA.cell 1).trans (show _ = some (Value.int .i64 (l.length : Int)) from rfl)
  have hf1 := hliA.free 1
  have hll : (((l ++ [b]).length : Nat) : Int) = (l.length : Int) + 1 := by simp
  have hliB := hliA.put 1 (.int .i64 ((l.length : Int) + 1))
  rw [show (#[Value.slice (some ⟨r, 0, none⟩) (((packB l).length + 1)) cap, Value.int .i64 (l.length : Int)].setIfInBounds 1 (.int .i64 ((l.length : Int) + 1))) = #[Value.slice (some ⟨r, 0, none⟩) (((packB l).length + 1)) cap, Value.int .i64 ((l.length : Int) + 1)] from rfl] at hliB
  have hliC : Hid (((l ++ [b]).length : Int) = (l.length : Int) + 1) := hll
  have hset' := owns_drew hset
  have hoB := owns_put hset' hliA (by decide) 1 (.int .i64 ((l.length : Int) + 1))
  have hkB := ((hk.trans (Kept.put _ r q (.int .u8 ((byteN (l ++ [b]) q : Nat) : Int))) (fun i hi e => hrS i hi e)).trans (Kept.drew noRow _) (fun _ _ h => h.elim)).trans (Kept.put _ g 1 (.int .i64 ((l.length : Int) + 1))) (fun i hi (e : i = g) => .inl e)
  have HLB := Lib.hid hliB
  have HOB := Lib.hid hoB
  have HKB := Lib.hid hkB
  clear hli ho hset hset' hliA hliB hoB hkB hk hPq hPs hll
  go_wp2
  go_region
  rw [HOR2.out]
  generalize World.drew (World.setCell _ ⟨r, q, none⟩ (.int .u8 ((byteN (l ++ [b]) q : Nat) : Int))) = w1 at *
  go_wp2
  go_end0
  exact ⟨rfl, ⟨_, by rw [hliC.out]; exact HLB.out, by rw [HPL2.out]; exact HOB.out⟩, HKB.out⟩
 ·have e0 : (((l.length % 8 : Nat) : Int) == 0) = false := by rw [beq_eq_false_iff_ne]; omega
  have hPq := hget (by omega)
  have hPs := (hsame h8).symm
  have hqn : l.length / 8 < (packB l).length := by rw [hpl]; omega
  have hpl2 : (packB (l ++ [b])).length = (packB l).length := by rw [← hPs]; simp
  have HPL2 := Lib.hid hpl2
  obtain ⟨r, cap, hv, hr1, hr2, hc1, hc2⟩ := owns_openS ho (by omega)
  rw [hv] at ho hli
  have hk : Kept (bwRows w B g) w w := Kept.refl _ _
  have hrS : ∀ i, i < w.heap.size → i = r → bwRows w B g i := fun i _ e => by subst e; exact .inr ⟨hr1, row_lies ho⟩
  have hqi : ((l.length / 8 : Nat) : Int) < ((packB l).length : Int) := by omega
  unfold maxLen at hc2
  clear hsame hmore hget hout hpl h8 hpl2
  generalize l.length / 8 = q at *
  generalize l.length % 8 = r8 at *
  go_enter Try.func50, Try.ntmps50
  have hcl := owns_cell ho (k := q) (u := .int .u8 ((byteN l q : Nat) : Int)) (by unfold cellsB; rw [List.getElem?_map, hPq]; simp only [Option.map_some]; rw [byte_val])
  have hfr := owns_free ho hqn
  have hset := owns_set (u := .int .u8 ((byteN (l ++ [b]) q : Nat) : Int)) ho hqn
  rw [cellsB_set _ _ _ hbv, hPs] at hset
  have hrg : r ≠ g := fun e => by
   subst e
   rcases owns_row ho with ⟨h1, _⟩ | ⟨r', _, _, h1, _, h2, _⟩
   ·cases h1
   ·simp only [Value.slice.injEq, Option.some.injEq, Addr.mk.injEq] at h1
    obtain ⟨⟨rfl, _⟩, _⟩ := h1
    exact absurd (h2.same hli).1 (by decide)
  have c0 := hli.cell 0
  have c1 := hli.cell 1
  have f1 := hli.free 1
  simp at c0 c1
  have hliA := (Lies.far hli (p := ⟨r, q, none⟩) (fun e => hrg e.symm) (.int .u8 ((byteN (l ++ [b]) q : Nat) : Int))).drew
  have hb1 := (hliA.cell 1).trans (show _ = some (Value.int .i64 (l.length : Int)) from rfl)
  have hf1 := hliA.free 1
  have hll : (((l ++ [b]).length : Nat) : Int) = (l.length : Int) + 1 := by simp
  have hliB := hliA.put 1 (.int .i64 ((l.length : Int) + 1))
  rw [show (#[Value.slice (some ⟨r, 0, none⟩) ((packB l).length) cap, Value.int .i64 (l.length : Int)].setIfInBounds 1 (.int .i64 ((l.length : Int) + 1))) = #[Value.slice (some ⟨r, 0, none⟩) ((packB l).length) cap, Value.int .i64 ((l.length : Int) + 1)] from rfl] at hliB
  have hliC : Hid (((l ++ [b]).length : Int) = (l.length : Int) + 1) := hll
  have hset' := owns_drew hset
  have hoB := owns_put hset' hliA (by decide) 1 (.int .i64 ((l.length : Int) + 1))
  have hkB := ((hk.trans (Kept.put _ r q (.int .u8 ((byteN (l ++ [b]) q : Nat) : Int))) (fun i hi e => hrS i hi e)).trans (Kept.drew noRow _) (fun _ _ h => h.elim)).trans (Kept.put _ g 1 (.int .i64 ((l.length : Int) + 1))) (fun i hi (e : i = g) => .inl e)
  have HLB := Lib.hid hliB
  have HOB := Lib.hid hoB
  have HKB := Lib.hid hkB
  clear hli ho hset hset' hliA hliB hoB hkB hk hPq hPs hll
  go_wp2
  go_region
  rw [HOR2.out]
  generalize World.drew (World.setCell _ ⟨r, q, none⟩ (.int .u8 ((byteN (l ++ [b]) q : Nat) : Int))) = w1 at *
  go_wp2
  go_end0
  exact ⟨rfl, ⟨_, by rw [hliC.out]; exact HLB.out, by rw [HPL2.out]; exact HOB.out⟩, HKB.out⟩
def countsB (c : Int) : Bool := decide (0 ≤ c ∧ c ≤ 64)
theorem bitsCounts (c : Int) (w : World) : Calls Try.prog 49 #[.int .i64 c] w fun e w' => e = .returned (.bool (countsB c)) ∧ w = w' := by
 by_cases h0 : 0 ≤ c
 ·by_cases h1 : c ≤ 64
  ·have hc : countsB c = true := decide_eq_true ⟨h0, h1⟩
   have e0 : decide ((0 : Int) ≤ c) = true := by simpa using h0
   have e1 : decide (c ≤ (64 : Int)) = true := by simpa using h1
   rw [hc]
   clear hc
   go_enter Try.func49, Try.ntmps49
   go_wp2
   go_ret
   exact ⟨rfl, rfl⟩
  ·have hc : countsB c = false := decide_eq_false (fun h => h1 h.2)
   have e0 : decide ((0 : Int) ≤ c) = true := by simpa using h0
   have e1 : decide (c ≤ (64 : Int)) = false := by simpa using h1
   rw [hc]
   clear hc
   go_enter Try.func49, Try.ntmps49
   go_wp2
   go_ret
   exact ⟨rfl, rfl⟩
 ·have hc : countsB c = false := decide_eq_false (fun h => h0 h.1)
  have e0 : decide ((0 : Int) ≤ c) = false := by simpa using h0
  rw [hc]
  clear hc
  go_enter Try.func49, Try.ntmps49
  go_wp2
  go_ret
  exact ⟨rfl, rfl⟩
theorem countsB_yes {c : Int} (h0 : 0 ≤ c) (h1 : c ≤ 64) : countsB c = true := decide_eq_true ⟨h0, h1⟩
theorem countsB_no {c : Int} (h : c < 0 ∨ 64 < c) : countsB c = false := decide_eq_false (by omega)
section
variable {w w' : World} {B g : Nat} {l : List Bool}
theorem BwAt.kept {S : Nat → Prop} (h : BwAt w B g l) (k : Kept S w w') (h1 : ¬ S g) (h2 : ∀ r, B ≤ r → r < w.heap.size → ¬ S r) : BwAt w' B g l := by
 obtain ⟨v, hl, ho⟩ := h
 exact ⟨v, hl.kept k h1, owns_kept ho k (fun r cur hv hl => h2 r (ho.lt r hv).1 hl.lt)⟩
theorem BwAt.later (h : BwAt w B g l) (hb : Below w.heap.size w w') : BwAt w' B g l := h.kept (Kept.of_below hb) (fun hf => hf) (fun _ _ _ hf => hf)
end
set_option maxHeartbeats 1000000 in
theorem bitsPutNo (g n : Nat) (c : Int) (w : World) (h : c < 0 ∨ 64 < c) :
  Calls Try.prog 28 #[.pointer (some ⟨g, 0, none⟩), .int .u64 n, .int .i64 c] w fun e w' => e = .returned (.int .i64 1) ∧ w = w' := by
 have hc := bitsCounts c w
 rw [countsB_no h] at hc
 have HC := Lib.hid hc
 clear hc h
 go_enter Try.func28, Try.ntmps28
 go_wp2_with fail
 refine HC.out.mono ?_
 rintro e w' ⟨rfl, rfl⟩
 go_wp2
 go_ret
 exact ⟨rfl, rfl⟩
set_option maxHeartbeats 1000000 in
set_option maxRecDepth 100000 in
theorem bitsPut (B g n c : Nat) (l : List Bool) (w : World) (h : BwAt w B g l) (hB : B ≤ w.heap.size) (hl : l.length + c ≤ 1099511627776) (hn : n < 18446744073709551616) (hc : c ≤ 64) :
  Calls Try.prog 28 #[.pointer (some ⟨g, 0, none⟩), .int .u64 n, .int .i64 c] w fun e w' => e = .returned (.int .i64 0) ∧ BwAt w' B g (l ++ bitsN n c) ∧ Kept (bwRows w B g) w w' := by
 have hcc := bitsCounts c w
 rw [countsB_yes (by omega) (by omega)] at hcc
 have HC := Lib.hid hcc
 have H := Lib.hid h
 have hn2 : n ≤ 18446744073709551615 := by omega
 clear hcc h hn
 go_enter Try.func28, Try.ntmps28
 go_wp2_with fail
 refine HC.out.mono ?_
 rintro e w' ⟨rfl, rfl⟩
 go_wp2
 go_loopw [7] (fun t wr => ∃ (j : Nat) (d : List Bool), j ≤ c ∧ d.length + j = c ∧ t = .int .i64 ((j : Int) - 1) ∧ BwAt wr B g (l ++ d) ∧ Hid (d ++ bitsN n j = bitsN n c) ∧ Kept (bwRows w B g) w wr)
  (fun t _ => (intOf t + 1).toNat)
 case atStart => exact ⟨c, [], by omega, by simp, rfl, by simpa using H.out, rfl, Kept.refl _ _⟩
 case round =>
  obtain ⟨j, d, hj, hdl, rfl, hw, hd, hk⟩ := hrel
  rcases Nat.eq_zero_or_pos j with h0 | h0
  ·subst h0
   have hd2 : d = bitsN n c := by have := hd.out; simpa [bitsN] using this
   rw [hd2] at hw
   have HW := Lib.hid hw
   clear hd hd2 hw
   go_wp2
   go_ret
   exact ⟨rfl, HW.out, hk⟩
  ·obtain ⟨m, rfl⟩ : ∃ m, j = m + 1 := ⟨j - 1, by omega⟩
   have hj1 : ((m + 1 : Nat) : Int) - 1 = (m : Int) := by omega
   have hj2 : (m : Int) + 1 - 1 = (m : Int) := by omega
   have hbk := hk.size
   have hB2 : B ≤ wr.heap.size := by omega
   have hbit := bitsBit B g (l ++ d) (decide (n / 2 ^ m % 2 = 1)) wr hw hB2 (by rw [List.length_append]; omega)
   have hd' : Hid ((d ++ [decide (n / 2 ^ m % 2 = 1)]) ++ bitsN n m = bitsN n c) := by
    show _ = _
    rw [← hd.out]; simp [bitsN]
   have hbv : bits .and .u64 ((n : Int) / 2 ^ m) 1 % 256 = ((decide (n / 2 ^ m % 2 = 1)).toNat : Int) := by
    have e2 : (n : Int) / 2 ^ m = ((n / 2 ^ m : Nat) : Int) := by rw [Int.natCast_ediv, Int.natCast_pow]; rfl
    have hlt : n / 2 ^ m ≤ n := Nat.div_le_self _ _
    have := u64_and_nat (n / 2 ^ m) 1 (by omega) (by decide)
    rw [e2]
    rw [Nat.and_one_is_mod] at this
    rw [show (1 : Int) = ((1 : Nat) : Int) from rfl, this]
    by_cases h1 : n / 2 ^ m % 2 = 1
    ·rw [decide_eq_true h1, h1]; rfl
    ·rw [decide_eq_false h1, show n / 2 ^ m % 2 = 0 by omega]; rfl
   have HBV := Lib.hid hbv
   have HBIT := Lib.hid hbit
   have hdl2 : (d ++ [decide (n / 2 ^ m % 2 = 1)]).length + m = c := by rw [List.length_append]; simp; omega
   have hm0 : (0 : Int) ≤ (m : Int) := by omega
   rw [hj1]
   clear hbv hbit hw hd hj1
   go_wp2_with fail
   rw [HBV.out]
   refine HBIT.out.mono ?_
   rintro e w2 ⟨rfl, hw2, hk2⟩
   rw [List.append_assoc] at hw2
   have HW2 := Lib.hid hw2
   have hk3 := bw_trans hk hk2
   clear hw2 hk2 HBIT HBV
   go_wp2
   go_roundw
   case rel => exact ⟨m, _, by omega, hdl2, by go_num, HW2.out, hd', hk3⟩
   case measure => simp [intOf]
theorem bitsString (B g : Nat) (l : List Bool) (w : World) (h : BwAt w B g l) : Calls Try.prog 33 #[.pointer (some ⟨g, 0, none⟩)] w fun e w' => e = .returned (.string (textB (packB l))) ∧ w = w' := by
 obtain ⟨v, hl, ho⟩ := h
 have c0 := hl.cell 0
 simp at c0
 have hcv := convert_owned w B v (packB l) _ rfl ho
 clear hl ho
 go_enter Try.func33, Try.ntmps33
 go_wp2
 go_ret
 exact ⟨rfl, rfl⟩
def allB (s : ByteArray) : List Bool := s.data.toList.flatMap fun b => bitsN b.toNat 8
theorem flat8_length (l : List UInt8) : (l.flatMap fun b => bitsN b.toNat 8).length = 8 * l.length := by
 induction l with
 | nil => rfl
 | cons b l ih => rw [List.flatMap_cons, List.length_append, ih, bitsN_length, List.length_cons]; omega
theorem allB_length (s : ByteArray) : (allB s).length = 8 * s.size := by unfold allB; rw [flat8_length]; simp
theorem bitsN_get (n : Nat) : ∀ c i, i < c → (bitsN n c)[i]? = some (decide (n / 2 ^ (c - 1 - i) % 2 = 1))
 | c + 1, 0, _ => by simp [bitsN]
 | c + 1, i + 1, h => by
  have := bitsN_get n c i (by omega)
  rw [bitsN, List.getElem?_cons_succ, this, show c + 1 - 1 - (i + 1) = c - 1 - i by omega]
theorem flat8_get : ∀ (l : List UInt8) (q r : Nat) (b : UInt8), l[q]? = some b → r < 8 → (l.flatMap fun b => bitsN b.toNat 8)[8 * q + r]? = some (decide (b.toNat / 2 ^ (7 - r) % 2 = 1))
 | a :: l, 0, r, b, h, hr => by
  simp at h; subst h
  rw [List.flatMap_cons, Nat.mul_zero, Nat.zero_add, List.getElem?_append_left (by rw [bitsN_length]; exact hr), bitsN_get _ 8 r hr]
 | a :: l, q + 1, r, b, h, hr => by
  rw [List.flatMap_cons, List.getElem?_append_right (by rw [bitsN_length]; omega), bitsN_length, show 8 * (q + 1) + r - 8 = 8 * q + r by omega]
  exact flat8_get l q r b (by simpa using h) hr
theorem allB_get (s : ByteArray) (p : Nat) (h : p / 8 < s.size) : (allB s)[p]? = some (decide ((s[p / 8]'h).toNat / 2 ^ (7 - p % 8) % 2 = 1)) := by
 have := flat8_get s.data.toList (p / 8) (p % 8) _ (byte_of s (p / 8) h) (by omega)
 rwa [show 8 * (p / 8) + p % 8 = p by omega] at this
def BrAt (w : World) (g : Nat) (s : ByteArray) (i : Nat) : Prop := Lies w g 126 #[.string s, .int .i64 i] ∧ i ≤ 8 * s.size ∧ s.size ≤ 1099511627776
section
variable {w w' : World} {g : Nat} {s : ByteArray} {i : Nat}
theorem BrAt.kept {S : Nat → Prop} (h : BrAt w g s i) (k : Kept S w w') (hn : ¬ S g) : BrAt w' g s i := ⟨h.1.kept k hn, h.2⟩
theorem BrAt.later (h : BrAt w g s i) (hb : Below w.heap.size w w') : BrAt w' g s i := h.kept (Kept.of_below hb) (fun hf => hf)
theorem BrAt.lt (h : BrAt w g s i) : g < w.heap.size := h.1.lt
end
theorem bitsNew (s : ByteArray) (w : World) (hs : s.size ≤ 1099511627776) : Calls Try.prog 57 #[.string s] w fun e w' =>
  e = .returned (.pointer (some ⟨w.heap.size, 0, none⟩)) ∧ BrAt w' w.heap.size s 0 ∧ Kept noRow w w' := by
 go_enter Try.func57, Try.ntmps57
 go_wp2
 go_ret
 exact ⟨rfl, ⟨Lies.made _ _ _, Nat.zero_le _, hs⟩, Kept.alloc _ _ _⟩
theorem bitsLeft (g : Nat) (s : ByteArray) (i : Nat) (w : World) (h : BrAt w g s i) : Calls Try.prog 66 #[.pointer (some ⟨g, 0, none⟩)] w fun e w' =>
  e = .returned (.int .i64 (8 * s.size - i : Nat)) ∧ ∃ n, w' = w.drewN n := by
 obtain ⟨h1, h2, h3⟩ := h
 have c0 := h1.cell 0
 have c1 := h1.cell 1
 simp at c0 c1
 have he : ((8 * s.size - i : Nat) : Int) = 8 * (s.size : Int) - (i : Int) := by omega
 have HE := Lib.hid he
 clear h1 he
 go_enter Try.func66, Try.ntmps66
 go_wp2
 go_quiet (fail)
 go_wp2
 go_ret
 exact ⟨ret_int (by rw [HE.out]), _, rfl⟩
def cutB (s : ByteArray) (i c : Nat) : List Bool := ((allB s).drop i).take c
theorem cutB_length (s : ByteArray) (i c : Nat) (h : i + c ≤ 8 * s.size) : (cutB s i c).length = c := by
 unfold cutB; rw [List.length_take, List.length_drop, allB_length]; omega
theorem cutB_next (s : ByteArray) (i k : Nat) (h : (i + k) / 8 < s.size) : cutB s i (k + 1) = cutB s i k ++ [decide ((s[(i + k) / 8]'h).toNat / 2 ^ (7 - (i + k) % 8) % 2 = 1)] := by
 unfold cutB
 rw [List.take_add_one, List.getElem?_drop, allB_get s (i + k) h]; rfl
theorem bitsTakeEnd (g : Nat) (s : ByteArray) (i c : Nat) (w : World) (h : BrAt w g s i) (hc : c ≤ 64) (he : 8 * s.size < i + c) :
  Calls Try.prog 65 #[.pointer (some ⟨g, 0, none⟩), .int .i64 c] w fun e w' => e = .returned (.tuple #[.int .u64 0, .int .i64 2]) ∧ ∃ n, w' = w.drewN n := by
 have hcc := bitsCounts c w
 rw [countsB_yes (by omega) (by omega)] at hcc
 have HC := Lib.hid hcc
 have HL := Lib.hid (bitsLeft g s i w h)
 have h2 := h.2.1
 have e1 : decide (8 * s.size - i < c) = true := by simp; omega
 clear hcc h
 go_enter Try.func65, Try.ntmps65
 go_wp2_with fail
 refine HC.out.mono ?_
 rintro e w' ⟨rfl, rfl⟩
 go_wp2_with fail
 refine HL.out.mono ?_
 rintro e w' ⟨rfl, n, rfl⟩
 go_wp2
 go_ret2
 exact ⟨rfl, _, rfl⟩
set_option maxHeartbeats 1000000 in
set_option maxRecDepth 100000 in
theorem bitsTakeOk (g : Nat) (s : ByteArray) (i c : Nat) (w : World) (h : BrAt w g s i) (hc : c ≤ 64) (he : i + c ≤ 8 * s.size) :
  Calls Try.prog 65 #[.pointer (some ⟨g, 0, none⟩), .int .i64 c] w fun e w' => e = .returned (.tuple #[.int .u64 (numB (cutB s i c)), .int .i64 0]) ∧ BrAt w' g s (i + c) ∧ Kept (oneRow g) w w' := by
 have hcc := bitsCounts c w
 rw [countsB_yes (by omega) (by omega)] at hcc
 have HC := Lib.hid hcc
 have HL := Lib.hid (bitsLeft g s i w h)
 have h2 := h.2.1
 have hs := h.2.2
 have e1 : decide (8 * s.size - i < c) = false := by simp; omega
 have H := Lib.hid h
 clear hcc h
 go_enter Try.func65, Try.ntmps65
 go_wp2_with fail
 refine HC.out.mono ?_
 rintro e w' ⟨rfl, rfl⟩
 go_wp2_with fail
 refine HL.out.mono ?_
 rintro e w' ⟨rfl, n, rfl⟩
 clear HC HL
 go_wp2
 go_loopw [6, 17] (fun t u wr => ∃ k : Nat, k ≤ c ∧ u = .int .i64 k ∧ t = .int .u64 (numB (cutB s i k)) ∧ BrAt wr g s (i + k) ∧ Kept (oneRow g) w wr)
  (fun _ u _ => c - (intOf u).toNat)
 case atStart => exact ⟨0, by omega, rfl, by simp [cutB, numB], ⟨H.out.1, H.out.2⟩, Kept.drewN _ _ _⟩
 case round =>
  obtain ⟨k, hk, rfl, rfl, hr, hkk⟩ := hrel
  by_cases hlt : k < c
  ·have hki : (k : Int) < (c : Int) := by omega
   have hq : (i + k) / 8 < s.size := by omega
   have hnx := cutB_next s i k hq
   have hln := numB_lt (cutB s i k)
   rw [cutB_length s i k (by omega)] at hln
   have hln2 : numB (cutB s i k) < 9223372036854775808 := by
    have : 2 ^ k ≤ 2 ^ 63 := Nat.pow_le_pow_right (by decide) (by omega)
    omega
   have hsn := numB_snoc (cutB s i k) (decide ((s[(i + k) / 8]'hq).toNat / 2 ^ (7 - (i + k) % 8) % 2 = 1))
   rw [← hnx] at hsn
   have c0 := (hr.1.cell 0).trans (show _ = some (Value.string s) from rfl)
   have c1 := (hr.1.cell 1).trans (show _ = some (Value.int .i64 ((i + k : Nat) : Int)) from rfl)
   have f1 := hr.1.free 1
   have hb := (s[(i + k) / 8]'hq).toNat_lt
   have hqi : ((i + k : Nat) : Int) / 8 = (((i + k) / 8 : Nat) : Int) := by omega
   have hri : ((i + k : Nat) : Int) % 8 = (((i + k) % 8 : Nat) : Int) := by omega
   have hr8 : (i + k) % 8 < 8 := Nat.mod_lt _ (by decide)
   have HSN := Lib.hid hsn
   have HR := Lib.hid hr
   have hpk : i + k ≤ 8796093022208 := by omega
   clear hnx hsn hr hln
   generalize numB (cutB s i k) = N at *
   generalize hp : i + k = p at *
   have HP := Lib.hid hp
   have hpi : p + 1 ≤ 8 * s.size := by omega
   clear hp
   generalize p / 8 = q at *
   generalize p % 8 = r8 at *
   have h7 : (0 : Int) ≤ 7 - (r8 : Int) := by omega
   have hqs : (q : Int) < (s.size : Int) := by omega
   have w1 : IntKind.i64.wrap (Int.tdiv (p : Int) 8) = (q : Int) := by rw [Int.tdiv_eq_ediv_of_nonneg (by omega), IntKind.wrap_i64]; omega
   have w2 : IntKind.i64.wrap (Int.tmod (p : Int) 8) = (r8 : Int) := by rw [Int.tmod_eq_emod_of_nonneg (by omega), IntKind.wrap_i64]; omega
   have w3 : IntKind.i64.wrap (7 - (r8 : Int)) = 7 - (r8 : Int) := by rw [IntKind.wrap_i64]; omega
   have w4 : IntKind.u64.wrap ((N : Int) * 2) = ((2 * N : Nat) : Int) := by rw [IntKind.wrap_u64]; omega
   have w5 : (7 - (r8 : Int)).toNat = 7 - r8 := by omega
   have hvv : bits .or .u64 (2 * (N : Int)) (IntKind.u64.wrap (bits .and .u8 (((s[q]'hq).toNat : Int) / 2 ^ (7 - r8)) 1)) = ((numB (cutB s i (k + 1)) : Nat) : Int) := by
    have e2 : ((s[q]'hq).toNat : Int) / 2 ^ (7 - r8) = (((s[q]'hq).toNat / 2 ^ (7 - r8) : Nat) : Int) := by rw [Int.natCast_ediv, Int.natCast_pow]; rfl
    have hd : (s[q]'hq).toNat / 2 ^ (7 - r8) ≤ (s[q]'hq).toNat := Nat.div_le_self _ _
    have h1 := u8_and_nat ((s[q]'hq).toNat / 2 ^ (7 - r8)) 1 (by omega) (by decide)
    rw [Nat.and_one_is_mod] at h1
    rw [e2, show (1 : Int) = ((1 : Nat) : Int) from rfl, h1, HSN.out]
    have e3 : ((decide ((s[q]'hq).toNat / 2 ^ (7 - r8) % 2 = 1)).toNat) = (s[q]'hq).toNat / 2 ^ (7 - r8) % 2 := by
     by_cases hh : (s[q]'hq).toNat / 2 ^ (7 - r8) % 2 = 1
     ·rw [decide_eq_true hh, hh]; rfl
     ·rw [decide_eq_false hh, show (s[q]'hq).toNat / 2 ^ (7 - r8) % 2 = 0 by omega]; rfl
    rw [e3]
    have hb1 : (s[q]'hq).toNat / 2 ^ (7 - r8) % 2 < 2 := Nat.mod_lt _ (by decide)
    generalize (s[q]'hq).toNat / 2 ^ (7 - r8) % 2 = b1 at *
    have e4 : IntKind.u64.wrap ((b1 : Nat) : Int) = ((b1 : Nat) : Int) := by rw [IntKind.wrap_u64]; omega
    have h2 := u64_or_nat (2 * N) b1 (by omega) (by omega)
    rw [e4, show (2 * (N : Int)) = ((2 * N : Nat) : Int) by omega, h2]
    have := or_add (a := b1) (b := N) (k := 1) (by omega)
    rw [Nat.or_comm, show 2 * N = N * 2 ^ 1 by omega, this]
    omega
   have HV := Lib.hid hvv
   clear hvv HSN hb
   go_wp2_with fail
   go_quiet (fail)
   rw [HV.out]
   have hli := (HR.out.1.drewN nq).put 1 (.int .i64 ((p : Int) + 1))
   rw [show (#[Value.string s, Value.int .i64 (p : Int)].setIfInBounds 1 (Value.int .i64 ((p : Int) + 1))) = #[Value.string s, Value.int .i64 ((p : Int) + 1)] from rfl] at hli
   have HLI := Lib.hid hli
   have hk2 := ((hkk.trans (Kept.drewN (oneRow g) _ nq) (fun _ _ h => h)).trans (Kept.put _ g 1 (.int .i64 ((p : Int) + 1))) (fun _ _ h => h))
   have HK2 := Lib.hid hk2
   clear hli hk2
   go_wp2
   go_roundw
   case rel =>
    refine ⟨k + 1, by omega, by go_num, rfl, ⟨?_, by rw [← Nat.add_assoc, HP.out]; exact hpi, hs⟩, HK2.out⟩
    rw [← Nat.add_assoc, HP.out]; exact HLI.out
   case measure => simp [intOf]; omega
  ·obtain rfl : k = c := by omega
   have HR := Lib.hid hr
   have hln := numB_lt (cutB s i k)
   rw [cutB_length s i k (by omega)] at hln
   clear hr
   obtain ⟨N, hN⟩ : ∃ N, N = numB (cutB s i k) := ⟨_, rfl⟩
   rw [← hN]
   have HN := Lib.hid hN
   clear hln hN
   go_wp2
   go_ret2
   exact ⟨by rw [← HN.out]; rfl, HR.out, hkk⟩
theorem c64_set' (l : List Nat) (i n : Nat) : (cells64 l).set i (.int .u64 (n : Int)) = cells64 (l.set i n) := by simp [cells64, List.map_set]
theorem c64_get'' {l : List Nat} {i n : Nat} (h : l[i]? = some n) : (cells64 l)[i]? = some (.int .u64 (n : Int)) := by simp [cells64, h]
theorem take_rep {ls : List Nat} {i n : Nat} (h : ls[i]? = some n) (hi : i < 256) : (ls.take i ++ List.replicate (256 - i) 0).set i n = ls.take (i + 1) ++ List.replicate (256 - (i + 1)) 0 := by
 have hl : i < ls.length := (List.getElem?_eq_some_iff.1 h).1
 have hlt : (ls.take i).length = i := by rw [List.length_take]; omega
 rw [List.set_append_right _ _ (by omega), hlt, Nat.sub_self, show 256 - i = 256 - (i + 1) + 1 by omega, List.replicate_succ, List.set_cons_zero, List.take_add_one, h, List.append_assoc]
 rfl
set_option maxHeartbeats 1000000 in
set_option maxRecDepth 100000 in
theorem huffWiden (ls : List Nat) (w : World) (hl : ls.length = 256) (h256 : ∀ x ∈ ls, x < 256) :
  Calls Try.prog 32 #[.agg (c8 ls).toArray] w fun e w' => ∃ v, e = .returned v ∧ w'.ownsRow w.heap.size 24 1 v 256 (cells64 ls) ∧ Below w.heap.size w w' := by
 have hg := ix8 ls .i64
 have hlen : (c8 ls).length = 256 := by rw [c8_length]; exact hl
 obtain ⟨L, hL⟩ : ∃ L, L = c8 ls := ⟨_, rfl⟩
 rw [← hL] at hg hlen ⊢
 have hi1 : (Try.prog.info? 27).map (·.size) = some L.length := by rw [hlen]; exact info8
 have HG := Lib.hid hg
 have HI1 := Lib.hid hi1
 have HL := Lib.hid hl
 have H256 := Lib.hid h256
 clear hg hL hi1 hl h256
 have hmk := run_make_row' (P := Try.prog) 22 24 (.int .u64 0) 8 Try.underlying22 Try.infoU64 rfl .i64 .i64 256 (by omega) (by omega) (w.alloc (.cells L.toArray 27))
 have ho := owned_made (w.alloc (.cells L.toArray 27)) 24 (.int .u64 0) rfl 256 (by unfold maxLen; omega)
 have hsz : (w.alloc (.cells L.toArray 27)).heap.size = w.heap.size + 1 := by simp
 rw [hsz] at hmk ho
 change (Instr.makeSlice 22 (.int .i64 256) (.int .i64 256)).run Try.prog _ = _ at hmk
 have hb := Lib.hid (((Below.refl w.heap.size w).alloc (Nat.le_refl _) (.cells L.toArray 27)).alloc (by simp) (.cells (madeCells #[Value.int .u64 0] 256) 24))
 have HR0 := Lib.hid (arr_range ((Lies.made w 27 L.toArray).alloc (.cells (madeCells #[Value.int .u64 0] 256) 24)))
 have hO0 : List.replicate 256 (Value.int .u64 0) = cells64 (ls.take 0 ++ List.replicate (256 - 0) 0) := by rw [List.take_zero, List.nil_append]; unfold cells64; rw [List.map_replicate]; rfl
 rw [hO0] at ho
 have HO := Lib.hid ho
 clear ho hO0 hsz
 go_enter Try.func32, Try.ntmps32
 go_wp2_with (refine wpList_load_mid rfl 27 _ rfl w.heap.size 0 rfl L _ HR0.out under8 rfl HI1.out ?_)
 clear HR0 hmk
 generalize (w.alloc (.cells L.toArray 27)).alloc (.cells (madeCells #[Value.int .u64 0] 256) 24) = w1 at *
 go_loopw [8] (fun c wr => ∃ i : Nat, i ≤ 256 ∧ c = .int .i64 i ∧ wr.ownsRow (w.heap.size + 1) 24 1 (.slice (some ⟨w.heap.size + 1, 0, none⟩) 256 256) 256 (cells64 (ls.take i ++ List.replicate (256 - i) 0)) ∧ Below w.heap.size w wr)
  (fun c _ => 256 - (intOf c).toNat)
 case atStart => exact ⟨0, by omega, rfl, HO.out, hb.out⟩
 case round =>
  clear HO hb
  obtain ⟨i, hi, rfl, ho, hb⟩ := hrel
  have HO := Lib.hid ho
  have HB := Lib.hid hb
  clear ho hb
  by_cases hlt : i < 256
  ·have hii : (i : Int) < 256 := by omega
   obtain ⟨n, hn⟩ : ∃ n, ls[i]? = some n := ⟨_, List.getElem?_eq_getElem (by rw [HL.out]; exact hlt)⟩
   have hn256 := H256.out n (List.mem_of_getElem? hn)
   have hix := HG.out i n hlt hn
   have hlt2 : (ls.take i).length = i := by rw [List.length_take, HL.out]; omega
   have cz := owns_cell HO.out (c64_get'' (n := 0) (show (ls.take i ++ List.replicate (256 - i) 0)[i]? = some 0 by rw [List.getElem?_append_right (by omega), hlt2, Nat.sub_self, List.getElem?_replicate, if_pos (by omega)]))
   have fz := owns_free HO.out (k := i) hlt
   have hset := owns_set (u := .int .u64 (n : Int)) HO.out (k := i) hlt
   rw [c64_set', take_rep hn hlt] at hset
   have HS := Lib.hid hset
   have HBS := Lib.hid (HB.out.setCell (p := ⟨w.heap.size + 1, i, none⟩) (by show w.heap.size ≤ w.heap.size + 1; omega) (.int .u64 (n : Int)))
   have en : IntKind.u64.wrap (n : Int) = (n : Int) := by rw [IntKind.wrap_u64]; omega
   clear hset hn hlt2
   go_wp2_with fail
   go_roundw
   case rel => exact ⟨i + 1, by omega, by go_num, HS.out, HBS.out⟩
   case measure => simp [intOf]; omega
  ·obtain rfl : i = 256 := by omega
   have ho := HO.out
   rw [Nat.sub_self, List.replicate_zero, List.append_nil, List.take_of_length_le (by rw [HL.out]; exact Nat.le_refl _)] at ho
   have HO2 := Lib.hid (owns_base ho (Nat.le_succ w.heap.size))
   clear ho HO
   go_wp2
   go_ret
   exact ⟨_, rfl, HO2.out, HB.out⟩
def putL (n c : Nat) : List Bool := if c ≤ 64 then bitsN n c else []
theorem putL_le (n c : Nat) : (putL n c).length ≤ 64 := by unfold putL; split <;> simp [bitsN_length]; assumption
theorem bitsPutAny (B g n c : Nat) (l : List Bool) (w : World) (h : BwAt w B g l) (hB : B ≤ w.heap.size) (hl : l.length + 64 ≤ 1099511627776) (hn : n < 18446744073709551616) :
  Calls Try.prog 28 #[.pointer (some ⟨g, 0, none⟩), .int .u64 n, .int .i64 c] w fun e w' => (∃ x : Int, e = .returned (.int .i64 x)) ∧ BwAt w' B g (l ++ putL n c) ∧ Kept (bwRows w B g) w w' := by
 by_cases hc : c ≤ 64
 ·refine (bitsPut B g n c l w h hB (by omega) hn hc).mono ?_
  rintro e w' ⟨rfl, h1, h2⟩
  exact ⟨⟨_, rfl⟩, by unfold putL; rw [if_pos hc]; exact h1, h2⟩
 ·refine (bitsPutNo g n c w (.inr (by omega))).mono ?_
  rintro e w' ⟨rfl, rfl⟩
  exact ⟨⟨_, rfl⟩, by unfold putL; rw [if_neg hc, List.append_nil]; exact h, Kept.refl _ _⟩
def pushRun (rs : List (Nat × Nat)) (n : Nat) : List (Nat × Nat) := match rs.getLast? with
 | some (v, c) => if v = n then rs.dropLast ++ [(v, c + 1)] else rs ++ [(n, 1)]
 | none => [(n, 1)]
def packs (l : List Nat) : List (Nat × Nat) := l.foldl pushRun []
theorem pushRun_nil (n : Nat) : pushRun [] n = [(n, 1)] := rfl
theorem pushRun_same (l : List (Nat × Nat)) (n c : Nat) : pushRun (l ++ [(n, c)]) n = l ++ [(n, c + 1)] := by simp [pushRun]
theorem pushRun_new (l : List (Nat × Nat)) (v c n : Nat) (h : v ≠ n) : pushRun (l ++ [(v, c)]) n = l ++ [(v, c)] ++ [(n, 1)] := by simp [pushRun, h]
theorem packs_next {l : List Nat} {k n : Nat} (h : l[k]? = some n) : packs (l.take (k + 1)) = pushRun (packs (l.take k)) n := by
 rw [List.take_add_one, h]; simp [packs]
theorem runs_cases (rs : List (Nat × Nat)) : rs = [] ∨ ∃ l v c, rs = l ++ [(v, c)] := by
 rcases List.eq_nil_or_concat rs with h | ⟨l, ⟨v, c⟩, h⟩
 ·exact .inl h
 ·exact .inr ⟨l, v, c, by rw [h, List.concat_eq_append]⟩
def RunsIn (m : Nat) (rs : List (Nat × Nat)) : Prop := rs.length ≤ m ∧ ∀ p ∈ rs, 1 ≤ p.2 ∧ p.2 ≤ m
theorem runsIn_push {m : Nat} {rs : List (Nat × Nat)} (h : RunsIn m rs) (n : Nat) : RunsIn (m + 1) (pushRun rs n) := by
 rcases runs_cases rs with rfl | ⟨l, v, c, rfl⟩
 ·rw [pushRun_nil]; refine ⟨by simp, fun p hp => ?_⟩
  simp at hp; subst hp; simp
 ·obtain ⟨h1, h2⟩ := h
  simp only [List.length_append, List.length_cons, List.length_nil] at h1
  have hc := h2 (v, c) (by simp)
  by_cases e : v = n
  ·subst e
   rw [pushRun_same]
   refine ⟨by simp; omega, fun p hp => ?_⟩
   rcases List.mem_append.1 hp with hp | hp
   ·have := h2 p (by simp [hp]); omega
   ·simp at hp; subst hp; simp at hc ⊢; omega
  ·rw [pushRun_new _ _ _ _ e]
   refine ⟨by simp; omega, fun p hp => ?_⟩
   rcases List.mem_append.1 hp with hp | hp
   ·have := h2 p hp; omega
   ·simp at hp; subst hp; simp
theorem packs_in (l : List Nat) : RunsIn l.length (packs l) := by
 suffices h : ∀ (l : List Nat) m rs, RunsIn m rs → RunsIn (m + l.length) (l.foldl pushRun rs) by
  have := h l 0 [] ⟨by simp, fun p hp => by simp at hp⟩
  rwa [Nat.zero_add] at this
 intro l
 induction l with
 | nil => intro m rs h; exact h
 | cons n l ih =>
  intro m rs h
  have := ih (m + 1) _ (runsIn_push h n)
  simp only [List.length_cons, List.foldl_cons]
  rwa [show m + (l.length + 1) = m + 1 + l.length by omega]
theorem Try.infoRun : (Try.prog.info? 101).map (fun i => (i.zero, i.size, i.bytes)) = some (some (.agg #[.int .u64 0, .int .u64 0]), 2, 16) := by kernel_rfl
set_option maxHeartbeats 1000000 in
theorem runsPack (v : Value) (l : List Nat) (w : World) (h : SeqAt w v (cells64 l)) (hl : l.length ≤ 1099511627776) (hm : ∀ n ∈ l, n < M64) :
  Calls Try.prog 52 #[v] w fun e w' => ∃ v', e = .returned v' ∧ w'.ownsRow w.heap.size 101 2 v' (packs l).length (cells2 (packs l)) ∧ Below w.heap.size w w' := by
 have h0 := h
 obtain ⟨A, c, rfl, hc1, hc2, _⟩ := h
 have hcl : (cells64 l).length = l.length := by simp [cells64]
 rw [hcl] at hc1 h0 ⊢
 unfold maxLen at hc2
 have HL := Lib.hid hcl
 clear hcl
 go_enter Try.func52, Try.ntmps52
 go_wp2
 go_loopw [3, 9] (fun t c wr => ∃ k : Nat, k ≤ l.length ∧ c = .int .i64 k ∧ wr.ownsRow w.heap.size 101 2 t (packs (l.take k)).length (cells2 (packs (l.take k))) ∧ Below w.heap.size w wr)
  (fun _ c _ => l.length - (intOf c).toNat)
 case atStart => exact ⟨0, by omega, rfl, World.ownsRow_nil _ _ _ _, Below.refl _ _⟩
 case round =>
  obtain ⟨k, hk, rfl, ho, hb⟩ := hrel
  by_cases hlt : k < l.length
  ·have hki : (k : Int) < (l.length : Int) := by omega
   have hg : l[k]? = some l[k] := List.getElem?_eq_getElem hlt
   obtain ⟨b, off, rfl, _, hcell⟩ := h0.get hb (cells64_get hg)
   have hnx := packs_next hg
   have hin := packs_in (l.take k)
   rw [List.length_take, Nat.min_eq_left hk] at hin
   have hn := hm _ (List.getElem_mem hlt)
   generalize l[k] = n at *
   generalize packs (l.take k) = rs at *
   unfold M64 at hn
   rcases runs_cases rs with rfl | ⟨d, x, y, rfl⟩
   ·rw [pushRun_nil] at hnx
    have HNX := Lib.hid hnx
    have HO := Lib.hid ho
    have hbs := hb.size
    obtain ⟨A2, cp2, hv2, _⟩ := (SeqS.of_owns ho).form
    rw [hv2] at HO
    rw [hv2]
    ·clear hnx ho hin h0 hg hv2
     go_wp2_with (at_builtin; refine append_oneS wr #[.int .u64 n, .int .u64 0] 2 rfl (.tmp 27) (.tmp 30) 98 rfl w.heap.size 101 _ 16 Try.underlying98 Try.infoRun rfl (by omega) rfl (by simp [Value.oneCell']) _ _ _ rfl HO.out rfl (by unfold maxLen; simp) (by simp) hbs ?_)
     intro v' w1 ho1 hb1 _
     obtain ⟨g, cap, hv, hg1, hg2, hc3, hc4⟩ := owns_openS ho1 (by omega)
     rw [hv]
     rw [hv] at ho1
     obtain ⟨c1, c2, c3, c4⟩ := own_last (d := []) (x := n) (y := 0) ho1 rfl
     have HS := Lib.hid (c4 1)
     have hbn := (hb.trans hb1).setCell (p := ⟨g, 1, none⟩) hg1 (.int .u64 ((1 : Nat) : Int))
     have HBN := Lib.hid hbn
     clear hv c4 ho1 hbn hb
     simp only [List.length_nil, Nat.zero_mul, Nat.zero_add] at c1 c2 c3
     go_wp2
     go_roundw
     case rel => exact ⟨k + 1, by omega, by go_num, by rw [HNX.out]; exact HS.out, HBN.out⟩
     case measure => simp [intOf]; omega
   ·have HO := Lib.hid ho
    have hbs := hb.size
    have hlen : (d ++ [(x, y)]).length = d.length + 1 := by simp
    rw [hlen] at ho
    obtain ⟨g, cap, hv, hg1, hg2, hc3, hc4⟩ := owns_openS ho (by omega)
    rw [hv] at ho
    rw [hv]
    obtain ⟨c1, c2, c3, c4⟩ := own_last ho rfl
    have hdl := hin.1
    have hy := hin.2 (x, y) (by simp)
    simp only at hy
    rw [hlen] at hdl
    have hli : ((d.length + 1 : Nat) : Int) - 1 = d.length := by omega
    clear hin h0 hg
    by_cases hxn : x = n
    ·subst hxn
     rw [pushRun_same] at hnx
     have HNX := Lib.hid hnx
     have HS := Lib.hid (c4 (y + 1))
     have hbn := hb.setCell (p := ⟨g, d.length * 2 + 1, none⟩) hg1 (.int .u64 ((y + 1 : Nat) : Int))
     have HBN := Lib.hid hbn
     have e1 : ((x : Int) != (x : Int)) = false := by simp
     clear hnx c4 hbn ho hb HO hv hlen
     go_wp2
     go_roundw
     case rel => exact ⟨k + 1, by omega, by go_num, by rw [HNX.out, show (d ++ [(x, y + 1)]).length = d.length + 1 by simp]; exact HS.out, HBN.out⟩
     case measure => simp [intOf]; omega
    ·rw [pushRun_new _ _ _ _ hxn] at hnx
     have HNX := Lib.hid hnx
     have HO2 := Lib.hid ho
     have e1 : ((x : Int) != (n : Int)) = true := by simp; omega
     have hlen2 : (d ++ [(x, y)] ++ [(n, 1)]).length = d.length + 1 + 1 := by simp
     have HLEN2 := Lib.hid hlen2
     clear hnx c4 ho HO hv hlen c2 c3 hlen2
     go_wp2_with (at_builtin; refine append_oneS wr #[.int .u64 n, .int .u64 0] 2 rfl (.tmp 27) (.tmp 30) 98 rfl w.heap.size 101 _ 16 Try.underlying98 Try.infoRun rfl (by omega) rfl (by simp [Value.oneCell']) _ _ _ rfl HO2.out rfl (by unfold maxLen; omega) (by omega) hbs ?_)
     intro v' w1 ho1 hb1 _
     obtain ⟨g2, cap2, hv, hg3, hg4, hc5, hc6⟩ := owns_openS ho1 (by omega)
     rw [hv]
     rw [hv] at ho1
     have ho2 : w1.ownsRow w.heap.size 101 2 (.slice (some ⟨g2, 0, none⟩) (d.length + 1 + 1) cap2) (d.length + 1 + 1) (cells2 ((d ++ [(x, y)]) ++ [(n, 0)])) := by
      rw [cells2_append (d ++ [(x, y)])]; exact ho1
     obtain ⟨c7, c8, c9, c10⟩ := own_last ho2 (by simp)
     have HS := Lib.hid (c10 1)
     have hbn := (hb.trans hb1).setCell (p := ⟨g2, (d ++ [(x, y)]).length * 2 + 1, none⟩) hg3 (.int .u64 ((1 : Nat) : Int))
     have HBN := Lib.hid hbn
     rw [show (d ++ [(x, y)]).length = d.length + 1 by simp] at c7 c8 c9 HBN HS
     clear hv c10 ho1 ho2 hbn hb hb1 c1
     go_wp2
     go_roundw
     case rel => exact ⟨k + 1, by omega, by go_num, by rw [HNX.out, HLEN2.out]; exact HS.out, HBN.out⟩
     case measure => simp [intOf]; omega
  ·obtain rfl : k = l.length := by omega
   rw [List.take_of_length_le (Nat.le_refl _)] at ho
   go_wp2
   go_ret
   exact ⟨_, rfl, ho, hb⟩
def lastIs (rs : List (Nat × Nat)) (x : Nat) : Bool := match rs.getLast? with
 | some p => decide (p.1 = x)
 | none => false
theorem lastIs_nil (x : Nat) : lastIs [] x = false := rfl
theorem lastIs_snoc (d : List (Nat × Nat)) (a c x : Nat) : lastIs (d ++ [(a, c)]) x = decide (a = x) := by simp [lastIs]
def fitE (bef : List (Nat × Nat)) (x c room : Nat) : Nat := if c = 0 then 3 else if lastIs bef x = true then 3 else if room < c then 4 else 0
def spreads (rs : List (Nat × Nat)) : List Nat := rs.flatMap fun p => List.replicate p.2 p.1
theorem spreads_append (a b : List (Nat × Nat)) : spreads (a ++ b) = spreads a ++ spreads b := by simp [spreads]
theorem spreads_one (x c : Nat) : spreads [(x, c)] = List.replicate c x := by simp [spreads]
theorem spreads_take {rs : List (Nat × Nat)} {k : Nat} {p : Nat × Nat} (h : rs[k]? = some p) : spreads (rs.take (k + 1)) = spreads (rs.take k) ++ List.replicate p.2 p.1 := by
 rw [List.take_add_one, h, spreads_append]; simp [spreads]
theorem runsAgain (v : Value) (rs : List (Nat × Nat)) (x : Nat) (w : World) (h : SeqS w 2 v rs.length (cells2 rs)) :
  Calls Try.prog 67 #[v, .int .u64 x] w fun e w' => e = .returned (.bool (lastIs rs x)) ∧ w = w' := by
 rcases runs_cases rs with rfl | ⟨d, a, c, rfl⟩
 ·obtain ⟨A, cp, rfl, _⟩ := h.form
  rw [lastIs_nil]
  clear h
  go_enter Try.func67, Try.ntmps67
  go_wp2
  go_ret
  exact ⟨rfl, rfl⟩
 ·rw [lastIs_snoc]
  have hl : (d ++ [(a, c)]).length = d.length + 1 := by simp
  rw [hl] at h
  obtain ⟨b, off, cp, rfl, h1, h2, hc⟩ := h.elem (i := d.length) (by omega) (by omega)
  obtain ⟨g1, g2⟩ := cells2_get (l := d ++ [(a, c)]) (i := d.length) (p := (a, c)) (by simp)
  have c1 := hc 0 _ (by omega) g1
  rw [Nat.add_zero] at c1
  unfold maxLen at h2
  have hb : ((a : Int) == (x : Int)) = decide (a = x) := by
   by_cases e : a = x
   ·subst e; simp
   ·rw [decide_eq_false e]; simp; omega
  have HB := Lib.hid hb
  clear hl h hc g1 g2 hb
  go_enter Try.func67, Try.ntmps67
  go_wp2
  go_ret
  exact ⟨ret_bool HB.out, rfl⟩
theorem runsFits (v : Value) (rs : List (Nat × Nat)) (x c room : Nat) (w : World) (h : SeqS w 2 v rs.length (cells2 rs)) (hc : c < M64) (hr : room < M64) :
  Calls Try.prog 68 #[v, .agg #[.int .u64 x, .int .u64 c], .int .u64 room] w fun e w' => e = .returned (.int .i64 (fitE rs x c room)) ∧ Below w.heap.size w w' := by
 have hbel : Below w.heap.size w (w.alloc (.cells #[.int .u64 x, .int .u64 c] 101)) := (Below.refl _ _).alloc (Nat.le_refl _) _
 have ha := fun w' (hb : Below w.heap.size w w') => runsAgain v rs x w' (h.later hb)
 have HA := Lib.hid ha
 unfold M64 at hc hr
 clear ha h
 by_cases h0 : c = 0
 ·subst h0
  have e1 : fitE rs x 0 room = 3 := rfl
  rw [e1]
  clear e1
  go_enter Try.func68, Try.ntmps68
  go_wp2
  go_ret
  exact ⟨rfl, hbel⟩
 ·have e0 : ((c : Int) == 0) = false := by simp; omega
  cases hla : lastIs rs x
  ·have e1 : fitE rs x c room = if room < c then 4 else 0 := by unfold fitE; rw [if_neg h0, hla]; rfl
   rw [hla] at HA
   by_cases hrc : room < c
   ·rw [if_pos hrc] at e1
    rw [e1]
    have e2 : decide (room < c) = true := by simpa using hrc
    clear e1 hla h0
    go_enter Try.func68, Try.ntmps68
    go_wp2_with fail
    refine (HA.out _ hbel).mono ?_
    rintro e w' ⟨rfl, rfl⟩
    go_wp2
    go_ret
    exact ⟨rfl, hbel⟩
   ·rw [if_neg hrc] at e1
    rw [e1]
    have e2 : decide (room < c) = false := by simpa using hrc
    clear e1 hla h0
    go_enter Try.func68, Try.ntmps68
    go_wp2_with fail
    refine (HA.out _ hbel).mono ?_
    rintro e w' ⟨rfl, rfl⟩
    go_wp2
    go_ret
    exact ⟨rfl, hbel⟩
  ·have e1 : fitE rs x c room = 3 := by unfold fitE; rw [if_neg h0, hla]; rfl
   rw [hla] at HA
   rw [e1]
   clear e1 hla h0
   go_enter Try.func68, Try.ntmps68
   go_wp2_with fail
   refine (HA.out _ hbel).mono ?_
   rintro e w' ⟨rfl, rfl⟩
   go_wp2
   go_ret
   exact ⟨rfl, hbel⟩
set_option maxHeartbeats 1000000 in
theorem runsSpread (v : Value) (rs : List (Nat × Nat)) (w : World) (h : SeqS w 2 v rs.length (cells2 rs)) (hl : (spreads rs).length ≤ 1099511627776) (hm : ∀ p ∈ rs, p.1 < M64 ∧ p.2 < M64) :
  Calls Try.prog 64 #[v] w fun e w' => ∃ v', e = .returned v' ∧ w'.ownsRow w.heap.size 24 1 v' (spreads rs).length (cells64 (spreads rs)) ∧ Below w.heap.size w w' := by
 obtain ⟨A, cp, rfl, hc1, hc2, _⟩ := h.form
 unfold maxLen at hc2
 have H := Lib.hid h
 clear h
 go_enter Try.func64, Try.ntmps64
 go_wp2
 go_loopw [3, 8] (fun t c wr => ∃ k : Nat, k ≤ rs.length ∧ c = .int .i64 k ∧ wr.ownsRow w.heap.size 24 1 t (spreads (rs.take k)).length (cells64 (spreads (rs.take k))) ∧ Below w.heap.size w wr)
  (fun _ c _ => rs.length - (intOf c).toNat)
 case atStart => exact ⟨0, by omega, rfl, World.ownsRow_nil _ _ _ _, Below.refl _ _⟩
 case round =>
  obtain ⟨k, hk, rfl, ho, hb⟩ := hrel
  by_cases hlt : k < rs.length
  ·have hki : (k : Int) < (rs.length : Int) := by omega
   have hg : rs[k]? = some rs[k] := List.getElem?_eq_getElem hlt
   obtain ⟨b, off, cp', hA, _, _, hcell⟩ := (H.out.later hb).elem (i := k) (by omega) (by omega)
   simp only [Value.slice.injEq] at hA
   obtain ⟨rfl, _, rfl⟩ := hA
   obtain ⟨g1, g2⟩ := cells2_get hg
   have c1 := hcell 0 _ (by omega) g1
   have c2 := hcell 1 _ (by omega) g2
   rw [Nat.add_zero] at c1
   have hnx := spreads_take hg
   have hle : (spreads (rs.take k)).length + rs[k].2 ≤ (spreads rs).length := by
    have e2 : rs = rs.take (k + 1) ++ rs.drop (k + 1) := (List.take_append_drop _ _).symm
    have e3 : (spreads rs).length = (spreads (rs.take (k + 1))).length + (spreads (rs.drop (k + 1))).length := by
     conv => lhs; rw [e2, spreads_append]
     simp
    rw [hnx, List.length_append, List.length_replicate] at e3
    omega
   have hpm := hm _ (List.getElem_mem hlt)
   generalize rs[k] = p at *
   obtain ⟨x, c⟩ := p
   simp only at c1 c2 hnx hle hpm
   unfold M64 at hpm
   generalize spreads (rs.take k) = d at *
   have hbs := hb.size
   have HNX := Lib.hid hnx
   clear hnx hcell g1 g2 hg
   have hli := Lies.made wr 101 #[.int .u64 (x : Int), .int .u64 (c : Int)]
   have hoa := ho.alloc (.cells #[.int .u64 (x : Int), .int .u64 (c : Int)] 101)
   have hba := hb.alloc hbs (.cells #[.int .u64 (x : Int), .int .u64 (c : Int)] 101)
   clear ho hb
   go_wp2
   generalize wr.alloc (.cells #[.int .u64 (x : Int), .int .u64 (c : Int)] 101) = wA at *
   generalize wr.heap.size = g at *
   go_loopw [3, 14] (fun t i wq => ∃ j : Nat, j ≤ c ∧ i = .int .u64 j ∧ wq.ownsRow w.heap.size 24 1 t (d.length + j) (cells64 (d ++ List.replicate j x)) ∧ Lies wq g 101 #[.int .u64 (x : Int), .int .u64 (c : Int)] ∧ Below w.heap.size w wq)
    (fun _ i _ => c - (intOf i).toNat)
   case atStart => exact ⟨0, by omega, rfl, by simpa using hoa, hli, hba⟩
   case round =>
    clear hoa hli hba
    obtain ⟨j, hj, rfl, ho, hli, hb⟩ := hrel
    have hbq := hb.size
    by_cases hjc : j < c
    ·have d1 := hli.cell 0
     have d2 := hli.cell 1
     simp at d1 d2
     have hne := own_ne ho hli (by decide)
     have HO := Lib.hid ho
     have HLI := Lib.hid hli
     clear ho hli
     go_wp2_with (at_builtin; refine append_one _ (.int .u64 x) rfl (.tmp 16) (.tmp 19) 22 rfl w.heap.size 24 _ _ Try.underlying22 Try.infoU64 rfl rfl _ _ _ rfl HO.out rfl (by unfold maxLen; omega) (by omega) hbq ?_)
     intro v' w1 ho1 hb1 hgr
     have hl1 := (HLI.out.alloc (.cells #[Value.int .u64 (x : Int)] 24)).kept (Kept.of_grown hgr) hne
     rw [cells64_push, List.append_assoc, ← List.replicate_succ'] at ho1
     have HO1 := Lib.hid ho1
     have HL1 := Lib.hid hl1
     have HB1 := Lib.hid (hb.trans hb1)
     clear ho1 hl1 hb hb1 hgr
     go_wp2
     go_roundw
     case rel => exact ⟨j + 1, by omega, by go_num, HO1.out, HL1.out, HB1.out⟩
     case measure => simp [intOf]; omega
    ·obtain rfl : j = c := by omega
     rw [← HNX.out, show d.length + j = (spreads (rs.take (k + 1))).length by rw [HNX.out]; simp] at ho
     have HO := Lib.hid ho
     clear ho hli
     go_wp2
     go_roundw
     case rel => exact ⟨k + 1, by omega, by go_num, HO.out, hb⟩
     case measure => simp [intOf]; omega
  ·obtain rfl : k = rs.length := by omega
   rw [List.take_of_length_le (Nat.le_refl _)] at ho
   go_wp2
   go_ret
   exact ⟨_, rfl, ho, hb⟩
theorem seq2_at {w : World} {A : Option Addr} {n c : Nat} {rs : List (Nat × Nat)} (h : SeqS w 2 (.slice A n c) n (cells2 rs)) {k : Nat} {p : Nat × Nat} (hp : rs[k]? = some p) (hk : k < n) :
  ∃ b off, A = some ⟨b, off, none⟩ ∧ w.cell? ⟨b, off + k * 2, none⟩ = some (.int .u64 (p.1 : Int)) ∧ w.cell? ⟨b, off + k * 2 + 1, none⟩ = some (.int .u64 (p.2 : Int)) := by
 obtain ⟨b, off, c', hA, _, _, hc⟩ := h.elem (i := k) hk (by omega)
 simp only [Value.slice.injEq] at hA
 obtain ⟨rfl, _, _⟩ := hA
 obtain ⟨g1, g2⟩ := cells2_get hp
 exact ⟨b, off, rfl, hc 0 _ (by omega) g1, hc 1 _ (by omega) g2⟩
theorem varintPrint (n : Nat) (w : World) (hn : n < M64) : Calls Try.prog 30 #[.int .u64 n] w fun e w' => e = .returned (.string (textB (enc n))) ∧ Below w.heap.size w w' := by
 go_enter Try.func30, Try.ntmps30
 go_wp2_with fail
 refine (varintGrow (.slice none 0 0) [] n w w.heap.size (Nat.le_refl _) (World.ownsRow_nil _ _ _ _) (by simp) hn).mono ?_
 rintro e w1 ⟨v, rfl, ho, hb⟩
 have hcv := convert_owned w1 _ v _ _ rfl ho
 clear ho
 go_wp2
 go_ret
 exact ⟨rfl, hb⟩
def WrAt (w : World) (B g : Nat) (b : ByteArray) : Prop := B ≤ g ∧ ∃ v, Lies w g 65 #[v] ∧ w.ownsRow B 5 1 v b.size (Lib.strCells b)
def wrRows (w : World) (B g : Nat) : Nat → Prop := fun k => B ≤ k ∧ (k = g ∨ ∃ cur, Lies w k 5 cur)
theorem wrRows_of (w : World) {B g : Nat} {v : Value} {n : Nat} {xs : List Value} (hb : B ≤ g) (h : w.ownsRow B 5 1 v n xs) : ∀ k, v.ownBlock = some k → wrRows w B g k := by
 intro k hk
 rcases owns_row h with ⟨rfl, _⟩ | ⟨r, cap, cur, rfl, hr, hl, _⟩
 ·cases hk
 ·obtain rfl : r = k := by simpa [Value.ownBlock] using hk
  exact ⟨hr, .inr ⟨cur, hl⟩⟩
theorem WrAt.kept {S : Nat → Prop} {w w' : World} {B g : Nat} {b : ByteArray} (h : WrAt w B g b) (k : Kept S w w') (h1 : ¬ S g) (h2 : ∀ r cur, Lies w r 5 cur → ¬ S r) : WrAt w' B g b := by
 obtain ⟨hb, v, hl, ho⟩ := h
 exact ⟨hb, v, hl.kept k h1, owns_kept ho k (fun r cur _ hl => h2 r cur hl)⟩
theorem wr_store {w0 w1 : World} {B g : Nat} {v v' : Value} {b b' : ByteArray} (hb : B ≤ g) (hl : Lies w0 g 65 #[v]) (ho : w0.ownsRow B 5 1 v b.size (Lib.strCells b))
  (ho' : w1.ownsRow B 5 1 v' b'.size (Lib.strCells b')) (hg : w0.grownBy w1 v.ownBlock) :
  WrAt (w1.setCell ⟨g, 0, none⟩ v') B g b' ∧ Kept (wrRows w0 B g) w0 (w1.setCell ⟨g, 0, none⟩ v') ∧ Lies w1 g 65 #[v] := by
 have k1 : Kept (fun k => v.ownBlock = some k) w0 w1 := Kept.of_grown hg
 have hne : ¬ (v.ownBlock = some g) := by
  intro hv
  rcases owns_row ho with ⟨rfl, _⟩ | ⟨r, cap, cur, rfl, hr, hl2, _⟩
  ·cases hv
  ·obtain rfl : r = g := by simpa [Value.ownBlock] using hv
   have := (hl2.same hl).1
   simp at this
 have hl1 := hl.kept k1 hne
 refine ⟨⟨hb, v', ?_, owns_put ho' hl1 (by decide) 0 v'⟩, (k1.mono fun k _ hk => wrRows_of w0 hb ho k hk).trans (Kept.put _ g 0 _) (fun i _ (h : i = g) => by subst h; exact ⟨hb, .inl rfl⟩), hl1⟩
 have := hl1.put 0 v'
 simpa using this
theorem octetText (B g : Nat) (b s : ByteArray) (w : World) (h : WrAt w B g b) (hs : b.size + s.size ≤ 140737488355328) : Calls Try.prog 29 #[.pointer (some ⟨g, 0, none⟩), .string s] w fun e w' =>
  e = .returned (.tuple #[]) ∧ WrAt w' B g (b ++ s) ∧ Kept (wrRows w B g) w w' := by
 obtain ⟨hb, v, hl, ho⟩ := h
 obtain ⟨i0, hi, hz0, hz1, hz2⟩ := info_parts Try.infoU8
 have c0 : w.cell? ⟨g, 0, none⟩ = some v := hl.cell 0
 have hgs := hl.lt
 have HL := Lib.hid hl
 clear hl
 go_enter Try.func29, Try.ntmps29
 go_wp2_with (first
  | (at_builtin; refine Lib.wpList_append_own_string _ rfl (.tmp 10) (.tmp 11) 30 9 rfl B 5 i0 Try.underlying30 Try.underlying9 hi hz0 hz1 hz2 v b.size (Lib.strCells b) rfl ho s rfl (by unfold maxLen; omega) hs (by omega) ?_))
 intro v' w1 ho' hgr _
 have ho2 : w1.ownsRow B 5 1 v' (b ++ s).size (Lib.strCells (b ++ s)) := by rw [strCells_append, ByteArray.size_append]; exact ho'
 obtain ⟨r1, r2, r3⟩ := wr_store hb HL.out ho ho2 hgr
 have d0 : w1.cell? ⟨g, 0, none⟩ = some v := r3.cell 0
 have d1 : w1.frozen? ⟨g, 0, none⟩ = false := r3.free 0
 have R1 := Lib.hid r1
 have R2 := Lib.hid r2
 clear r1 r2 r3 c0 hgr ho HL
 rcases owns_row ho' with ⟨rfl, _⟩ | ⟨r, cap, cur, rfl, _⟩
 all_goals
  clear ho' ho2
  go_wp2
  go_end0
  exact ⟨rfl, R1.out, R2.out⟩
theorem octetString (B g : Nat) (b : ByteArray) (w : World) (h : WrAt w B g b) (hs : b.size ≤ maxLen) :
  Calls Try.prog 34 #[.pointer (some ⟨g, 0, none⟩)] w fun e w' =>
  e = .returned (.string b) ∧ w = w' := by
 obtain ⟨hb, v, hl, ho⟩ := h
 have c0 : w.cell? ⟨g, 0, none⟩ = some v := hl.cell 0
 clear hl
 rcases owns_row ho with ⟨rfl, h0, _⟩ | ⟨r, cap, cur, rfl, _⟩
 ·have hb0 : b = ByteArray.empty := ByteArray.size_eq_zero_iff.1 h0
  subst hb0
  have hcv := Lib.run_convert_nil_bytes (P := Try.prog) w 30 9 5 0 Try.underlying30 Try.underlying5 Try.underlying9
  clear ho h0
  go_enter Try.func34, Try.ntmps34
  go_wp2
  go_ret
  exact ⟨rfl, rfl⟩
 ·have hcv := Lib.run_convert_whole (P := Try.prog) w 30 5 9 Try.underlying30 Try.underlying5 Try.underlying9 r 0 b (fun i hi => by
   rw [Nat.zero_add, ← addr_add]
   exact ho.cells (g := r) rfl i _ (by simp only [Lib.strCells, List.getElem?_map, byte_at b i hi]; rfl)) cap
  clear ho
  go_enter Try.func34, Try.ntmps34
  go_wp2
  go_ret
  exact ⟨rfl, rfl⟩
theorem WrAt.fresh (w : World) (B : Nat) (hB : B ≤ w.heap.size) : WrAt (w.alloc (.cells #[.slice none 0 0] 65)) B w.heap.size ByteArray.empty :=
 ⟨hB, _, Lies.made _ _ _, World.ownsRow_nil _ _ _ _⟩
section
variable {w w' : World} {B B2 g : Nat} {b : ByteArray}
theorem WrAt.later (h : WrAt w B g b) (hb : Below w.heap.size w w') : WrAt w' B g b := h.kept (Kept.of_below hb) (fun hf => hf) (fun _ _ _ hf => hf)
theorem WrAt.alloc (h : WrAt w B g b) (o : Obj) : WrAt (w.alloc o) B g b := h.later ((Below.refl _ _).alloc (Nat.le_refl _) o)
theorem wr_not {t : TypeId} {cs : Array Value} {k : Nat} (hw : WrAt w B g b) (hl : Lies w k t cs) (h1 : t ≠ 65) (h2 : t ≠ 5) : ¬ wrRows w B g k := by
 rintro ⟨_, h⟩
 obtain ⟨_, v, hlg, _⟩ := hw
 rcases h with rfl | ⟨cur, h⟩
 ·exact h1 (hl.same hlg).1
 ·exact h2 (hl.same h).1
theorem owns_wr {e : TypeId} {sz n : Nat} {v : Value} {xs : List Value} (ho : w.ownsRow B2 e sz v n xs) (hw : WrAt w B g b) (hk : Kept (wrRows w B g) w w') (h1 : e ≠ 65) (h2 : e ≠ 5) : w'.ownsRow B2 e sz v n xs :=
 owns_kept ho hk (fun _ _ _ hl => wr_not hw hl h1 h2)
theorem lies_wr {t : TypeId} {cs : Array Value} {k : Nat} (hl : Lies w k t cs) (hw : WrAt w B g b) (hk : Kept (wrRows w B g) w w') (h1 : t ≠ 65) (h2 : t ≠ 5) : Lies w' k t cs :=
 hl.kept hk (wr_not hw hl h1 h2)
theorem below_wr {a : World} (h : Below B a w) (hk : Kept (wrRows w B g) w w') (hB : B ≤ w.heap.size) : Below B a w' :=
 h.trans (hk.below hB (fun k hk h => by have := h.1; omega))
end
def bodyR (rs : List (Nat × Nat)) : List UInt8 := rs.flatMap fun p => enc p.1 ++ enc (p.2 - 1)
def printR (l : List Nat) : List UInt8 := enc (packs l).length ++ bodyR (packs l)
theorem bodyR_next {rs : List (Nat × Nat)} {k : Nat} {p : Nat × Nat} (h : rs[k]? = some p) : bodyR (rs.take (k + 1)) = bodyR (rs.take k) ++ (enc p.1 ++ enc (p.2 - 1)) := by
 rw [List.take_add_one, h]; simp [bodyR]
theorem bodyR_length (rs : List (Nat × Nat)) : (bodyR rs).length ≤ 20 * rs.length := by
 induction rs with
 | nil => simp [bodyR]
 | cons p rs ih =>
  have h1 := (enc_length p.1).2
  have h2 := (enc_length (p.2 - 1)).2
  simp only [bodyR, List.flatMap_cons, List.length_append, List.length_cons] at *
  omega
theorem packs_mem (l : List Nat) (hm : ∀ n ∈ l, n < M64) : ∀ p ∈ packs l, p.1 < M64 := by
 suffices h : ∀ (l : List Nat) rs, (∀ n ∈ l, n < M64) → (∀ p ∈ rs, p.1 < M64) → ∀ p ∈ l.foldl pushRun rs, p.1 < M64 from h l [] hm (fun p hp => by simp at hp)
 intro l
 induction l with
 | nil => intro rs _ h; exact h
 | cons n l ih =>
  intro rs hm h
  refine ih _ (fun x hx => hm x (by simp [hx])) ?_
  have hn := hm n (by simp)
  intro p hp
  rcases runs_cases rs with rfl | ⟨d, v, c, rfl⟩
  ·rw [pushRun_nil] at hp; simp at hp; subst hp; exact hn
  ·by_cases e : v = n
   ·subst e
    rw [pushRun_same] at hp
    rcases List.mem_append.1 hp with hp | hp
    ·exact h p (by simp [hp])
    ·simp at hp; subst hp; exact hn
   ·rw [pushRun_new _ _ _ _ e] at hp
    rcases List.mem_append.1 hp with hp | hp
    ·exact h p hp
    ·simp at hp; subst hp; exact hn
set_option maxHeartbeats 1000000 in
set_option maxRecDepth 100000 in
theorem runsPrint (v : Value) (l : List Nat) (w : World) (h : SeqAt w v (cells64 l)) (hl : l.length ≤ 1099511627776) (hm : ∀ n ∈ l, n < M64) :
  Calls Try.prog 31 #[v] w fun e w' => e = .returned (.string (textB (printR l))) ∧ Below w.heap.size w w' := by
 have hP := fun w' hb => runsPack v l w' (h.later_ hb) hl hm
 have hin := packs_in l
 have hpm := packs_mem l hm
 have HR : Hid (printR l = enc (packs l).length ++ bodyR (packs l)) := rfl
 have HP := Lib.hid hP
 generalize packs l = rs at *
 obtain ⟨hrl, hrc⟩ := hin
 have hrl2 : rs.length ≤ 1099511627776 := by omega
 have hf := WrAt.fresh w w.heap.size (Nat.le_refl _)
 have hb0 : Below w.heap.size w (w.alloc (.cells #[.slice none 0 0] 65)) := (Below.refl _ _).alloc (Nat.le_refl _) _
 have HF := Lib.hid hf
 clear hP h hf
 go_enter Try.func31, Try.ntmps31
 go_wp2_with fail
 generalize w.alloc (.cells #[.slice none 0 0] 65) = w0 at *
 refine (HP.out w0 hb0).mono ?_
 rintro e w1 ⟨vr, rfl, ho, hb1⟩
 have ho := owns_mono ho hb0.size
 have hw1 := HF.out.later hb1
 have hbel := hb0.trans (hb1.mono hb0.size)
 obtain ⟨A, cp, rfl, hc1, hc2, _⟩ := (SeqS.of_owns ho).form
 unfold maxLen at hc2
 have HO := Lib.hid ho
 have HW := Lib.hid hw1
 clear ho hw1 HF hb0 hb1 HP
 go_wp2_with fail
 refine (varintPrint rs.length w1 (by unfold M64; omega)).mono ?_
 rintro e w2 ⟨rfl, hb2⟩
 have hw2 := HW.out.later hb2
 have ho2 := owns_below HO.out hb2
 have hbel := hbel.trans (hb2.mono hbel.size)
 have he := enc_length rs.length
 have HW := Lib.hid hw2
 have HO := Lib.hid ho2
 clear hw2 ho2 hb2
 go_wp2_with fail
 refine (octetText w.heap.size w.heap.size ByteArray.empty (textB (enc rs.length)) w2 HW.out (by rw [textB_size, show ByteArray.empty.size = 0 from rfl]; omega)).mono ?_
 rintro e w3 ⟨rfl, hw3, hk3⟩
 have ho3 := owns_wr HO.out HW.out hk3 (by decide) (by decide)
 have hbel := below_wr hbel hk3 hbel.size
 rw [show ByteArray.empty = textB [] from rfl, text_append, List.nil_append] at hw3
 clear HW HO hk3
 go_wp2
 go_loopw [16] (fun c wr => ∃ k : Nat, k ≤ rs.length ∧ c = .int .i64 k ∧ WrAt wr w.heap.size w.heap.size (textB (enc rs.length ++ bodyR (rs.take k))) ∧ wr.ownsRow w.heap.size 101 2 (.slice A rs.length cp) rs.length (cells2 rs) ∧ Below w.heap.size w wr)
  (fun c _ => rs.length - (intOf c).toNat)
 case atStart => exact ⟨0, by omega, rfl, by simpa [bodyR] using hw3, ho3, hbel⟩
 case round =>
  clear hw3 ho3 hbel
  obtain ⟨k, hk, rfl, hw, ho, hb⟩ := hrel
  by_cases hlt : k < rs.length
  ·have hki : (k : Int) < (rs.length : Int) := by omega
   have hg : rs[k]? = some rs[k] := List.getElem?_eq_getElem hlt
   obtain ⟨b, off, rfl, c1, c2⟩ := seq2_at (SeqS.of_owns ho) hg hlt
   have hnx := bodyR_next hg
   have hpm := hpm _ (List.getElem_mem hlt)
   have hpc := hrc _ (List.getElem_mem hlt)
   have hbl := bodyR_length (rs.take k)
   rw [List.length_take, Nat.min_eq_left hk] at hbl
   generalize rs[k] = p at *
   obtain ⟨x, c⟩ := p
   simp only at c1 c2 hnx hpm hpc
   have he1 := enc_length x
   have he2 := enc_length (c - 1)
   have hvx := fun w => varintPrint x w hpm
   have hvc := fun w => varintPrint (c - 1) w (by unfold M64; omega)
   rw [show ((c - 1 : Nat) : Int) = (c : Int) - 1 by omega] at hvc
   have HVX := Lib.hid hvx
   have HVC := Lib.hid hvc
   have HNX := Lib.hid hnx
   unfold M64 at hpm
   generalize enc x = ex at *
   generalize enc (c - 1) = ec at *
   generalize hd : enc rs.length ++ bodyR (rs.take k) = d at *
   have hdl : d.length ≤ 10 + 20 * k := by rw [← hd, List.length_append]; omega
   have HD := Lib.hid hd
   have hbs := hb.size
   have hli := Lies.made wr 101 #[.int .u64 (x : Int), .int .u64 (c : Int)]
   have hoa := ho.alloc (.cells #[.int .u64 (x : Int), .int .u64 (c : Int)] 101)
   have hwa := hw.alloc (.cells #[.int .u64 (x : Int), .int .u64 (c : Int)] 101)
   have hba := hb.alloc hbs (.cells #[.int .u64 (x : Int), .int .u64 (c : Int)] 101)
   have hci1 : (1 : Int) ≤ (c : Int) := by omega
   have hci2 : (c : Int) ≤ 1099511627776 := by omega
   clear hvx hvc hnx hd hw ho hb hg hbl
   go_wp2_with fail
   generalize wr.alloc (.cells #[.int .u64 (x : Int), .int .u64 (c : Int)] 101) = wA at *
   generalize wr.heap.size = gA at *
   refine (HVX.out _).mono ?_
   rintro e w4 ⟨rfl, hb4⟩
   have hw4 := hwa.later hb4
   have ho4 := owns_below hoa hb4
   have hl4 := hli.below hb4 hli.lt
   have hbel4 := hba.trans (hb4.mono hba.size)
   have HW := Lib.hid hw4
   have HO := Lib.hid ho4
   have HL := Lib.hid hl4
   clear hwa hoa hli hba hw4 ho4 hl4 hb4
   go_wp2_with fail
   refine (octetText w.heap.size w.heap.size _ (textB ex) w4 HW.out (by rw [textB_size, textB_size]; omega)).mono ?_
   rintro e w5 ⟨rfl, hw5, hk5⟩
   have ho5 := owns_wr HO.out HW.out hk5 (by decide) (by decide)
   have hl5 := lies_wr HL.out HW.out hk5 (by decide) (by decide)
   have hbel5 := below_wr hbel4 hk5 hbel4.size
   rw [text_append] at hw5
   have d2 := hl5.cell 1
   simp at d2
   clear HW HO HL hk5 hbel4
   have HW := Lib.hid hw5
   have HO := Lib.hid ho5
   clear hw5 ho5 hl5
   go_wp2_with fail
   refine (HVC.out _).mono ?_
   rintro e w6 ⟨rfl, hb6⟩
   have hw6 := HW.out.later hb6
   have ho6 := owns_below HO.out hb6
   have hbel6 := hbel5.trans (hb6.mono hbel5.size)
   clear HW HO d2 hb6 hbel5
   have HW := Lib.hid hw6
   have HO := Lib.hid ho6
   clear hw6 ho6
   go_wp2_with fail
   refine (octetText w.heap.size w.heap.size _ (textB ec) w6 HW.out (by rw [textB_size, textB_size, List.length_append]; omega)).mono ?_
   rintro e w7 ⟨rfl, hw7, hk7⟩
   have ho7 := owns_wr HO.out HW.out hk7 (by decide) (by decide)
   have hbel7 := below_wr hbel6 hk7 hbel6.size
   rw [text_append, ← HD.out, List.append_assoc, List.append_assoc, ← HNX.out] at hw7
   clear HW HO hk7 hbel6
   have HW := Lib.hid hw7
   have HO := Lib.hid ho7
   clear hw7 ho7
   go_wp2
   go_roundw
   case rel => exact ⟨k + 1, by omega, by go_num, HW.out, HO.out, hbel7⟩
   case measure => simp [intOf]; omega
  ·obtain rfl : k = rs.length := by omega
   rw [List.take_of_length_le (Nat.le_refl _), ← HR.out] at hw
   have HW := Lib.hid hw
   have hbl := bodyR_length rs
   have hsz : (textB (printR l)).size ≤ maxLen := by rw [textB_size, HR.out, List.length_append]; unfold maxLen; omega
   clear hw ho hbl
   go_wp2_with fail
   refine (octetString w.heap.size w.heap.size _ wr HW.out hsz).mono ?_
   rintro e w' ⟨rfl, rfl⟩
   go_wp2
   go_ret
   exact ⟨rfl, hb⟩
section
variable {w w' : World} {g : Nat} {s : ByteArray} {i : Nat}
theorem owns_rd {B : Nat} {e : TypeId} {sz n : Nat} {v : Value} {xs : List Value} (ho : w.ownsRow B e sz v n xs) (hr : RdAt w g s i) (hk : Kept (oneRow g) w w') (h1 : e ≠ 106) : w'.ownsRow B e sz v n xs :=
 owns_kept ho hk (fun r cur _ hl (he : r = g) => by subst he; exact h1 (hl.same hr.1).1)
theorem lies_rd {t : TypeId} {cs : Array Value} {k : Nat} (hl : Lies w k t cs) (hr : RdAt w g s i) (hk : Kept (oneRow g) w w') (h1 : t ≠ 106) : Lies w' k t cs :=
 hl.kept hk (fun (he : k = g) => by subst he; exact h1 (hl.same hr.1).1)
theorem RdAt.later (h : RdAt w g s i) (hb : Below w.heap.size w w') : RdAt w' g s i := h.kept (Kept.of_below hb) (fun hf => hf)
theorem RdAt.lt (h : RdAt w g s i) : g < w.heap.size := h.1.lt
theorem kept_below {S : Nat → Prop} {a : World} (k : Kept S a w) (hb : Below w.heap.size w w') : Kept S a w' :=
 k.trans (Kept.of_below hb) (fun _ _ hf => hf.elim)
end
def nextR (s : ByteArray) (p : Nat) (bef : List (Nat × Nat)) (room : Nat) : (Nat × Nat) × Nat × Nat :=
 if (rd (restOf s p)).2.1 ≠ 0 then ((0, 0), (rd (restOf s p)).2.1, p + (rd (restOf s p)).2.2)
 else if (rd (restOf s (p + (rd (restOf s p)).2.2))).2.1 ≠ 0 then ((0, 0), (rd (restOf s (p + (rd (restOf s p)).2.2))).2.1, p + (rd (restOf s p)).2.2 + (rd (restOf s (p + (rd (restOf s p)).2.2))).2.2)
 else (((rd (restOf s p)).1, (rd (restOf s (p + (rd (restOf s p)).2.2))).1 + 1),
  if lastIs bef (rd (restOf s p)).1 = true then 3 else if room ≤ (rd (restOf s (p + (rd (restOf s p)).2.2))).1 then 4 else 0, p + (rd (restOf s p)).2.2 + (rd (restOf s (p + (rd (restOf s p)).2.2))).2.2)
set_option maxHeartbeats 2000000 in
set_option maxRecDepth 100000 in
theorem runsNext (g : Nat) (s : ByteArray) (i : Nat) (v : Value) (bef : List (Nat × Nat)) (room B : Nat) (w : World) (h : RdAt w g s i) (ho : w.ownsRow B 101 2 v bef.length (cells2 bef)) (hroom : room ≤ 9223372036854775807) :
  Calls Try.prog 63 #[.pointer (some ⟨g, 0, none⟩), v, .int .u64 room] w fun e w' => ∃ x c : Nat,
  e = .returned (.tuple #[.agg #[.int .u64 x, .int .u64 c], .int .i64 (nextR s i bef room).2.1]) ∧ ((nextR s i bef room).2.1 = 0 → (nextR s i bef room).1 = (x, c)) ∧ RdAt w' g s (nextR s i bef room).2.2 ∧ Kept (oneRow g) w w' := by
 have hN : nextR s i bef room = nextR s i bef room := rfl
 conv at hN => rhs; unfold nextR
 have hb1 := rd_bound (restOf s i)
 have hb2 := rd_bound (restOf s (i + (rd (restOf s i)).2.2))
 generalize nextR s i bef room = R at *
 have hz : w.alloc (.cells #[.int .u64 0, .int .u64 0] 101) = w.alloc (.cells #[.int .u64 0, .int .u64 0] 101) := rfl
 have hli := Lies.made w 101 #[.int .u64 0, .int .u64 0]
 have hbl : Below w.heap.size w (w.alloc (.cells #[.int .u64 0, .int .u64 0] 101)) := (Below.refl _ _).alloc (Nat.le_refl _) _
 have h1 := h.later hbl
 have ho1 := owns_below ho hbl
 have k1 : Kept (oneRow g) w (w.alloc (.cells #[.int .u64 0, .int .u64 0] 101)) := Kept.alloc _ _ _
 have HV := Lib.hid (varintRead g s i _ h1)
 have HO := Lib.hid ho1
 have HR := Lib.hid h1
 have HL := Lib.hid hli
 have HN := Lib.hid hN
 have hvb : Hid (∀ r, v.ownBlock = some r → r < w.heap.size) := fun r hr => (ho.lt r hr).2
 clear hz h ho hbl h1 ho1 hli hN
 go_enter Try.func63, Try.ntmps63
 go_wp2_with fail
 generalize w.alloc (.cells #[.int .u64 0, .int .u64 0] 101) = w0 at *
 obtain ⟨g6, hg6⟩ : ∃ g6, g6 = w.heap.size := ⟨_, rfl⟩
 rw [← hg6] at HL ⊢
 have hgle : w.heap.size ≤ g6 := by omega
 clear hg6
 refine HV.out.mono ?_
 rintro e w1 ⟨rfl, h1, kk⟩
 have ho1 := owns_rd HO.out HR.out kk (by decide)
 have hl1 := lies_rd HL.out HR.out kk (by decide)
 have k1 := k1.trans kk (fun _ _ h => h)
 have HV2 := fun w (h : RdAt w g s (i + (rd (restOf s i)).2.2)) => varintRead g s _ w h
 have hN := HN.out
 clear HN
 generalize rd (restOf s i) = a at *
 obtain ⟨x, er, c⟩ := a
 simp only at HV2 hN hb1 hb2 h1
 have HV2' := Lib.hid HV2
 clear HV2
 have HV2 := HV2'
 clear HV2'
 have HN := Lib.hid hN
 clear hN
 have HO := Lib.hid ho1
 have HR := Lib.hid h1
 have HL := Lib.hid hl1
 have d0 := hl1.cell 0
 have d1 := hl1.cell 1
 have f0 := hl1.free 0
 have f1 := hl1.free 1
 simp at d0 d1
 clear ho1 h1 hl1 kk HV
 by_cases her : er = 0
 ·subst her
  have hN := HN.out
  rw [if_neg (show ¬ (0 : Nat) ≠ 0 by omega)] at hN
  clear HN
  have HN := Lib.hid hN
  clear hN
  go_wp2_with fail
  refine (HV2.out _ HR.out).mono ?_
  rintro e w2 ⟨rfl, h2, kk⟩
  have ho2 := owns_rd HO.out HR.out kk (by decide)
  have hl2 := lies_rd HL.out HR.out kk (by decide)
  have k2 := k1.trans kk (fun _ _ h => h)
  have hN := HN.out
  clear HN
  generalize rd (restOf s (i + c)) = a at *
  obtain ⟨y, er, c2⟩ := a
  simp only at hN hb2 h2
  have HN := Lib.hid hN
  have HO := Lib.hid ho2
  have HR := Lib.hid h2
  have HL := Lib.hid hl2
  have d2 := hl2.cell 0
  have d3 := hl2.cell 1
  have f2 := hl2.free 0
  have f3 := hl2.free 1
  simp at d2 d3
  clear ho2 h2 hl2 kk HV2 hN k1 d0 d1 f0 f1
  by_cases her : er = 0
  ·subst her
   have hN := HN.out
   rw [if_neg (show ¬ (0 : Nat) ≠ 0 by omega)] at hN
   clear HN
   have HN := Lib.hid hN
   clear hN
   by_cases hy : y = 18446744073709551615
   ·have e6 : ((y : Int) == 18446744073709551615) = true := by rw [beq_iff_eq]; omega
    have hry : room ≤ y := by omega
    have HA := Lib.hid (runsAgain v bef x w2 (SeqS.of_owns HO.out))
    have hR := HN.out
    clear HN hy hb1 hb2
    cases hla : lastIs bef x
    ·rw [hla, if_neg (by decide), if_pos hry] at hR
     rw [hla] at HA
     have HR2 := Lib.hid hR
     clear hR hry hla
     go_wp2_with fail
     refine HA.out.mono ?_
     rintro e w' ⟨rfl, rfl⟩
     have hls := (HL.out.put 0 (.int .u64 (0 : Nat))).put 1 (.int .u64 (0 : Nat))
     have hrs := ((HR.out.kept (Kept.put _ g6 0 (.int .u64 (0 : Nat))) (fun (e : g = g6) => by subst e; exact absurd (HR.out.1.same HL.out).1 (by decide))).kept (Kept.put _ g6 1 (.int .u64 (0 : Nat))) (fun (e : g = g6) => by subst e; exact absurd (HR.out.1.same HL.out).1 (by decide)))
     have hks := (k2.trans (Kept.put _ g6 0 (.int .u64 (0 : Nat))) (fun i hi (e : i = g6) => by omega)).trans (Kept.put _ g6 1 (.int .u64 (0 : Nat))) (fun i hi (e : i = g6) => by omega)
     have q0 := hls.cell 0
     have q1 := hls.cell 1
     simp at q0 q1
     have HRS := Lib.hid hrs
     have HKS := Lib.hid hks
     clear hls hrs hks
     go_wp2
     refine bodyPost_ret (v := .tuple #[.agg #[.int .u64 (0 : Nat), .int .u64 (0 : Nat)], .int .i64 (4 : Nat)]) (by simp [results, Try.results63, go_sem, q0, q1]) rfl ?_
     exact ⟨0, 0, by rw [HR2.out], fun h => by (rw [HR2.out] at h; simp at h), by rw [HR2.out]; exact HRS.out, HKS.out⟩
    ·rw [hla, if_pos rfl] at hR
     rw [hla] at HA
     have HR2 := Lib.hid hR
     clear hR hry hla
     go_wp2_with fail
     refine HA.out.mono ?_
     rintro e w' ⟨rfl, rfl⟩
     have hls := (HL.out.put 0 (.int .u64 (0 : Nat))).put 1 (.int .u64 (0 : Nat))
     have hrs := ((HR.out.kept (Kept.put _ g6 0 (.int .u64 (0 : Nat))) (fun (e : g = g6) => by subst e; exact absurd (HR.out.1.same HL.out).1 (by decide))).kept (Kept.put _ g6 1 (.int .u64 (0 : Nat))) (fun (e : g = g6) => by subst e; exact absurd (HR.out.1.same HL.out).1 (by decide)))
     have hks := (k2.trans (Kept.put _ g6 0 (.int .u64 (0 : Nat))) (fun i hi (e : i = g6) => by omega)).trans (Kept.put _ g6 1 (.int .u64 (0 : Nat))) (fun i hi (e : i = g6) => by omega)
     have q0 := hls.cell 0
     have q1 := hls.cell 1
     simp at q0 q1
     have HRS := Lib.hid hrs
     have HKS := Lib.hid hks
     clear hls hrs hks
     go_wp2
     refine bodyPost_ret (v := .tuple #[.agg #[.int .u64 (0 : Nat), .int .u64 (0 : Nat)], .int .i64 (3 : Nat)]) (by simp [results, Try.results63, go_sem, q0, q1]) rfl ?_
     exact ⟨0, 0, by rw [HR2.out], fun h => by (rw [HR2.out] at h; simp at h), by rw [HR2.out]; exact HRS.out, HKS.out⟩
   ·have e6 : ((y : Int) == 18446744073709551615) = false := by rw [beq_eq_false_iff_ne]; omega
    have hfit : (if lastIs bef x = true then 3 else if room ≤ y then 4 else 0) = fitE bef x (y + 1) room := by
     simp [fitE, Nat.lt_succ_iff]
    have hR := HN.out
    rw [hfit] at hR
    have HR2 := Lib.hid hR
    have hyi : (y : Int) < 18446744073709551615 := by omega
    clear hR HN hy hfit
    have hF : ∀ w', w'.ownsRow B 101 2 v bef.length (cells2 bef) → Calls Try.prog 68 #[v, .agg #[.int .u64 x, .int .u64 ((y : Int) + 1)], .int .u64 room] w' fun e w2 => e = .returned (.int .i64 (fitE bef x (y + 1) room : Nat)) ∧ Below w'.heap.size w' w2 :=
     fun w' ho => runsFits v bef x (y + 1) room w' (SeqS.of_owns ho) (by unfold M64; omega) (by unfold M64; omega)
    have HF := Lib.hid hF
    clear hF
    generalize fitE bef x (y + 1) room = E at *
    have hl11 := Lies.made w2 101 #[.int .u64 (x : Int), .int .u64 ((y : Int) + 1)]
    have hbA : Below w2.heap.size w2 (w2.alloc (.cells #[.int .u64 (x : Int), .int .u64 ((y : Int) + 1)] 101)) := (Below.refl _ _).alloc (Nat.le_refl _) _
    have hoA := owns_below HO.out hbA
    have hrA := HR.out.later hbA
    have hl6 := HL.out.below hbA HL.out.lt
    have hkA := kept_below k2 hbA
    have hg11 : w2.heap.size ≠ g6 := by have := HL.out.lt; omega
    have hgg6 : g ≠ g6 := fun e => by subst e; exact absurd (HR.out.1.same HL.out).1 (by decide)
    go_wp2_with fail
    generalize w2.alloc (.cells #[.int .u64 (x : Int), .int .u64 ((y : Int) + 1)] 101) = wA at *
    generalize w2.heap.size = g11 at *
    clear hbA HO HR HL k2 d2 d3 f2 f3
    have hKeep : Hid (∀ a b' : World, Below a.heap.size a b' → (Lies a g11 101 #[.int .u64 (x : Int), .int .u64 ((y : Int) + 1)] ∧ (∃ p q, Lies a g6 101 #[p, q]) ∧ a.ownsRow B 101 2 v bef.length (cells2 bef) ∧ RdAt a g s (i + c + c2) ∧ Kept (oneRow g) w a) →
      (Lies b' g11 101 #[.int .u64 (x : Int), .int .u64 ((y : Int) + 1)] ∧ (∃ p q, Lies b' g6 101 #[p, q]) ∧ b'.ownsRow B 101 2 v bef.length (cells2 bef) ∧ RdAt b' g s (i + c + c2) ∧ Kept (oneRow g) w b')) :=
     fun a b' hb ⟨h1, ⟨p, q, h2⟩, h3, h4, h5⟩ => ⟨h1.below hb h1.lt, ⟨p, q, h2.below hb h2.lt⟩, owns_below h3 hb, h4.later hb, kept_below h5 hb⟩
    have HC : Hid (∀ w', (Lies w' g11 101 #[.int .u64 (x : Int), .int .u64 ((y : Int) + 1)] ∧ (∃ p q, Lies w' g6 101 #[p, q]) ∧ w'.ownsRow B 101 2 v bef.length (cells2 bef) ∧ RdAt w' g s (i + c + c2) ∧ Kept (oneRow g) w w') ∧ Below 0 wA w' ∧ 0 ≤ w'.heap.size →
      Calls Try.prog 68 #[v, .agg #[.int .u64 x, .int .u64 ((y : Int) + 1)], .int .u64 room] w' fun e w2 => e = .returned (.int .i64 (E : Nat)) ∧ Below w'.heap.size w' w2) := fun w' h => HF.out w' h.1.2.2.1
    try simp only [Act.put, List.setIfInBounds_toArray, List.set_cons_zero, List.set_cons_succ]
    refine wp_region_held_drew (S := fun w' => (Lies w' g11 101 #[.int .u64 (x : Int), .int .u64 ((y : Int) + 1)] ∧ (∃ p q, Lies w' g6 101 #[p, q]) ∧ w'.ownsRow B 101 2 v bef.length (cells2 bef) ∧ RdAt w' g s (i + c + c2) ∧ Kept (oneRow g) w w') ∧ Below 0 wA w' ∧ 0 ≤ w'.heap.size) (by kernel_rfl)
     ⟨⟨hl11, ⟨_, _, hl6⟩, hoA, hrA.kept (Kept.drewN noRow wA 1) (fun h => h), hkA.trans (Kept.drewN noRow wA 1) (fun _ _ h => h.elim)⟩, (Below.refl 0 wA).drew, Nat.zero_le _⟩ (fun hHeld => ?_)
    clear hl11 hl6 hoA hrA hkA
    refine wpAnyH_take (i := 0) (v := (.agg #[.int .u64 x, .int .u64 ((y : Int) + 1)])) rfl (by kernel_rfl) (by kernel_rfl) (by kernel_rfl) (fun _ _ _ h => h) (Or.inl ⟨by rfl, fun w h => by (simp only [List.getElem_toArray, List.getElem_cons_succ, List.getElem_cons_zero]; have h1 := h.1.1.cell 0; have h2 := h.1.1.cell 1; simp at h1 h2; clear h; go_simp)⟩) (by assumption) ?_
    simp only [Act.put, List.getElem_toArray, List.getElem_cons_succ, List.getElem_cons_zero, List.setIfInBounds_toArray, List.set_cons_zero, List.set_cons_succ]
    refine wpAnyH_take (i := 1) (v := v) rfl (by kernel_rfl) (by kernel_rfl) (by kernel_rfl) (fun _ _ _ h => h) (Or.inl ⟨by rfl, fun w h => by (simp only [List.getElem_toArray, List.getElem_cons_succ, List.getElem_cons_zero]; clear h; go_simp)⟩) (by assumption) ?_
    simp only [Act.put, List.getElem_toArray, List.getElem_cons_succ, List.getElem_cons_zero, List.setIfInBounds_toArray, List.set_cons_zero, List.set_cons_succ]
    refine wpAnyH_take (i := 2) (v := (.agg #[.int .u64 x, .int .u64 ((y : Int) + 1)])) rfl (by kernel_rfl) (by kernel_rfl) (by kernel_rfl) (fun _ _ _ h => h) (Or.inl ⟨by rfl, fun w h => by (simp only [List.getElem_toArray, List.getElem_cons_succ, List.getElem_cons_zero]; have h1 := h.1.1.cell 0; have h2 := h.1.1.cell 1; simp at h1 h2; clear h; go_simp)⟩) (by assumption) ?_
    simp only [Act.put, List.getElem_toArray, List.getElem_cons_succ, List.getElem_cons_zero, List.setIfInBounds_toArray, List.set_cons_zero, List.set_cons_succ]
    refine wpAnyH_take (i := 3) (v := (.int .u64 room)) rfl (by kernel_rfl) (by kernel_rfl) (by kernel_rfl) (fun _ _ _ h => h) (Or.inl ⟨by rfl, fun w h => by (simp only [List.getElem_toArray, List.getElem_cons_succ, List.getElem_cons_zero]; clear h; go_simp)⟩) (by assumption) ?_
    simp only [Act.put, List.getElem_toArray, List.getElem_cons_succ, List.getElem_cons_zero, List.setIfInBounds_toArray, List.set_cons_zero, List.set_cons_succ]
    refine wpAnyH_ready (rs := [4]) (by kernel_rfl) (by simp) ?_
    refine AllReadyH.cons rfl (fun K hK => ?_) AllReadyH.nil
    rw [if_pos (by rfl)]
    go_wp2_with fail
    refine (keep_callS hKeep.out (HC.out _ hHeld) (by assumption)).mono ?_
    rintro e w' ⟨he, q⟩
    cases he
    dsimp only
    refine hK.out _ _ q (fun hHeld => ?_)
    clear hK K
    try simp only [Act.put, List.setIfInBounds_toArray, List.set_cons_zero, List.set_cons_succ]
    refine wpAnyH_ready (rs := [5]) (by kernel_rfl) (by simp) ?_
    refine AllReadyH.cons rfl (fun K hK => ?_) AllReadyH.nil
    rw [if_pos (by rfl)]
    obtain ⟨⟨hl11, ⟨p, q, hl6⟩, ho, hr, hk⟩, hb0, hb1⟩ := hHeld
    have d2 := hl6.cell 0
    have d3 := hl6.cell 1
    have f2 := hl6.free 0
    have f3 := hl6.free 1
    simp at d2 d3
    have hls := (hl6.put 0 (.int .u64 (x : Int))).put 1 (.int .u64 ((y : Int) + 1))
    have hl11 := (hl11.far (p := ⟨g6, 0, none⟩) hg11 (.int .u64 (x : Int))).far (p := ⟨g6, 1, none⟩) hg11 (.int .u64 ((y : Int) + 1))
    have ho := owns_kept (owns_kept ho (Kept.put _ g6 0 (.int .u64 (x : Int))) (fun r _ hr _ (e : r = g6) => by have := hvb.out r hr; omega)) (Kept.put _ g6 1 (.int .u64 ((y : Int) + 1))) (fun r _ hr _ (e : r = g6) => by have := hvb.out r hr; omega)
    have hr := (hr.kept (Kept.put _ g6 0 (.int .u64 (x : Int))) (fun (e : g = g6) => hgg6 e)).kept (Kept.put _ g6 1 (.int .u64 ((y : Int) + 1))) (fun (e : g = g6) => hgg6 e)
    have hk := (hk.trans (Kept.put _ g6 0 (.int .u64 (x : Int))) (fun i hi (e : i = g6) => by omega)).trans (Kept.put _ g6 1 (.int .u64 ((y : Int) + 1))) (fun i hi (e : i = g6) => by omega)
    have hb0 := (hb0.setCell (p := ⟨g6, 0, none⟩) (Nat.zero_le _) (.int .u64 (x : Int))).setCell (p := ⟨g6, 1, none⟩) (Nat.zero_le _) (.int .u64 ((y : Int) + 1))
    have q0 := hls.cell 0
    have q1 := hls.cell 1
    simp at q0 q1 hls
    go_wp2_with fail
    refine hK.out _ _ ⟨⟨hl11, ⟨_, _, hls⟩, ho, hr, hk⟩, hb0, Nat.zero_le _⟩ (fun hHeld => ?_)
    have HRS := Lib.hid hr
    have HKS := Lib.hid hk
    clear hK K hl11 hls ho hr hk hb0 hb1
    try simp only [Act.put, List.setIfInBounds_toArray, List.set_cons_zero, List.set_cons_succ]
    refine wpAnyH_ready (rs := [6]) (by kernel_rfl) (by simp) ?_
    refine AllReadyH.cons rfl (fun K hK => ?_) AllReadyH.nil
    rw [if_pos (by rfl)]
    go_wp2_with fail
    refine hK.out _ _ (by assumption) (fun hHeld => ?_)
    clear hK K
    try simp only [Act.put, List.setIfInBounds_toArray, List.set_cons_zero, List.set_cons_succ]
    refine wpAnyH_done (by kernel_rfl) ?_ _
    go_wp2
    refine bodyPost_ret (v := .tuple #[.agg #[.int .u64 x, .int .u64 (y + 1 : Nat)], .int .i64 (E : Nat)]) (by simp [results, Try.results63, go_sem, q0, q1]) rfl ?_
    exact ⟨x, y + 1, by rw [HR2.out], fun h => by rw [HR2.out], by rw [HR2.out]; exact HRS.out, HKS.out⟩
  ·have e5 : ((er : Int) != 0) = true := by simp; omega
   have hR := HN.out
   rw [if_pos her] at hR
   have HR2 := Lib.hid hR
   clear hR HN her hb1 hb2
   have hls := (HL.out.put 0 (.int .u64 (0 : Nat))).put 1 (.int .u64 (0 : Nat))
   have hrs := ((HR.out.kept (Kept.put _ g6 0 (.int .u64 (0 : Nat))) (fun (e : g = g6) => by subst e; exact absurd (HR.out.1.same HL.out).1 (by decide))).kept (Kept.put _ g6 1 (.int .u64 (0 : Nat))) (fun (e : g = g6) => by subst e; exact absurd (HR.out.1.same HL.out).1 (by decide)))
   have hks := (k2.trans (Kept.put _ g6 0 (.int .u64 (0 : Nat))) (fun i hi (e : i = g6) => by omega)).trans (Kept.put _ g6 1 (.int .u64 (0 : Nat))) (fun i hi (e : i = g6) => by omega)
   have q0 := hls.cell 0
   have q1 := hls.cell 1
   simp at q0 q1
   have HRS := Lib.hid hrs
   have HKS := Lib.hid hks
   clear hls hrs hks
   go_wp2
   refine bodyPost_ret (v := .tuple #[.agg #[.int .u64 (0 : Nat), .int .u64 (0 : Nat)], .int .i64 (er : Nat)]) (by simp [results, Try.results63, go_sem, q0, q1]) rfl ?_
   exact ⟨0, 0, by rw [HR2.out], fun h => by (rw [HR2.out]), by rw [HR2.out]; exact HRS.out, HKS.out⟩
 ·have e5 : ((er : Int) != 0) = true := by simp; omega
  have hR := HN.out
  rw [if_pos her] at hR
  have HR2 := Lib.hid hR
  clear hR HN her HV2 hb1 hb2
  have hls := (HL.out.put 0 (.int .u64 (0 : Nat))).put 1 (.int .u64 (0 : Nat))
  have hrs := ((HR.out.kept (Kept.put _ g6 0 (.int .u64 (0 : Nat))) (fun (e : g = g6) => by subst e; exact absurd (HR.out.1.same HL.out).1 (by decide))).kept (Kept.put _ g6 1 (.int .u64 (0 : Nat))) (fun (e : g = g6) => by subst e; exact absurd (HR.out.1.same HL.out).1 (by decide)))
  have hks := (k1.trans (Kept.put _ g6 0 (.int .u64 (0 : Nat))) (fun i hi (e : i = g6) => by omega)).trans (Kept.put _ g6 1 (.int .u64 (0 : Nat))) (fun i hi (e : i = g6) => by omega)
  have q0 := hls.cell 0
  have q1 := hls.cell 1
  simp at q0 q1
  have HRS := Lib.hid hrs
  have HKS := Lib.hid hks
  clear hls hrs hks
  go_wp2
  refine bodyPost_ret (v := .tuple #[.agg #[.int .u64 (0 : Nat), .int .u64 (0 : Nat)], .int .i64 (er : Nat)]) (by simp [results, Try.results63, go_sem, q0, q1]) rfl ?_
  exact ⟨0, 0, by rw [HR2.out], fun h => by (rw [HR2.out]), by rw [HR2.out]; exact HRS.out, HKS.out⟩
end Go.Proofs.Ytakdpnlohknniaa
