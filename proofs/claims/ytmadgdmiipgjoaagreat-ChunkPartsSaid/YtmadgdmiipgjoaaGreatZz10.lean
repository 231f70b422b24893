import Derived.Test.YtmadgdmiipgjoaaGreatZz9
namespace Go.Proofs.YtmadgdmiipgjoaaGreat
open Go.RowKit
set_option linter.unusedVariables false
set_option linter.unusedSimpArgs false
set_option maxHeartbeats 8000000 in
set_option maxRecDepth 100000 in
theorem refLengths (ws : List Nat) (w : World) (h : WOk ws) :
  Calls Tryz.prog 50 #[.agg (cells64 ws).toArray] w fun e w' => e = .returned (.agg (c8 (lensW ws)).toArray) ∧ Below w.heap.size w w' := by
 have hlen : (cells64 ws).length = 256 := by rw [c64_length]; exact h.1
 obtain ⟨L, hL⟩ : ∃ L, L = cells64 ws := ⟨_, rfl⟩
 rw [← hL] at hlen ⊢
 have HLq := Lib.hid hL
 have H := Lib.hid h
 obtain ⟨Z, hZ⟩ : ∃ Z, Z = c8 (List.replicate 256 0) := ⟨_, rfl⟩
 have hz := zero8
 have hzz : (Array.replicate 256 (Value.int .u8 0)) = Z.toArray := by rw [hZ]; unfold c8; rw [List.map_replicate]; exact (List.toArray_replicate 256 _).symm
 rw [hzz] at hz
 have hzl : Z.length = 256 := by rw [hZ, c8_length, List.length_replicate]
 have HZ := Lib.hid hZ
 have HZL := Lib.hid hzl
 have l0 := ((Lies.made w 80 L.toArray).alloc (.cells Z.toArray 78)).alloc (.cells Z.toArray 78)
 have l1 := (Lies.made (w.alloc (.cells L.toArray 80)) 78 Z.toArray).alloc (.cells Z.toArray 78)
 have l2 := Lies.made ((w.alloc (.cells L.toArray 80)).alloc (.cells Z.toArray 78)) 78 Z.toArray
 rw [show (w.alloc (.cells L.toArray 80)).heap.size = w.heap.size + 1 by simp] at l1
 rw [show ((w.alloc (.cells L.toArray 80)).alloc (.cells Z.toArray 78)).heap.size = w.heap.size + 1 + 1 by simp] at l2
 have hb1 := (((Below.refl w.heap.size w).alloc (Nat.le_refl _) (.cells L.toArray 80)).alloc (by simp) (.cells Z.toArray 78)).alloc (by simp; omega) (.cells Z.toArray 78)
 have hsz : (((w.alloc (.cells L.toArray 80)).alloc (.cells Z.toArray 78)).alloc (.cells Z.toArray 78)).heap.size = w.heap.size + 3 := by simp
 have L0 := Lib.hid l0
 have L1 := Lib.hid l1
 have L2 := Lib.hid l2
 have HB1 := Lib.hid hb1
 have HSZ := Lib.hid hsz
 clear hL h hZ hzz hzl l0 l1 l2 hb1 hsz
 go_enter Tryz.func50, Tryz.ntmps50
 go_wp2_with fail
 generalize ((w.alloc (.cells L.toArray 80)).alloc (.cells Z.toArray 78)).alloc (.cells Z.toArray 78) = w1 at *
 obtain ⟨B, hBw⟩ : ∃ B, B = w1.heap.size := ⟨_, rfl⟩
 have hB3 : w.heap.size + 3 ≤ B := by rw [hBw, HSZ.out]; exact Nat.le_refl _
 have HBW := Lib.hid hBw
 clear hz hBw
 go_loopw [4, 5] (fun v t wr => ∃ (i : Nat) (M : List D3), i ≤ 256 ∧ t = .int .i64 i ∧ Hid (LvAt wr B v ws i M) ∧ Hid (Below B w1 wr)) (fun _ t _ => 256 - (intOf t).toNat)
 case atStart => exact ⟨0, [], by omega, rfl, ⟨World.ownsRow_nil _ _ _ _, rfl, (fun p hp => by simp [lvs] at hp), (fun x hx => by simp at hx)⟩, Below.refl _ _⟩
 case round =>
  obtain ⟨i, M, hi, rfl, hM, hB⟩ := hrel
  have hbz : B ≤ wr.heap.size := by rw [HBW.out]; exact hB.out.size
  have hMl : M.length ≤ 256 := by rw [hM.out.len]; have := lvs_length ws i; omega
  obtain ⟨A2, cp2, rfl, hq1, hq2, _⟩ := (SeqS.of_owns hM.out.row).form
  unfold maxLen at hq2
  by_cases hlt : i < 256
  ·have hii : (i : Int) < 256 := by omega
   obtain ⟨n, hn, hnl⟩ := H.out.get hlt
   have c0 := ((L0.out.below hB.out (by omega)).cell i).trans (show _ = some (Value.int .u64 (n : Int)) by rw [HLq.out]; exact c64_get hn)
   have HNN := Lib.hid hn
   clear hn
   by_cases h0 : 0 < n
   ·have e1 : decide ((0 : Int) < (n : Int)) = true := by simp; omega
    have h1 := lit_own wr 3 (.int .i64 (i : Int)) hbz
    have h2 := lit_own (wr.alloc (.cells #[.int .i64 (i : Int)] 3)) 3 (.int .i64 0) (B := B) (by simp; omega)
    rw [World.size_alloc] at h2
    have H1 : Hid (TrB ((wr.alloc (.cells #[.int .i64 (i : Int)] 3)).alloc (.cells #[.int .i64 0] 3)) B [(i, 0)] (.slice (some ⟨wr.heap.size, 0, none⟩) 1 1) (.slice (some ⟨wr.heap.size + 1, 0, none⟩) 1 1)) := ⟨owned_below h1 ((Below.refl _ _).alloc (Nat.le_refl _) _), h2⟩
    have HB0 := Lib.hid (((Below.refl wr.heap.size wr).alloc (Nat.le_refl _) (.cells #[.int .i64 (i : Int)] 3)).alloc (by simp) (.cells #[.int .i64 0] 3))
    have hsz0 : ((wr.alloc (.cells #[.int .i64 (i : Int)] 3)).alloc (.cells #[.int .i64 0] 3)).heap.size = wr.heap.size + 2 := by simp
    have HSZ0 := Lib.hid hsz0
    have HOW := Lib.hid (owned_below hM.out.row HB0.out)
    clear h1 h2 hsz0
    go_wp2_with (at_builtin; refine append_oneS ((wr.alloc (.cells #[.int .i64 (i : Int)] 3)).alloc (.cells #[.int .i64 0] 3)) #[.int .u64 (n : Int), .slice (some ⟨wr.heap.size, 0, none⟩) 1 1, .slice (some ⟨wr.heap.size + 1, 0, none⟩) 1 1] 3 rfl (.tmp 23) (.tmp 31) 123 rfl B 125 _ 56 Tryz.underlying123 infoTree rfl (by decide) rfl (by simp [Value.oneCell']) _ _ _ rfl HOW.out (by rw [HSZ0.out]; rfl) (by unfold maxLen; omega) (by omega) (by rw [HSZ0.out]; omega) ?_)
    intro v' w2 ho3 hb3 hgr
    have hk3 := kept_grown hgr
    have hT := Lib.hid (hM.out.take (w' := w2) H.out.1 HNN.out h0 ho3 (fun t x y ht => by
     have h4 : TrB ((wr.alloc (.cells #[.int .i64 (i : Int)] 3)).alloc (.cells #[.int .i64 0] 3)) B t x y := ht.below HB0.out
     exact h4.kept hk3 (fun r cur hr hl => own_ne HOW.out hl (by decide) hr)) (H1.out.kept hk3 (fun r cur hr hl => own_ne HOW.out hl (by decide) hr)))
    have HB3 := Lib.hid ((hB.out.trans (HB0.out.mono hbz)).trans hb3)
    clear ho3 hb3 hgr hk3 H1 HB0 HSZ0 HOW hM hB c0
    go_wp2
    go_roundw
    case rel => exact ⟨i + 1, _, by omega, by go_num, hT, HB3⟩
    case measure => simp [intOf]; omega
   ·have e1 : decide ((0 : Int) < (n : Int)) = false := by simp; omega
    have HM2 := Lib.hid (hM.out.skip HNN.out h0)
    clear hM
    go_wp2_with fail
    go_roundw
    case rel => exact ⟨i + 1, M, by omega, by go_num, HM2, hB⟩
    case measure => simp [intOf]; omega
  ·obtain rfl : i = 256 := by omega
   have htk : ws.take 256 = ws := List.take_of_length_le (by rw [H.out.1]; exact Nat.le_refl _)
   have hML : M.length = (lvs ws).length := by rw [hM.out.len, htk]
   obtain ⟨n, hn⟩ : ∃ n, n = (lvs ws).length := ⟨_, rfl⟩
   have HN := Lib.hid hn
   rw [← hn] at hML
   have hn256 : n ≤ 256 := by omega
   have HML := Lib.hid hML
   have L1r := Lib.hid (L1.out.below hB.out (by omega))
   have L2r := Lib.hid (L2.out.below hB.out (by omega))
   have HBr := Lib.hid (HB1.out.trans (hB.out.mono (by omega)))
   rw [hML] at hq1 ⊢
   rw [show ((256 : Nat) : Int) = 256 from rfl]
   clear hn hML hMl hi hlt
   by_cases h1 : n = 1
   ·obtain ⟨p, hp⟩ : ∃ p, (lvs ws)[0]? = some p := ⟨_, List.getElem?_eq_getElem (by rw [← HN.out]; omega)⟩
    have hp2 := (lvs_num _ ws rfl 0 p hp).1
    obtain ⟨bv, dv, hM0, hT⟩ := hM.out.tr p (by rw [htk]; exact List.mem_of_getElem? hp)
    rw [hp2] at hM0 hT
    obtain ⟨x, hx⟩ : ∃ x, x = (lvB ws 256).getD 0 0 := ⟨_, rfl⟩
    have hlb := (lvB_all ws 256 (by rw [H.out.1]; exact Nat.le_refl _))
    rw [htk] at hlb
    have hx2 := (hlb.2.1 0 (by rw [hlb.1, ← HN.out]; omega)).1
    rw [← hx] at hx2
    have hone := lens_one H.out (by rw [← HN.out]; exact h1)
    rw [← hx] at hone
    have hTe : leafT ws 0 = [(x, 0)] := by unfold leafT; rw [← hx]
    rw [hTe] at hT
    obtain ⟨rb, cb, rfl, _, hrb, _, _, hcb⟩ := ownsRow_open hT.1 (by simp)
    have cb0 := hcb 0 (.int .i64 (x : Int)) rfl
    have hs := SeqS.of_owns hM.out.row
    obtain ⟨r, off, rfl, hrl, hc⟩ := SeqS.at_ dtC_len (by decide) hs hM0
    have c1 := hc 1 _ (by decide) rfl
    rw [Nat.zero_mul, Nat.add_zero] at c1
    have hxi : (x : Int) < 256 := by omega
    obtain ⟨z, hz⟩ : ∃ z, Z[x]? = some z := ⟨_, List.getElem?_eq_getElem (by rw [HZL.out]; omega)⟩
    have cz := (L2r.out.cell x).trans (show _ = some z by rw [List.getElem?_toArray]; exact hz)
    have fz := L2r.out.free x
    have e1 : ((n : Int) == 1) = true := by simp; omega
    have e2 : (n == 1) = true := by simpa using h1
    have hp8 := Lies.putL' L2r.out x (.int .u8 ((1 : Nat) : Int))
    rw [HZ.out, c8_set, hone] at hp8
    have LC : Hid (Lies (wr.setCell ⟨w.heap.size + 1 + 1, x, none⟩ (.int .u8 1)) (w.heap.size + 1 + 1) 78 (c8 (lensW ws)).toArray) := hp8
    have L1E := Lib.hid (L1r.out.far (p := ⟨w.heap.size + 1 + 1, x, none⟩) (by show w.heap.size + 1 ≠ w.heap.size + 1 + 1; omega) (.int .u8 1))
    have HBE := Lib.hid (HBr.out.setCell (p := ⟨w.heap.size + 1 + 1, x, none⟩) (by show w.heap.size ≤ w.heap.size + 1 + 1; omega) (.int .u8 1))
    have hn0 : (0 : Int) < (n : Int) := by omega
    clear hp hp2 hM0 hT hx hlb hone hTe hcb hs hc hz hp8 htk h1 hM
    go_upto_region 10 with (fail)
    generalize wr.setCell ⟨w.heap.size + 1 + 1, x, none⟩ (.int .u8 1) = w9 at *
    have lc := LC.out
    obtain ⟨U, hU⟩ : ∃ U, U = c8 (lensW ws) := ⟨_, rfl⟩
    have hUl : U.length = 256 := by rw [hU, c8_length, lensW_length ws H.out.1]
    have hU1 : U.toArray.all (·.oneCell') = true := by rw [hU]; exact c8_one _
    rw [← hU] at lc
    have HU := Lib.hid hU
    have hr := Lib.hid (arr_range lc)
    have ht := Lib.hid (arr_there L1E.out (n := U.toArray.size) (by simp [hUl, HZL.out]))
    have hst := Lib.hid (arr_store L1E.out (L := U) (by simp [hUl, HZL.out]))
    have hi1 : (Tryz.prog.info? 78).map (·.size) = some U.length := by rw [hUl]; exact info8
    have hi2 : (Tryz.prog.info? 78).map (·.size) = some U.toArray.size := by rw [List.size_toArray, hUl]; exact info8
    have HJ2 := Lib.hid hi1
    have HJ3 := Lib.hid hi2
    have HU1 := Lib.hid hU1
    have hbz := Lib.hid (below_cellsA (Nat.le_succ w.heap.size) U 0 w9 HBE.out)
    clear hU hU1 hi1 hi2 lc
    go_wp2_with (first | refine wpList_load_mid rfl 78 _ rfl (w.heap.size + 1 + 1) 0 rfl U _ hr.out under8 rfl HJ2.out ?_ | refine wpList_store_mid rfl 78 _ _ rfl (w.heap.size + 1) 0 U.toArray rfl rfl ht.out HJ3.out HU1.out ?_)
    refine bodyPost_ret (v := .agg U.toArray) (results_cell_arr Tryz.results50 _ _ (w.heap.size + 1) U _ rfl (arr_range hst.out) under8 rfl HJ2.out) rfl ⟨by rw [HU.out], hbz.out⟩
   ·have e1 : ((n : Int) == 1) = false := by simp; omega
    have e2 : (n == 1) = false := by simpa using h1
    by_cases h0 : n = 0
    ·subst h0
     have LC : Hid (Lies wr (w.heap.size + 1 + 1) 78 (c8 (lensW ws)).toArray) := by
      have := L2r.out
      rw [HZ.out, lens_none H.out HN.out.symm] at this
      exact this
     have L1E := L1r
     have HBE := HBr
     clear hM hB L1r L2r HBr h1 L0 L1 L2 HB1
     go_wp2_with fail
     go_loopw [7] (fun t wx => t = .int .i64 1 ∧ wx = wr) (fun _ _ => 0)
     case atStart => exact ⟨rfl, rfl⟩
     case round =>
      obtain ⟨rfl, rfl⟩ := hrel
      go_upto_region 36 with (fail)
      have lc := LC.out
      obtain ⟨U, hU⟩ : ∃ U, U = c8 (lensW ws) := ⟨_, rfl⟩
      have hUl : U.length = 256 := by rw [hU, c8_length, lensW_length ws H.out.1]
      have hU1 : U.toArray.all (·.oneCell') = true := by rw [hU]; exact c8_one _
      rw [← hU] at lc
      have HU := Lib.hid hU
      have hr := Lib.hid (arr_range lc)
      have ht := Lib.hid (arr_there L1E.out (n := U.toArray.size) (by simp [hUl, HZL.out]))
      have hst := Lib.hid (arr_store L1E.out (L := U) (by simp [hUl, HZL.out]))
      have hi1 : (Tryz.prog.info? 78).map (·.size) = some U.length := by rw [hUl]; exact info8
      have hi2 : (Tryz.prog.info? 78).map (·.size) = some U.toArray.size := by rw [List.size_toArray, hUl]; exact info8
      have HJ2 := Lib.hid hi1
      have HJ3 := Lib.hid hi2
      have HU1 := Lib.hid hU1
      have hbz := Lib.hid (below_cellsA (Nat.le_succ w.heap.size) U 0 wr HBE.out)
      clear hU hU1 hi1 hi2 lc
      go_wp2_with (first | refine wpList_load_mid rfl 78 _ rfl (w.heap.size + 1 + 1) 0 rfl U _ hr.out under8 rfl HJ2.out ?_ | refine wpList_store_mid rfl 78 _ _ rfl (w.heap.size + 1) 0 U.toArray rfl rfl ht.out HJ3.out HU1.out ?_)
      refine bodyPost_ret (v := .agg U.toArray) (results_cell_arr Tryz.results50 _ _ (w.heap.size + 1) U _ rfl (arr_range hst.out) under8 rfl HJ2.out) rfl ⟨by rw [HU.out], hbz.out⟩
    ·have hn2 : 2 ≤ n := by omega
     have hDa := hM.out.done H.out (by rw [← HN.out]; omega)
     rw [← HN.out, HML.out] at hDa
     obtain ⟨R, hR⟩ : ∃ R, R = trF (sortL (lvs ws)) n (leafT ws) := ⟨_, rfl⟩
     have HDa := Lib.hid hDa
     have HRa := Lib.hid hR
     have hR2 : setT (List.replicate 256 0) R = lensW ws := by rw [hR, HN.out]; exact lens_doc H.out.1 (by rw [← HN.out]; exact hn2)
     have HR2 := Lib.hid hR2
     clear hM hDa hR hR2 L1r L2r HBr h1 h0
     go_wp2_with fail
     go_loopw [4, 7] (fun v t wq => ∃ (k : Nat) (M : List D3) (s : List N2) (T : Nat → List (Nat × Nat)), 1 ≤ k ∧ M.length + 1 = n + k ∧ t = .int .i64 k ∧ Hid (DtAt wq B v M s T n) ∧ Hid (R = trF s M.length T) ∧ Hid (Below B w1 wq)) (fun _ t _ => n + 1 - (intOf t).toNat)
     case atStart => exact ⟨1, M, _, _, Nat.le_refl _, by rw [HML.out], rfl, HDa, by rw [HML.out]; exact HRa, hB⟩
     case round =>
      clear HDa HRa hB hq1 hq2 hbz HML
      clear M
      obtain ⟨k, M, s, T, hk1, hMk, rfl, hD, hR, hB⟩ := hrel
      obtain ⟨A2, cp2, rfl, hq1, hq2, _⟩ := (SeqS.of_owns hD.out.row).form
      unfold maxLen at hq2
      have hsl := hD.out.len
      obtain ⟨m, hm⟩ : ∃ m, m = M.length := ⟨_, rfl⟩
      have HM := Lib.hid hm
      rw [← hm] at hq1 hMk hsl ⊢
      clear hm
      have hbz : B ≤ wr.heap.size := by rw [HBW.out]; exact hB.out.size
      by_cases hlt : k < n
      ·match s, hsl, hD, hR with
       | [], hsl, _, _ => simp at hsl; omega
       | [x], hsl, _, _ => simp at hsl; omega
       | a :: b :: r, hsl, hD, hR =>
        have C1 := fun w hs => refLeast A2 cp2 M (-1) w hs (by rw [← HM.out]; omega) (fun x hx => (hD.out.sl x hx).1)
        have C2 := fun w hs => refLeast A2 cp2 M (a.2 : Int) w hs (by rw [← HM.out]; omega) (fun x hx => (hD.out.sl x hx).1)
        rw [← HM.out] at C1 C2
        have HC1 := Lib.hid C1
        have HC2 := Lib.hid C2
        have hkn : (k : Int) < (n : Int) := by omega
        have hsq := SeqS.of_owns hD.out.row
        rw [← HM.out] at hsq
        have HSQ := Lib.hid hsq
        clear C1 C2 hsq
        go_wp2_with fail
        refine (HC1.out wr HSQ.out).mono ?_
        rintro e w2 ⟨z, rfl, hz, nd, rfl⟩
        rw [HM.out] at hz
        obtain rfl := ls_head hD.out.lft hz
        clear hz
        go_wp2_with fail
        refine (HC2.out (wr.drewN nd) HSQ.out).mono ?_
        rintro e w2 ⟨z, rfl, hz, nd2, rfl⟩
        rw [HM.out] at hz
        obtain rfl := ls_next hD.out.lft hz
        clear hz HC1 HC2 HSQ
        have HD2 : Hid (DtAt ((wr.drewN nd).drewN nd2) B (.slice A2 M.length cp2) M (a :: b :: r) T n) := (hD.out.below (below_drewN (Below.refl _ _) nd)).below (below_drewN (Below.refl _ _) nd2)
        have HB2 := Lib.hid (below_drewN (below_drewN hB.out nd) nd2)
        have hbz2 : B ≤ ((wr.drewN nd).drewN nd2).heap.size := hbz
        clear hD hB hbz
        generalize (wr.drewN nd).drewN nd2 = w2 at *
        obtain ⟨a1, a2⟩ := a
        obtain ⟨b1, b2⟩ := b
        have hla := HD2.out.lft.lt (p := (a1, a2)) (by simp)
        have hlb := HD2.out.lft.lt (p := (b1, b2)) (by simp)
        rw [← HM.out] at hla hlb
        simp only at hla hlb
        have hta := HD2.out.tr (a1, a2) (by simp)
        have htb := HD2.out.tr (b1, b2) (by simp)
        obtain ⟨ha64, hTa0, _, ba, da, hMa, hTA⟩ := hta
        obtain ⟨hb64, hTb0, _, bb, db, hMb, hTB⟩ := htb
        simp only at ha64 hTa0 hMa hTA hb64 hTb0 hMb hTB
        have hsum := HD2.out.sum
        simp only [List.map_cons, List.sum_cons] at hsum
        obtain ⟨la, hlae⟩ : ∃ la, la = (T a2).length := ⟨_, rfl⟩
        obtain ⟨lb, hlbe⟩ : ∃ lb, lb = (T b2).length := ⟨_, rfl⟩
        have hlab : la + lb ≤ 256 := by omega
        have hla0 : 0 < la := by omega
        have hlb0 : 0 < lb := by omega
        have HLA := Lib.hid hlae
        have HLB := Lib.hid hlbe
        have HTA := Lib.hid hTA
        have HTB := Lib.hid hTB
        have HMA := Lib.hid hMa
        have HMB := Lib.hid hMb
        have hsn := hsl
        have HMK := Lib.hid hMk
        have hm2 : m ≤ 2 * n := by omega
        have hm3 : 2 ≤ m := by omega
        clear hMk
        clear hTa0 hTb0 hTA hTB hsum hlae hlbe hsl
        have hM0 : 0 < M.length := by rw [← HM.out]; omega
        obtain ⟨rb, rfl, hrB, _⟩ := dt_cells (HD2.out.row) hM0
        have HM0 := Lib.hid hM0
        clear hMa hMb hM0
        obtain ⟨ca0, _, _, _, _, _, hrl⟩ := dt_at HD2.out.row HM0.out HMA.out
        obtain ⟨cb0, _, _, _, _, _, _⟩ := dt_at HD2.out.row HM0.out HMB.out
        simp only at ca0 cb0
        have hai : (a2 : Int) < (m : Int) := by omega
        have hbi : (b2 : Int) < (m : Int) := by omega
        obtain ⟨S, hS⟩ : ∃ S, S = (a1 + b1) % 18446744073709551616 := ⟨_, rfl⟩
        have eS : IntKind.u64.wrap ((a1 : Int) + (b1 : Int)) = (S : Int) := by rw [IntKind.wrap_u64]; omega
        obtain ⟨SM, hSM⟩ : ∃ SM, SM = sumW a1 b1 := ⟨_, rfl⟩
        have HSM := Lib.hid hSM
        have hSl : SM < 18446744073709551616 := by rw [hSM]; exact sumW_lt a1 b1
        have hSS : if S < a1 then SM = 18446744073709551615 else SM = S := by
         rw [hSM]; unfold sumW
         by_cases hq : a1 + b1 < 18446744073709551616
         ·rw [if_pos hq, if_neg (by omega)]; omega
         ·rw [if_neg hq, if_pos (by omega)]
        clear hS hSM
        go_upto_region 17 with (fail)
        go_quiet (fail)
        go_upto_region 18 with (fail)
        have HD3 := Lib.hid (HD2.out.below (below_drewN (Below.refl _ _) nq))
        have HTA3 := Lib.hid (HTA.out.below (below_drewN (Below.refl _ _) nq))
        have HTB3 := Lib.hid (HTB.out.below (below_drewN (Below.refl _ _) nq))
        have HB3 := Lib.hid (below_drewN HB2.out nq)
        have hrl3 : rb < (w2.drewN nq).heap.size := hrl
        clear ca0 cb0 HD2 HTA HTB HB2 hrl hbz2 eS
        generalize w2.drewN nq = w3 at *
        obtain ⟨ca0, _, _, _, _, _, _⟩ := dt_at HD3.out.row HM0.out HMA.out
        simp only at ca0
        go_upto_if 73 with (fail)
        go_cut [10] (fun s wx => s = .int .u64 (SM : Int) ∧ wx = w3)
        case first =>
         by_cases hq : S < a1
         ·have x1 : decide ((S : Int) < (a1 : Int)) = true := by simp; omega
          have x2 : decide (S < a1) = true := by simpa using hq
          rw [if_pos hq] at hSS
          have HSS := Lib.hid hSS
          clear hSS
          go_wp2_with fail
          go_meet
          case rel => exact ⟨by rw [HSS.out]; rfl, rfl⟩
         ·have x1 : decide ((S : Int) < (a1 : Int)) = false := by simp; omega
          have x2 : decide (S < a1) = false := by simpa using hq
          rw [if_neg hq] at hSS
          have HSS := Lib.hid hSS
          clear hSS
          go_wp2_with fail
          go_meet
          case rel => exact ⟨by rw [HSS.out], rfl⟩
        case rest =>
         obtain ⟨rfl, rfl⟩ := hcut
         clear hSS ca0
         go_upto_region 21 with (fail)
         have HG4 := Lib.hid (Lies.made wc 125 #[.int .u64 (SM : Int), .slice none 0 0, .slice none 0 0])
         have hbl4 : Below wc.heap.size wc (wc.alloc (.cells #[.int .u64 (SM : Int), .slice none 0 0, .slice none 0 0] 125)) := (Below.refl _ _).alloc (Nat.le_refl _) _
         have HD4 := Lib.hid (HD3.out.below hbl4)
         have HTA4 := Lib.hid (HTA3.out.below hbl4)
         have HTB4 := Lib.hid (HTB3.out.below hbl4)
         have hBc : B ≤ wc.heap.size := by rw [HBW.out]; exact HB3.out.size
         have HB4 := Lib.hid (HB3.out.trans (hbl4.mono hBc))
         have hN4 : (wc.alloc (.cells #[.int .u64 (SM : Int), .slice none 0 0, .slice none 0 0] 125)).heap.size = wc.heap.size + 1 := by simp
         obtain ⟨g, hg⟩ : ∃ g, g = wc.heap.size := ⟨_, rfl⟩
         rw [← hg] at HG4 hN4 hrl3 hBc ⊢
         clear hbl4 HD3 HTA3 HTB3 HB3 hg hSl
         generalize wc.alloc (.cells #[.int .u64 (SM : Int), .slice none 0 0, .slice none 0 0] 125) = w4 at *
         obtain ⟨_, ca1, ca2, _, _, _, _⟩ := dt_at HD4.out.row HM0.out HMA.out
         obtain ⟨_, cb1, cb2, _, _, _, _⟩ := dt_at HD4.out.row HM0.out HMB.out
         simp only at ca1 ca2 cb1 cb2
         have hgr : ¬ oneRow g rb := fun e => by have e : rb = g := e; omega
         have hat : ∀ q, Kept (oneRow g) w4 q → ∀ o, q.cell? ⟨rb, o, none⟩ = w4.cell? ⟨rb, o, none⟩ := fun q k o => cell_keptN k (by omega) hgr
         have HCA := Lib.hid (fun q (k : Kept (oneRow g) w4 q) => And.intro ((hat q k _).trans ca1) (And.intro ((hat q k _).trans ca2) (And.intro ((hat q k _).trans cb1) (And.intro ((hat q k _).trans cb2) (Nat.lt_of_lt_of_le (show rb < w4.heap.size by omega) k.size)))))
         clear ca1 ca2 cb1 cb2 hat
         have hoA := HTA4.out
         have hoB := HTB4.out
         unfold TrB at hoA hoB
         rw [← HLA.out] at hoA
         rw [← HLB.out] at hoB
         obtain ⟨xa, hxa⟩ : ∃ xa, xa = cI ((T a2).map (·.1)) := ⟨_, rfl⟩
         obtain ⟨ya, hya⟩ : ∃ ya, ya = cI ((T a2).map (·.2)) := ⟨_, rfl⟩
         obtain ⟨xb, hxb⟩ : ∃ xb, xb = cI ((T b2).map (·.1)) := ⟨_, rfl⟩
         obtain ⟨yb, hyb⟩ : ∃ yb, yb = cI ((T b2).map (·.2)) := ⟨_, rfl⟩
         rw [← hxa, ← hya] at hoA
         rw [← hxb, ← hyb] at hoB
         have hxa1 : ∀ u ∈ xa, u.oneCell' = true := by rw [hxa]; exact cI_one _
         have hya1 : ∀ u ∈ ya, u.oneCell' = true := by rw [hya]; exact cI_one _
         have hxb1 : ∀ u ∈ xb, u.oneCell' = true := by rw [hxb]; exact cI_one _
         have hyb1 : ∀ u ∈ yb, u.oneCell' = true := by rw [hyb]; exact cI_one _
         have HXA := Lib.hid hxa
         have HYA := Lib.hid hya
         have HXB := Lib.hid hxb
         have HYB := Lib.hid hyb
         clear hxa hya hxb hyb
         obtain ⟨pa, ca, rfl, _, _, hca1, hca2, _⟩ := ownsRow_open hoA.1 hla0
         obtain ⟨pb, cb, rfl, _, _, hcb1, hcb2, _⟩ := ownsRow_open hoB.1 hlb0
         obtain ⟨pda, cda, rfl, _, _, hcda1, hcda2, _⟩ := ownsRow_open hoA.2 hla0
         obtain ⟨pdb, cdb, rfl, _, _, hcdb1, hcdb2, _⟩ := ownsRow_open hoB.2 hlb0
         unfold maxLen at hca2 hcb2 hcda2 hcdb2
         have HKO := Lib.hid (fun q (k : Kept (oneRow g) w4 q) (v : Value) (n : Nat) (zs : List Value) (hv : w4.ownsRow B 3 1 v n zs) => owns_kept hv k (fun r cur _ hl (e : r = g) => by subst e; exact absurd (hl.same HG4.out).1 (by decide)))
         have HOA := Lib.hid hoA
         have HOB := Lib.hid hoB
         clear hoA hoB
         have hgz : g < w4.heap.size := by omega
         have HOK := Lib.hid (fun q k => HKO.out q k _ _ _ HOA.out.1)
         have HOK2 := Lib.hid (fun q k => HKO.out q k _ _ _ HOB.out.1)
         refine wp_region_rely (fun q => Kept (oneRow g) w4 q) (bfV [.eq (.pointer (some ⟨g, 1, none⟩)), .eq (.slice none 0 0), .eq (.slice (some ⟨rb, 0, none⟩) m cp2), .eq (.int .i64 (a2 : Int)), .eq (.pointer (some ⟨rb, a2 * 3, none⟩)), .eq (.pointer (some ⟨rb, a2 * 3 + 1, none⟩)), .eq (.slice (some ⟨pa, 0, none⟩) la ca), .own w4.heap.size 3 1 la xa, .eq (.slice (some ⟨rb, 0, none⟩) m cp2), .eq (.int .i64 (b2 : Int)), .eq (.pointer (some ⟨rb, b2 * 3, none⟩)), .eq (.pointer (some ⟨rb, b2 * 3 + 1, none⟩)), .eq (.slice (some ⟨pb, 0, none⟩) lb cb), .own w4.heap.size 3 1 (la + lb) (xa ++ xb), .eq (.pointer (some ⟨g, 1, none⟩)), .of (fun u q => ∃ u', Lies q g 125 #[.int .u64 (SM : Int), u', .slice none 0 0] ∧ q.ownsRow w4.heap.size 3 1 u' (la + lb) (xa ++ xb)) (fun _ _ _ hb ⟨u', h1, h2⟩ => ⟨u', h1.below hb h1.lt, owned_below h2 hb⟩), .of (fun _ q => Lies q g 125 #[.int .u64 (SM : Int), .slice none 0 0, .slice none 0 0]) (fun _ _ _ hb h1 => h1.below hb h1.lt)]) [some 76, some 77, some 78, some 79, some 80, some 81, some 82, some 83, some 84, some 85, some 86, some 87, some 88, some 89, some 90, none] [[], [0, 16], [], [], [2, 3], [4], [5], [1, 6], [], [], [8, 9], [10], [11], [7, 12], [], [14, 13, 16]] [[], [0], [], [], [2, 3], [2, 3, 4], [4, 5], [0, 1, 5, 6], [], [], [8, 9], [8, 9, 10], [10, 11], [1, 6, 7, 11, 12], [0, 1, 2, 3, 4, 5, 6, 7, 8, 9, 10, 11, 12], [0, 1, 2, 3, 4, 5, 6, 7, 8, 9, 10, 11, 12, 13, 14, 16]] [[2, 3, 4, 5, 6, 7, 8, 9, 10, 11, 12, 13, 16], [2, 3, 4, 5, 6, 8, 9, 10, 11, 12, 13, 16], [0, 1, 3, 5, 6, 7, 8, 9, 10, 11, 12, 13, 16], [0, 1, 2, 5, 6, 7, 8, 9, 10, 11, 12, 13, 16], [0, 1, 6, 7, 8, 9, 10, 11, 12, 13, 16], [0, 1, 7, 8, 9, 10, 11, 12, 13, 16], [0, 1, 8, 9, 10, 11, 12, 13, 16], [2, 3, 8, 9, 10, 11, 12, 16], [0, 1, 2, 3, 4, 5, 6, 7, 9, 11, 12, 13, 16], [0, 1, 2, 3, 4, 5, 6, 7, 8, 11, 12, 13, 16], [0, 1, 2, 3, 4, 5, 6, 7, 12, 13, 16], [0, 1, 2, 3, 4, 5, 6, 7, 13, 16], [0, 1, 2, 3, 4, 5, 6, 7, 16], [2, 3, 4, 8, 9, 16], [13, 16], []] [0, 1, 2, 3, 4, 5, 6, 7, 8, 9, 10, 11, 12, 13, 14, 15] 17 (by kernel_rfl) (by kernel_rfl) (by kernel_rfl) (by kernel_rfl) ?rS ?rI ?rT ?rE
         case rS => exact Kept.drewN _ _ 1
         case rI =>
          intro j h1 h2
          have h2 : 16 ≤ j := h2
          obtain rfl : j = 16 := by omega
          exact Lies.drewN HG4.out 1
         case rT =>
          refine RelySteps.cons (RelyStep.mk [] [2, 3, 4, 5, 6, 7, 8, 9, 10, 11, 12, 13, 16] rfl rfl rfl (fun xv wS hS hV bq hb K hK => ?_)) ?_
          ·clear hV
           simp only [putsOf, List.foldl_cons, List.foldl_nil, List.getD_cons_zero, List.getD_cons_succ, List.getD_nil, cond_true, cond_false, Act.put, List.setIfInBounds_toArray, List.set_cons_zero, List.set_cons_succ] at hb
           subst hb
           rw [if_pos (by rfl)]
           go_wp2_with fail
           exact hK.out _ _ ⟨_, rfl, hS, rfl, AllP.same _⟩
          refine RelySteps.cons (RelyStep.mk [0, 16] [2, 3, 4, 5, 6, 8, 9, 10, 11, 12, 13, 16] rfl rfl rfl (fun xv wS hS hV bq hb K hK => ?_)) ?_
          ·obtain ⟨h0, h16, _⟩ := hV
           have h0 : xv 0 = _ := h0
           simp only [putsOf, List.foldl_cons, List.foldl_nil, List.getD_cons_zero, List.getD_cons_succ, List.getD_nil, cond_true, cond_false, Act.put, List.setIfInBounds_toArray, List.set_cons_zero, List.set_cons_succ, h0] at hb
           clear h0
           generalize xv 16 = y16 at *
           subst hb
           rw [if_pos (by rfl)]
           (have q1 : Lies wS g _ _ := h16; have c1 := (q1.cell 1).trans (show _ = some (Value.slice none 0 0) from rfl); have c2 := q1.lt; clear q1 h16)
           go_wp2_with fail
           exact hK.out _ _ ⟨_, rfl, hS, rfl, AllP.same _⟩
          refine RelySteps.cons (RelyStep.mk [] [0, 1, 3, 5, 6, 7, 8, 9, 10, 11, 12, 13, 16] rfl rfl rfl (fun xv wS hS hV bq hb K hK => ?_)) ?_
          ·clear hV
           simp only [putsOf, List.foldl_cons, List.foldl_nil, List.getD_cons_zero, List.getD_cons_succ, List.getD_nil, cond_true, cond_false, Act.put, List.setIfInBounds_toArray, List.set_cons_zero, List.set_cons_succ] at hb
           subst hb
           rw [if_pos (by rfl)]
           go_wp2_with fail
           exact hK.out _ _ ⟨_, rfl, hS, rfl, AllP.same _⟩
          refine RelySteps.cons (RelyStep.mk [] [0, 1, 2, 5, 6, 7, 8, 9, 10, 11, 12, 13, 16] rfl rfl rfl (fun xv wS hS hV bq hb K hK => ?_)) ?_
          ·clear hV
           simp only [putsOf, List.foldl_cons, List.foldl_nil, List.getD_cons_zero, List.getD_cons_succ, List.getD_nil, cond_true, cond_false, Act.put, List.setIfInBounds_toArray, List.set_cons_zero, List.set_cons_succ] at hb
           subst hb
           rw [if_pos (by rfl)]
           go_wp2_with fail
           exact hK.out _ _ ⟨_, rfl, hS, rfl, AllP.same _⟩
          refine RelySteps.cons (RelyStep.mk [2, 3] [0, 1, 6, 7, 8, 9, 10, 11, 12, 13, 16] rfl rfl rfl (fun xv wS hS hV bq hb K hK => ?_)) ?_
          ·obtain ⟨h2, h3, _⟩ := hV
           have h2 : xv 2 = _ := h2
           have h3 : xv 3 = _ := h3
           simp only [putsOf, List.foldl_cons, List.foldl_nil, List.getD_cons_zero, List.getD_cons_succ, List.getD_nil, cond_true, cond_false, Act.put, List.setIfInBounds_toArray, List.set_cons_zero, List.set_cons_succ, h2, h3] at hb
           clear h2
           clear h3
           subst hb
           rw [if_pos (by rfl)]
           go_wp2_with fail
           exact hK.out _ _ ⟨_, rfl, hS, rfl, AllP.same _⟩
          refine RelySteps.cons (RelyStep.mk [4] [0, 1, 7, 8, 9, 10, 11, 12, 13, 16] rfl rfl rfl (fun xv wS hS hV bq hb K hK => ?_)) ?_
          ·obtain ⟨h4, _⟩ := hV
           have h4 : xv 4 = _ := h4
           simp only [putsOf, List.foldl_cons, List.foldl_nil, List.getD_cons_zero, List.getD_cons_succ, List.getD_nil, cond_true, cond_false, Act.put, List.setIfInBounds_toArray, List.set_cons_zero, List.set_cons_succ, h4] at hb
           clear h4
           subst hb
           rw [if_pos (by rfl)]
           go_wp2_with fail
           exact hK.out _ _ ⟨_, rfl, hS, rfl, AllP.same _⟩
          refine RelySteps.cons (RelyStep.mk [5] [0, 1, 8, 9, 10, 11, 12, 13, 16] rfl rfl rfl (fun xv wS hS hV bq hb K hK => ?_)) ?_
          ·obtain ⟨h5, _⟩ := hV
           have h5 : xv 5 = _ := h5
           simp only [putsOf, List.foldl_cons, List.foldl_nil, List.getD_cons_zero, List.getD_cons_succ, List.getD_nil, cond_true, cond_false, Act.put, List.setIfInBounds_toArray, List.set_cons_zero, List.set_cons_succ, h5] at hb
           clear h5
           subst hb
           rw [if_pos (by rfl)]
           (obtain ⟨q1, q2, q3, q4, q5⟩ := HCA.out wS (hS))
           go_wp2_with fail
           exact hK.out _ _ ⟨_, rfl, hS, rfl, AllP.same _⟩
          refine RelySteps.cons (RelyStep.mk [1, 6] [2, 3, 8, 9, 10, 11, 12, 16] rfl rfl rfl (fun xv wS hS hV bq hb K hK => ?_)) ?_
          ·obtain ⟨h1, h6, _⟩ := hV
           have h1 : xv 1 = _ := h1
           have h6 : xv 6 = _ := h6
           simp only [putsOf, List.foldl_cons, List.foldl_nil, List.getD_cons_zero, List.getD_cons_succ, List.getD_nil, cond_true, cond_false, Act.put, List.setIfInBounds_toArray, List.set_cons_zero, List.set_cons_succ, h1, h6] at hb
           clear h1
           clear h6
           subst hb
           rw [if_pos (by rfl)]
           have HSS := Lib.hid hS
           clear hS
           refine step_list (ops := #[]) (by rfl) (append_argS wS 1 rfl (.tmp 77) (.tmp 82) 49 rfl wS.heap.size 3 _ 8 Tryz.underlying49 Tryz.infoInt rfl (by decide) _ 0 [] rfl (World.ownsRow_nil _ _ _ _) (some ⟨pa, 0, none⟩) la ca rfl xa (SeqS.of_owns (HOK.out wS (HSS.out))) hxa1 (by unfold maxLen; omega) (by omega) (Nat.le_refl _) ?_)
           intro v' w' ho hb hgr
           rw [List.nil_append, Nat.zero_add] at ho
           exact hK.out _ _ ⟨_, rfl, HSS.out.trans (Kept.of_below hb) (fun _ _ hf => hf.elim), owns_base ho HSS.out.size, AllP.of _ (fun j _ u h => bfV_below hb h)⟩
          refine RelySteps.cons (RelyStep.mk [] [0, 1, 2, 3, 4, 5, 6, 7, 9, 11, 12, 13, 16] rfl rfl rfl (fun xv wS hS hV bq hb K hK => ?_)) ?_
          ·clear hV
           simp only [putsOf, List.foldl_cons, List.foldl_nil, List.getD_cons_zero, List.getD_cons_succ, List.getD_nil, cond_true, cond_false, Act.put, List.setIfInBounds_toArray, List.set_cons_zero, List.set_cons_succ] at hb
           subst hb
           rw [if_pos (by rfl)]
           go_wp2_with fail
           exact hK.out _ _ ⟨_, rfl, hS, rfl, AllP.same _⟩
          refine RelySteps.cons (RelyStep.mk [] [0, 1, 2, 3, 4, 5, 6, 7, 8, 11, 12, 13, 16] rfl rfl rfl (fun xv wS hS hV bq hb K hK => ?_)) ?_
          ·clear hV
           simp only [putsOf, List.foldl_cons, List.foldl_nil, List.getD_cons_zero, List.getD_cons_succ, List.getD_nil, cond_true, cond_false, Act.put, List.setIfInBounds_toArray, List.set_cons_zero, List.set_cons_succ] at hb
           subst hb
           rw [if_pos (by rfl)]
           go_wp2_with fail
           exact hK.out _ _ ⟨_, rfl, hS, rfl, AllP.same _⟩
          refine RelySteps.cons (RelyStep.mk [8, 9] [0, 1, 2, 3, 4, 5, 6, 7, 12, 13, 16] rfl rfl rfl (fun xv wS hS hV bq hb K hK => ?_)) ?_
          ·obtain ⟨h8, h9, _⟩ := hV
           have h8 : xv 8 = _ := h8
           have h9 : xv 9 = _ := h9
           simp only [putsOf, List.foldl_cons, List.foldl_nil, List.getD_cons_zero, List.getD_cons_succ, List.getD_nil, cond_true, cond_false, Act.put, List.setIfInBounds_toArray, List.set_cons_zero, List.set_cons_succ, h8, h9] at hb
           clear h8
           clear h9
           subst hb
           rw [if_pos (by rfl)]
           go_wp2_with fail
           exact hK.out _ _ ⟨_, rfl, hS, rfl, AllP.same _⟩
          refine RelySteps.cons (RelyStep.mk [10] [0, 1, 2, 3, 4, 5, 6, 7, 13, 16] rfl rfl rfl (fun xv wS hS hV bq hb K hK => ?_)) ?_
          ·obtain ⟨h10, _⟩ := hV
           have h10 : xv 10 = _ := h10
           simp only [putsOf, List.foldl_cons, List.foldl_nil, List.getD_cons_zero, List.getD_cons_succ, List.getD_nil, cond_true, cond_false, Act.put, List.setIfInBounds_toArray, List.set_cons_zero, List.set_cons_succ, h10] at hb
           clear h10
           subst hb
           rw [if_pos (by rfl)]
           go_wp2_with fail
           exact hK.out _ _ ⟨_, rfl, hS, rfl, AllP.same _⟩
          refine RelySteps.cons (RelyStep.mk [11] [0, 1, 2, 3, 4, 5, 6, 7, 16] rfl rfl rfl (fun xv wS hS hV bq hb K hK => ?_)) ?_
          ·obtain ⟨h11, _⟩ := hV
           have h11 : xv 11 = _ := h11
           simp only [putsOf, List.foldl_cons, List.foldl_nil, List.getD_cons_zero, List.getD_cons_succ, List.getD_nil, cond_true, cond_false, Act.put, List.setIfInBounds_toArray, List.set_cons_zero, List.set_cons_succ, h11] at hb
           clear h11
           subst hb
           rw [if_pos (by rfl)]
           (obtain ⟨q1, q2, q3, q4, q5⟩ := HCA.out wS (hS))
           go_wp2_with fail
           exact hK.out _ _ ⟨_, rfl, hS, rfl, AllP.same _⟩
          refine RelySteps.cons (RelyStep.mk [7, 12] [2, 3, 4, 8, 9, 16] rfl rfl rfl (fun xv wS hS hV bq hb K hK => ?_)) ?_
          ·obtain ⟨h7, h12, _⟩ := hV
           have h12 : xv 12 = _ := h12
           simp only [putsOf, List.foldl_cons, List.foldl_nil, List.getD_cons_zero, List.getD_cons_succ, List.getD_nil, cond_true, cond_false, Act.put, List.setIfInBounds_toArray, List.set_cons_zero, List.set_cons_succ, h12] at hb
           generalize xv 7 = y7 at *
           clear h12
           subst hb
           rw [if_pos (by rfl)]
           have HSS := Lib.hid hS
           have h7 : wS.ownsRow w4.heap.size 3 1 y7 la xa := h7
           clear hS
           refine step_list (ops := #[]) (by rfl) (append_argS wS 1 rfl (.tmp 83) (.tmp 88) 49 rfl w4.heap.size 3 _ 8 Tryz.underlying49 Tryz.infoInt rfl (by decide) y7 la xa rfl h7 (some ⟨pb, 0, none⟩) lb cb rfl xb (SeqS.of_owns (HOK2.out wS (HSS.out))) hxb1 (by unfold maxLen; omega) (by omega) HSS.out.size ?_)
           intro v' w' ho hb hgr
           have hk := Kept.of_grown hgr
           exact hK.out _ _ ⟨_, rfl, HSS.out.trans hk (fun i hi hs => by have := (own_lt h7 hs).1; omega), ho, AllP.of _ (fun j hj u h => bfV_or (k := 16) (by rfl) hj h (fun hl => Lies.kept hl hk (fun hs => by have := (own_lt h7 hs).1; omega)))⟩
          refine RelySteps.cons (RelyStep.mk [] [13, 16] rfl rfl rfl (fun xv wS hS hV bq hb K hK => ?_)) ?_
          ·clear hV
           simp only [putsOf, List.foldl_cons, List.foldl_nil, List.getD_cons_zero, List.getD_cons_succ, List.getD_nil, cond_true, cond_false, Act.put, List.setIfInBounds_toArray, List.set_cons_zero, List.set_cons_succ] at hb
           subst hb
           rw [if_pos (by rfl)]
           go_wp2_with fail
           exact hK.out _ _ ⟨_, rfl, hS, rfl, AllP.same _⟩
          refine RelySteps.cons (RelyStep.mk [14, 13, 16] [] rfl rfl rfl (fun xv wS hS hV bq hb K hK => ?_)) ?_
          ·obtain ⟨h14, h13, h16, _⟩ := hV
           have h14 : xv 14 = _ := h14
           simp only [putsOf, List.foldl_cons, List.foldl_nil, List.getD_cons_zero, List.getD_cons_succ, List.getD_nil, cond_true, cond_false, Act.put, List.setIfInBounds_toArray, List.set_cons_zero, List.set_cons_succ, h14] at hb
           clear h14
           generalize xv 13 = y13 at *
           generalize xv 16 = y16 at *
           subst hb
           rw [if_pos (by rfl)]
           have HSS := Lib.hid hS
           have h16' : Lies wS g 125 #[.int .u64 (SM : Int), .slice none 0 0, .slice none 0 0] := h16
           have h13' : wS.ownsRow w4.heap.size 3 1 y13 (la + lb) (xa ++ xb) := h13
           obtain ⟨A9, c9, rfl⟩ := own_sl h13'
           have f1 := h16'.free 1
           have q1 := (h16'.cell 1).trans (show _ = some (Value.slice none 0 0) from rfl)
           have q2 := h16'.lt
           have H16 := Lib.hid h16'
           have H13 := Lib.hid h13'
           clear hS h16 h13 h16' h13'
           go_wp2_with fail
           exact hK.out _ _ ⟨undef, rfl, HSS.out.trans (Kept.put wS g 1 _) (fun _ _ h => h), ⟨_, H16.out.put 1 _, owns_put H13.out H16.out (by decide) 1 _⟩, AllP.of _ (fun j hj u h => bfV_lit rfl hj h)⟩
          exact RelySteps.nil
         case rE =>
          intro xv wE hS hV
          have h15 := hV 15 (by decide) (by decide)
          clear hV
          simp only [putsOf, List.foldl_cons, List.foldl_nil, List.getD_cons_zero, List.getD_cons_succ, List.getD_nil, cond_true, cond_false, Act.put, List.setIfInBounds_toArray, List.set_cons_zero, List.set_cons_succ]
          generalize xv 0 = y0 at *
          generalize xv 1 = y1 at *
          generalize xv 2 = y2 at *
          generalize xv 3 = y3 at *
          generalize xv 4 = y4 at *
          generalize xv 5 = y5 at *
          generalize xv 6 = y6 at *
          generalize xv 7 = y7 at *
          generalize xv 8 = y8 at *
          generalize xv 9 = y9 at *
          generalize xv 10 = y10 at *
          generalize xv 11 = y11 at *
          generalize xv 12 = y12 at *
          generalize xv 13 = y13 at *
          generalize xv 14 = y14 at *
          generalize xv 15 = y15 at *
          obtain ⟨vb, hg5, hvb⟩ := h15
          have HG5 := Lib.hid hg5
          have HVB5 := Lib.hid hvb
          have HKK := Lib.hid hS
          have hz5 := hS.size
          clear hg5 hvb hS HOK HOK2
          have HOK := Lib.hid (fun q k => HKO.out q k _ _ _ HOA.out.2)
          have HOK2 := Lib.hid (fun q k => HKO.out q k _ _ _ HOB.out.2)
          have hN5 : g < wE.heap.size := by omega
          generalize hw5 : wE = w5 at *
          clear hw5
          go_wp2_with fail
          refine wp_region_rely (fun q => Kept (oneRow g) w5 q) (bfV [.eq (.pointer (some ⟨g, 2, none⟩)), .eq (.slice none 0 0), .eq (.slice (some ⟨rb, 0, none⟩) m cp2), .eq (.int .i64 (a2 : Int)), .eq (.pointer (some ⟨rb, a2 * 3, none⟩)), .eq (.pointer (some ⟨rb, a2 * 3 + 2, none⟩)), .eq (.slice (some ⟨pda, 0, none⟩) la cda), .own w5.heap.size 3 1 la ya, .eq (.slice (some ⟨rb, 0, none⟩) m cp2), .eq (.int .i64 (b2 : Int)), .eq (.pointer (some ⟨rb, b2 * 3, none⟩)), .eq (.pointer (some ⟨rb, b2 * 3 + 2, none⟩)), .eq (.slice (some ⟨pdb, 0, none⟩) lb cdb), .own w5.heap.size 3 1 (la + lb) (ya ++ yb), .eq (.pointer (some ⟨g, 2, none⟩)), .of (fun u q => ∃ u', Lies q g 125 #[.int .u64 (SM : Int), vb, u'] ∧ q.ownsRow w5.heap.size 3 1 u' (la + lb) (ya ++ yb)) (fun _ _ _ hb ⟨u', h1, h2⟩ => ⟨u', h1.below hb h1.lt, owned_below h2 hb⟩), .of (fun _ q => Lies q g 125 #[.int .u64 (SM : Int), vb, .slice none 0 0]) (fun _ _ _ hb h1 => h1.below hb h1.lt)]) [some 91, some 92, some 93, some 94, some 95, some 96, some 97, some 98, some 99, some 100, some 101, some 102, some 103, some 104, some 105, none] [[], [0, 16], [], [], [2, 3], [4], [5], [1, 6], [], [], [8, 9], [10], [11], [7, 12], [], [14, 13, 16]] [[], [0], [], [], [2, 3], [2, 3, 4], [4, 5], [0, 1, 5, 6], [], [], [8, 9], [8, 9, 10], [10, 11], [1, 6, 7, 11, 12], [0, 1, 2, 3, 4, 5, 6, 7, 8, 9, 10, 11, 12], [0, 1, 2, 3, 4, 5, 6, 7, 8, 9, 10, 11, 12, 13, 14, 16]] [[2, 3, 4, 5, 6, 7, 8, 9, 10, 11, 12, 13, 16], [2, 3, 4, 5, 6, 8, 9, 10, 11, 12, 13, 16], [0, 1, 3, 5, 6, 7, 8, 9, 10, 11, 12, 13, 16], [0, 1, 2, 5, 6, 7, 8, 9, 10, 11, 12, 13, 16], [0, 1, 6, 7, 8, 9, 10, 11, 12, 13, 16], [0, 1, 7, 8, 9, 10, 11, 12, 13, 16], [0, 1, 8, 9, 10, 11, 12, 13, 16], [2, 3, 8, 9, 10, 11, 12, 16], [0, 1, 2, 3, 4, 5, 6, 7, 9, 11, 12, 13, 16], [0, 1, 2, 3, 4, 5, 6, 7, 8, 11, 12, 13, 16], [0, 1, 2, 3, 4, 5, 6, 7, 12, 13, 16], [0, 1, 2, 3, 4, 5, 6, 7, 13, 16], [0, 1, 2, 3, 4, 5, 6, 7, 16], [2, 3, 4, 8, 9, 16], [13, 16], []] [0, 1, 2, 3, 4, 5, 6, 7, 8, 9, 10, 11, 12, 13, 14, 15] 17 (by kernel_rfl) (by kernel_rfl) (by kernel_rfl) (by kernel_rfl) ?rS ?rI ?rT ?rE
          case rS => exact Kept.drewN _ _ 1
          case rI =>
           intro j h1 h2
           have h2 : 16 ≤ j := h2
           obtain rfl : j = 16 := by omega
           exact Lies.drewN HG5.out 1
          case rT =>
           refine RelySteps.cons (RelyStep.mk [] [2, 3, 4, 5, 6, 7, 8, 9, 10, 11, 12, 13, 16] rfl rfl rfl (fun xv wS hS hV bq hb K hK => ?_)) ?_
           ·clear hV
            simp only [putsOf, List.foldl_cons, List.foldl_nil, List.getD_cons_zero, List.getD_cons_succ, List.getD_nil, cond_true, cond_false, Act.put, List.setIfInBounds_toArray, List.set_cons_zero, List.set_cons_succ] at hb
            subst hb
            rw [if_pos (by rfl)]
            go_wp2_with fail
            exact hK.out _ _ ⟨_, rfl, hS, rfl, AllP.same _⟩
           refine RelySteps.cons (RelyStep.mk [0, 16] [2, 3, 4, 5, 6, 8, 9, 10, 11, 12, 13, 16] rfl rfl rfl (fun xv wS hS hV bq hb K hK => ?_)) ?_
           ·obtain ⟨h0, h16, _⟩ := hV
            have h0 : xv 0 = _ := h0
            simp only [putsOf, List.foldl_cons, List.foldl_nil, List.getD_cons_zero, List.getD_cons_succ, List.getD_nil, cond_true, cond_false, Act.put, List.setIfInBounds_toArray, List.set_cons_zero, List.set_cons_succ, h0] at hb
            clear h0
            generalize xv 16 = y16 at *
            subst hb
            rw [if_pos (by rfl)]
            (have q1 : Lies wS g _ _ := h16; have c1 := (q1.cell 2).trans (show _ = some (Value.slice none 0 0) from rfl); have c2 := q1.lt; clear q1 h16)
            go_wp2_with fail
            exact hK.out _ _ ⟨_, rfl, hS, rfl, AllP.same _⟩
           refine RelySteps.cons (RelyStep.mk [] [0, 1, 3, 5, 6, 7, 8, 9, 10, 11, 12, 13, 16] rfl rfl rfl (fun xv wS hS hV bq hb K hK => ?_)) ?_
           ·clear hV
            simp only [putsOf, List.foldl_cons, List.foldl_nil, List.getD_cons_zero, List.getD_cons_succ, List.getD_nil, cond_true, cond_false, Act.put, List.setIfInBounds_toArray, List.set_cons_zero, List.set_cons_succ] at hb
            subst hb
            rw [if_pos (by rfl)]
            go_wp2_with fail
            exact hK.out _ _ ⟨_, rfl, hS, rfl, AllP.same _⟩
           refine RelySteps.cons (RelyStep.mk [] [0, 1, 2, 5, 6, 7, 8, 9, 10, 11, 12, 13, 16] rfl rfl rfl (fun xv wS hS hV bq hb K hK => ?_)) ?_
           ·clear hV
            simp only [putsOf, List.foldl_cons, List.foldl_nil, List.getD_cons_zero, List.getD_cons_succ, List.getD_nil, cond_true, cond_false, Act.put, List.setIfInBounds_toArray, List.set_cons_zero, List.set_cons_succ] at hb
            subst hb
            rw [if_pos (by rfl)]
            go_wp2_with fail
            exact hK.out _ _ ⟨_, rfl, hS, rfl, AllP.same _⟩
           refine RelySteps.cons (RelyStep.mk [2, 3] [0, 1, 6, 7, 8, 9, 10, 11, 12, 13, 16] rfl rfl rfl (fun xv wS hS hV bq hb K hK => ?_)) ?_
           ·obtain ⟨h2, h3, _⟩ := hV
            have h2 : xv 2 = _ := h2
            have h3 : xv 3 = _ := h3
            simp only [putsOf, List.foldl_cons, List.foldl_nil, List.getD_cons_zero, List.getD_cons_succ, List.getD_nil, cond_true, cond_false, Act.put, List.setIfInBounds_toArray, List.set_cons_zero, List.set_cons_succ, h2, h3] at hb
            clear h2
            clear h3
            subst hb
            rw [if_pos (by rfl)]
            go_wp2_with fail
            exact hK.out _ _ ⟨_, rfl, hS, rfl, AllP.same _⟩
           refine RelySteps.cons (RelyStep.mk [4] [0, 1, 7, 8, 9, 10, 11, 12, 13, 16] rfl rfl rfl (fun xv wS hS hV bq hb K hK => ?_)) ?_
           ·obtain ⟨h4, _⟩ := hV
            have h4 : xv 4 = _ := h4
            simp only [putsOf, List.foldl_cons, List.foldl_nil, List.getD_cons_zero, List.getD_cons_succ, List.getD_nil, cond_true, cond_false, Act.put, List.setIfInBounds_toArray, List.set_cons_zero, List.set_cons_succ, h4] at hb
            clear h4
            subst hb
            rw [if_pos (by rfl)]
            go_wp2_with fail
            exact hK.out _ _ ⟨_, rfl, hS, rfl, AllP.same _⟩
           refine RelySteps.cons (RelyStep.mk [5] [0, 1, 8, 9, 10, 11, 12, 13, 16] rfl rfl rfl (fun xv wS hS hV bq hb K hK => ?_)) ?_
           ·obtain ⟨h5, _⟩ := hV
            have h5 : xv 5 = _ := h5
            simp only [putsOf, List.foldl_cons, List.foldl_nil, List.getD_cons_zero, List.getD_cons_succ, List.getD_nil, cond_true, cond_false, Act.put, List.setIfInBounds_toArray, List.set_cons_zero, List.set_cons_succ, h5] at hb
            clear h5
            subst hb
            rw [if_pos (by rfl)]
            (obtain ⟨q1, q2, q3, q4, q5⟩ := HCA.out wS (HKK.out.trans hS (fun _ _ h => h)))
            go_wp2_with fail
            exact hK.out _ _ ⟨_, rfl, hS, rfl, AllP.same _⟩
           refine RelySteps.cons (RelyStep.mk [1, 6] [2, 3, 8, 9, 10, 11, 12, 16] rfl rfl rfl (fun xv wS hS hV bq hb K hK => ?_)) ?_
           ·obtain ⟨h1, h6, _⟩ := hV
            have h1 : xv 1 = _ := h1
            have h6 : xv 6 = _ := h6
            simp only [putsOf, List.foldl_cons, List.foldl_nil, List.getD_cons_zero, List.getD_cons_succ, List.getD_nil, cond_true, cond_false, Act.put, List.setIfInBounds_toArray, List.set_cons_zero, List.set_cons_succ, h1, h6] at hb
            clear h1
            clear h6
            subst hb
            rw [if_pos (by rfl)]
            have HSS := Lib.hid hS
            clear hS
            refine step_list (ops := #[]) (by rfl) (append_argS wS 1 rfl (.tmp 92) (.tmp 97) 49 rfl wS.heap.size 3 _ 8 Tryz.underlying49 Tryz.infoInt rfl (by decide) _ 0 [] rfl (World.ownsRow_nil _ _ _ _) (some ⟨pda, 0, none⟩) la cda rfl ya (SeqS.of_owns (HOK.out wS (HKK.out.trans HSS.out (fun _ _ h => h)))) hya1 (by unfold maxLen; omega) (by omega) (Nat.le_refl _) ?_)
            intro v' w' ho hb hgr
            rw [List.nil_append, Nat.zero_add] at ho
            exact hK.out _ _ ⟨_, rfl, HSS.out.trans (Kept.of_below hb) (fun _ _ hf => hf.elim), owns_base ho HSS.out.size, AllP.of _ (fun j _ u h => bfV_below hb h)⟩
           refine RelySteps.cons (RelyStep.mk [] [0, 1, 2, 3, 4, 5, 6, 7, 9, 11, 12, 13, 16] rfl rfl rfl (fun xv wS hS hV bq hb K hK => ?_)) ?_
           ·clear hV
            simp only [putsOf, List.foldl_cons, List.foldl_nil, List.getD_cons_zero, List.getD_cons_succ, List.getD_nil, cond_true, cond_false, Act.put, List.setIfInBounds_toArray, List.set_cons_zero, List.set_cons_succ] at hb
            subst hb
            rw [if_pos (by rfl)]
            go_wp2_with fail
            exact hK.out _ _ ⟨_, rfl, hS, rfl, AllP.same _⟩
           refine RelySteps.cons (RelyStep.mk [] [0, 1, 2, 3, 4, 5, 6, 7, 8, 11, 12, 13, 16] rfl rfl rfl (fun xv wS hS hV bq hb K hK => ?_)) ?_
           ·clear hV
            simp only [putsOf, List.foldl_cons, List.foldl_nil, List.getD_cons_zero, List.getD_cons_succ, List.getD_nil, cond_true, cond_false, Act.put, List.setIfInBounds_toArray, List.set_cons_zero, List.set_cons_succ] at hb
            subst hb
            rw [if_pos (by rfl)]
            go_wp2_with fail
            exact hK.out _ _ ⟨_, rfl, hS, rfl, AllP.same _⟩
           refine RelySteps.cons (RelyStep.mk [8, 9] [0, 1, 2, 3, 4, 5, 6, 7, 12, 13, 16] rfl rfl rfl (fun xv wS hS hV bq hb K hK => ?_)) ?_
           ·obtain ⟨h8, h9, _⟩ := hV
            have h8 : xv 8 = _ := h8
            have h9 : xv 9 = _ := h9
            simp only [putsOf, List.foldl_cons, List.foldl_nil, List.getD_cons_zero, List.getD_cons_succ, List.getD_nil, cond_true, cond_false, Act.put, List.setIfInBounds_toArray, List.set_cons_zero, List.set_cons_succ, h8, h9] at hb
            clear h8
            clear h9
            subst hb
            rw [if_pos (by rfl)]
            go_wp2_with fail
            exact hK.out _ _ ⟨_, rfl, hS, rfl, AllP.same _⟩
           refine RelySteps.cons (RelyStep.mk [10] [0, 1, 2, 3, 4, 5, 6, 7, 13, 16] rfl rfl rfl (fun xv wS hS hV bq hb K hK => ?_)) ?_
           ·obtain ⟨h10, _⟩ := hV
            have h10 : xv 10 = _ := h10
            simp only [putsOf, List.foldl_cons, List.foldl_nil, List.getD_cons_zero, List.getD_cons_succ, List.getD_nil, cond_true, cond_false, Act.put, List.setIfInBounds_toArray, List.set_cons_zero, List.set_cons_succ, h10] at hb
            clear h10
            subst hb
            rw [if_pos (by rfl)]
            go_wp2_with fail
            exact hK.out _ _ ⟨_, rfl, hS, rfl, AllP.same _⟩
           refine RelySteps.cons (RelyStep.mk [11] [0, 1, 2, 3, 4, 5, 6, 7, 16] rfl rfl rfl (fun xv wS hS hV bq hb K hK => ?_)) ?_
           ·obtain ⟨h11, _⟩ := hV
            have h11 : xv 11 = _ := h11
            simp only [putsOf, List.foldl_cons, List.foldl_nil, List.getD_cons_zero, List.getD_cons_succ, List.getD_nil, cond_true, cond_false, Act.put, List.setIfInBounds_toArray, List.set_cons_zero, List.set_cons_succ, h11] at hb
            clear h11
            subst hb
            rw [if_pos (by rfl)]
            (obtain ⟨q1, q2, q3, q4, q5⟩ := HCA.out wS (HKK.out.trans hS (fun _ _ h => h)))
            go_wp2_with fail
            exact hK.out _ _ ⟨_, rfl, hS, rfl, AllP.same _⟩
           refine RelySteps.cons (RelyStep.mk [7, 12] [2, 3, 4, 8, 9, 16] rfl rfl rfl (fun xv wS hS hV bq hb K hK => ?_)) ?_
           ·obtain ⟨h7, h12, _⟩ := hV
            have h12 : xv 12 = _ := h12
            simp only [putsOf, List.foldl_cons, List.foldl_nil, List.getD_cons_zero, List.getD_cons_succ, List.getD_nil, cond_true, cond_false, Act.put, List.setIfInBounds_toArray, List.set_cons_zero, List.set_cons_succ, h12] at hb
            generalize xv 7 = y7 at *
            clear h12
            subst hb
            rw [if_pos (by rfl)]
            have HSS := Lib.hid hS
            have h7 : wS.ownsRow w5.heap.size 3 1 y7 la ya := h7
            clear hS
            refine step_list (ops := #[]) (by rfl) (append_argS wS 1 rfl (.tmp 98) (.tmp 103) 49 rfl w5.heap.size 3 _ 8 Tryz.underlying49 Tryz.infoInt rfl (by decide) y7 la ya rfl h7 (some ⟨pdb, 0, none⟩) lb cdb rfl yb (SeqS.of_owns (HOK2.out wS (HKK.out.trans HSS.out (fun _ _ h => h)))) hyb1 (by unfold maxLen; omega) (by omega) HSS.out.size ?_)
            intro v' w' ho hb hgr
            have hk := Kept.of_grown hgr
            exact hK.out _ _ ⟨_, rfl, HSS.out.trans hk (fun i hi hs => by have := (own_lt h7 hs).1; omega), ho, AllP.of _ (fun j hj u h => bfV_or (k := 16) (by rfl) hj h (fun hl => Lies.kept hl hk (fun hs => by have := (own_lt h7 hs).1; omega)))⟩
           refine RelySteps.cons (RelyStep.mk [] [13, 16] rfl rfl rfl (fun xv wS hS hV bq hb K hK => ?_)) ?_
           ·clear hV
            simp only [putsOf, List.foldl_cons, List.foldl_nil, List.getD_cons_zero, List.getD_cons_succ, List.getD_nil, cond_true, cond_false, Act.put, List.setIfInBounds_toArray, List.set_cons_zero, List.set_cons_succ] at hb
            subst hb
            rw [if_pos (by rfl)]
            go_wp2_with fail
            exact hK.out _ _ ⟨_, rfl, hS, rfl, AllP.same _⟩
           refine RelySteps.cons (RelyStep.mk [14, 13, 16] [] rfl rfl rfl (fun xv wS hS hV bq hb K hK => ?_)) ?_
           ·obtain ⟨h14, h13, h16, _⟩ := hV
            have h14 : xv 14 = _ := h14
            simp only [putsOf, List.foldl_cons, List.foldl_nil, List.getD_cons_zero, List.getD_cons_succ, List.getD_nil, cond_true, cond_false, Act.put, List.setIfInBounds_toArray, List.set_cons_zero, List.set_cons_succ, h14] at hb
            clear h14
            generalize xv 13 = y13 at *
            generalize xv 16 = y16 at *
            subst hb
            rw [if_pos (by rfl)]
            have HSS := Lib.hid hS
            have h16' : Lies wS g 125 #[.int .u64 (SM : Int), vb, .slice none 0 0] := h16
            have h13' : wS.ownsRow w5.heap.size 3 1 y13 (la + lb) (ya ++ yb) := h13
            obtain ⟨A9, c9, rfl⟩ := own_sl h13'
            have f1 := h16'.free 2
            have q1 := (h16'.cell 2).trans (show _ = some (Value.slice none 0 0) from rfl)
            have q2 := h16'.lt
            have H16 := Lib.hid h16'
            have H13 := Lib.hid h13'
            clear hS h16 h13 h16' h13'
            go_wp2_with fail
            exact hK.out _ _ ⟨undef, rfl, HSS.out.trans (Kept.put wS g 2 _) (fun _ _ h => h), ⟨_, H16.out.put 2 _, owns_put H13.out H16.out (by decide) 2 _⟩, AllP.of _ (fun j hj u h => bfV_lit rfl hj h)⟩
           exact RelySteps.nil
          case rE =>
           intro xv wE hS hV
           have h15 := hV 15 (by decide) (by decide)
           clear hV
           simp only [putsOf, List.foldl_cons, List.foldl_nil, List.getD_cons_zero, List.getD_cons_succ, List.getD_nil, cond_true, cond_false, Act.put, List.setIfInBounds_toArray, List.set_cons_zero, List.set_cons_succ]
           generalize xv 0 = y0 at *
           generalize xv 1 = y1 at *
           generalize xv 2 = y2 at *
           generalize xv 3 = y3 at *
           generalize xv 4 = y4 at *
           generalize xv 5 = y5 at *
           generalize xv 6 = y6 at *
           generalize xv 7 = y7 at *
           generalize xv 8 = y8 at *
           generalize xv 9 = y9 at *
           generalize xv 10 = y10 at *
           generalize xv 11 = y11 at *
           generalize xv 12 = y12 at *
           generalize xv 13 = y13 at *
           generalize xv 14 = y14 at *
           generalize xv 15 = y15 at *
           obtain ⟨ud, hg6, hud⟩ := h15
           have hvb6 := owns_kept HVB5.out hS (fun r cur _ hl (e : r = g) => by subst e; exact absurd (hl.same HG5.out).1 (by decide))
           have HK6 := Lib.hid (HKK.out.trans hS (fun _ _ h => h))
           have hz6 := hS.size
           obtain ⟨pd, cd, rfl, hpd, _, hcd1, hcd2, _⟩ := ownsRow_open hud (by omega)
           obtain ⟨pb5, cb5, hvb5, _, hpb5, _, _, _⟩ := ownsRow_open HVB5.out (by omega)
           obtain ⟨dl, hdl⟩ : ∃ dl, dl = (T a2).map (·.2) ++ (T b2).map (·.2) := ⟨_, rfl⟩
           have hdll : dl.length = la + lb := by rw [hdl, HLA.out, HLB.out]; simp
           have hdle : ya ++ yb = cI (incL dl 0) := by rw [incL_zero, hdl, HYA.out, HYB.out, ← cI_append]
           have hdlb : ∀ x ∈ dl, x ≤ 1000 := fun x hx => by
            have hfew := HD4.out.lft.few
            rw [hdl] at hx
            rcases List.mem_append.1 hx with hx | hx
            ·obtain ⟨q, hq, rfl⟩ := List.mem_map.1 hx
             have := ((HD4.out.tr (a1, a2) (by simp)).2.2.1 q hq).2
             omega
            ·obtain ⟨q, hq, rfl⟩ := List.mem_map.1 hx
             have := ((HD4.out.tr (b1, b2) (by simp)).2.2.1 q hq).2
             omega
           rw [hdle] at hud
           have HUD6 := Lib.hid hud
           have HG6 := Lib.hid hg6
           have HVB6 := Lib.hid hvb6
           have HDL := Lib.hid hdl
           have HDLL := Lib.hid hdll
           have HDLB := Lib.hid hdlb
           have HVS := Lib.hid hvb5
           clear hg6 hud hvb6 hS HOK HOK2 HCA HKO HKK HG5 hdl hdll hdlb hdle hvb5
           obtain ⟨N5, hN5e⟩ : ∃ N5, N5 = w5.heap.size := ⟨_, rfl⟩
           rw [← hN5e] at hpd hpb5 hN5 hz5 hz6 HUD6
           have HN5 := Lib.hid hN5e
           clear hN5e
           generalize hw6 : wE = w6 at *
           clear hw6
           unfold maxLen at hcd2
           obtain ⟨lab, hlabe⟩ : ∃ lab, lab = la + lb := ⟨_, rfl⟩
           have HLAB := Lib.hid hlabe
           rw [← hlabe] at hlab hcd1 HUD6 HVB6 HDLL HG6 HVS
           have hlab0 : 0 < lab := by omega
           clear hlabe
           go_wp2_with fail
           go_loopw [12] (fun t wx => ∃ i : Nat, i ≤ lab ∧ t = .int .i64 i ∧ Hid (wx.ownsRow N5 3 1 (.slice (some ⟨pd, 0, none⟩) lab cd) lab (cI (incL dl i))) ∧ Hid (Kept (fun r => N5 ≤ r) w6 wx)) (fun t _ => lab - (intOf t).toNat)
           case atStart => exact ⟨0, Nat.zero_le _, rfl, HUD6, Kept.refl _ _⟩
           case round =>
            clear HUD6
            obtain ⟨i, hi, rfl, hu, hkx⟩ := hrel
            have hgx := HG6.out.kept hkx.out (fun (e : N5 ≤ g) => by omega)
            have hgz := hgx.lt
            have g2 := (hgx.cell 2).trans (show _ = some (Value.slice (some ⟨pd, 0, none⟩) lab cd) from rfl)
            by_cases hil : i < lab
            ·have hii : (i : Int) < (lab : Int) := by omega
             obtain ⟨x, hx⟩ : ∃ x, dl[i]? = some x := ⟨_, List.getElem?_eq_getElem (by rw [HDLL.out]; exact hil)⟩
             have hx1 := HDLB.out x (List.mem_of_getElem? hx)
             have cx := owns_cell hu.out (cI_get (incL_get hx))
             have fx := owns_free hu.out (k := i) (by omega)
             have eX : IntKind.i64.wrap ((x : Int) + 1) = ((x + 1 : Nat) : Int) := by rw [IntKind.wrap_i64]; omega
             obtain ⟨X, hX⟩ : ∃ X, X = x + 1 := ⟨_, rfl⟩
             rw [← hX] at eX
             have hs1 := owns_set (u := .int .i64 (X : Int)) hu.out (k := i) (by omega)
             rw [cI_set, hX, incL_step hx, ← hX] at hs1
             have HS1 := Lib.hid hs1
             have HK1 := Lib.hid (hkx.out.trans ((Kept.put wr pd i (.int .i64 (X : Int))).mono (fun r _ (e : r = pd) => by show N5 ≤ r; omega)) (fun _ _ h => h))
             clear hgx hx hs1 hX hu hkx
             go_wp2_with fail
             go_roundw
             case rel => exact ⟨i + 1, by omega, by go_num, HS1, HK1⟩
             case measure => simp [intOf]; omega
            ·obtain rfl : lab = i := by omega
             have hinc : incL dl lab = dl.map (· + 1) := by have := incL_all dl; rw [HDLL.out] at this; exact this
             have hu2 := hu.out
             rw [hinc] at hu2
             have hk4 : Kept (oneRow g) w4 wr := HK6.out.trans hkx.out (fun r hr (e : N5 ≤ r) => by omega)
             have hvb := owns_kept HVB6.out hkx.out (fun r cur hv hl (e : N5 ≤ r) => by
              rw [HVS.out] at hv
              have hv : some pb5 = some r := hv
              have := Option.some.inj hv
              omega)
             have hD := HD4.out.kept hk4 (fun r hr (e : r = g) => by
              have hr : some rb = some r := hr
              have := Option.some.inj hr
              omega) (fun r cur (e : r = g) hl => by
              subst e
              exact absurd (hl.same HG4.out).1 (by decide))
             obtain ⟨_, c7, _, _, f7, _, _⟩ := dt_at hD.row HM0.out HMA.out
             have hr7 := dt_set hD.row HMA.out (.slice none 0 0)
             have hab : a2 ≠ b2 := by
              have := hD.lft.nod
              simp only [List.map_cons, List.nodup_cons, List.mem_cons, not_or] at this
              exact this.1.1
             have hMB' : (M.set a2 (a1, .slice none 0 0, .slice (some ⟨pda, 0, none⟩) la cda))[b2]? = some (b1, .slice (some ⟨pb, 0, none⟩) lb cb, .slice (some ⟨pdb, 0, none⟩) lb cdb) := by rw [List.getElem?_set_ne hab]; exact HMB.out
             have hrow7 : (wr.setCell ⟨rb, a2 * 3 + 1, none⟩ (.slice none 0 0)).ownsRow B 125 3 (.slice (some ⟨rb, 0, none⟩) M.length cp2) M.length (rowsOf dtC (M.set a2 (a1, .slice none 0 0, .slice (some ⟨pda, 0, none⟩) la cda))) := hr7
             obtain ⟨_, c8, _, _, f8, _, _⟩ := dt_at hrow7 HM0.out hMB'
             have hr8 := dt_set hrow7 hMB' (.slice none 0 0)
             simp only at c7 c8
             have k8 := (Kept.put wr rb (a2 * 3 + 1) (.slice none 0 0)).trans (Kept.put _ rb (b2 * 3 + 1) (.slice none 0 0)) (fun _ _ h => h)
             have hty : ∀ r cur, oneRow rb r → ¬ Lies wr r 3 cur := fun r cur (e : r = rb) hl => by
              subst e
              exact own_ne hD.row hl (by decide) rfl
             have hg8 := (HG6.out.kept hkx.out (fun (e : N5 ≤ g) => by omega)).kept k8 (fun (e : g = rb) => by omega)
             have HU8 := Lib.hid (owns_kept hu2 k8 (fun r cur _ hl e => hty r cur e hl))
             have HV8 := Lib.hid (owns_kept hvb k8 (fun r cur _ hl e => hty r cur e hl))
             have HOLD8 := Lib.hid (fun t x y (h : TrB wr B t x y) => h.kept k8 hty)
             have hz8 := k8.size
             have hz7 := hkx.out.size
             have HB8 := Lib.hid (((HB4.out.trans (hk4.below (B := B) (by omega) (fun r hr (e : r = g) => by omega))).setCell (p := ⟨rb, a2 * 3 + 1, none⟩) hrB (.slice none 0 0)).setCell (p := ⟨rb, b2 * 3 + 1, none⟩) hrB (.slice none 0 0))
             rw [← HM.out] at hr8
             have HR8 := Lib.hid hr8
             have HG8 := Lib.hid hg8
             have HDX := Lib.hid hD
             clear hu2 hk4 hvb hD hr7 hMB' hrow7 hr8 k8 hty hg8 hu hkx hinc
             go_upto_region 29 with (fail)
             clear c7 c8 f7 f8
             generalize (wr.setCell ⟨rb, a2 * 3 + 1, none⟩ (.slice none 0 0)).setCell ⟨rb, b2 * 3 + 1, none⟩ (.slice none 0 0) = w8 at *
             have g0 := (HG8.out.cell 0).trans (show _ = some (Value.int .u64 (SM : Int)) from rfl)
             have g1 := (HG8.out.cell 1).trans (show _ = some vb from rfl)
             have g2 := (HG8.out.cell 2).trans (show _ = some (Value.slice (some ⟨pd, 0, none⟩) lab cd) from rfl)
             have ggz := HG8.out.lt
             have hB8 : B ≤ w8.heap.size := by omega
             have hvs := HVS.out
             subst hvs
             go_wp2_with (at_builtin; refine append_oneS w8 #[.int .u64 (SM : Int), .slice (some ⟨pb5, 0, none⟩) lab cb5, .slice (some ⟨pd, 0, none⟩) lab cd] 3 rfl (.tmp 128) (.tmp 130) 123 rfl B 125 _ 56 Tryz.underlying123 infoTree rfl (by decide) rfl (by simp [Value.oneCell']) _ _ _ rfl HR8.out rfl (by unfold maxLen; omega) (by omega) hB8 ?_)
             intro v' w9 ho9 hb9 hgr9
             have hk9 := kept_grown hgr9
             have hty9 : ∀ r cur, (Value.slice (some ⟨rb, 0, none⟩) m cp2).ownBlock = some r → ¬ Lies w8 r 3 cur := fun r cur hr hl => own_ne HR8.out hl (by decide) hr
             have hu9 := owns_kept HU8.out hk9 (fun r cur _ hl e => hty9 r cur e hl)
             have hv9 := owns_kept HV8.out hk9 (fun r cur _ hl e => hty9 r cur e hl)
             have hrow9 : w9.ownsRow B 125 3 v' (M.length + 1) (rowsOf dtC (mrgD M (a1, a2) (b1, b2) (.slice (some ⟨pda, 0, none⟩) la cda) (.slice (some ⟨pdb, 0, none⟩) lb cdb) SM (.slice (some ⟨pb5, 0, none⟩) lab cb5) (.slice (some ⟨pd, 0, none⟩) lab cd))) := by
              rw [HM.out] at ho9
              unfold mrgD
              rw [rowsOf_append, rowsOf_one]
              exact ho9
             have hnew : TrB w9 B (joinT (T a2) (T b2)) (.slice (some ⟨pb5, 0, none⟩) lab cb5) (.slice (some ⟨pd, 0, none⟩) lab cd) := by
              unfold TrB
              rw [joinT_length, ← HLA.out, ← HLB.out, ← HLAB.out, join_fst, join_snd, cI_append, ← HXA.out, ← HXB.out, ← HDL.out]
              exact ⟨owns_base hv9 (by omega), owns_base hu9 (by omega)⟩
             have hSl : SM < 18446744073709551616 := by rw [HSM.out]; exact sumW_lt a1 b1
             have HD9 := Lib.hid (HDX.out.step hn256 hSl ⟨_, _, _, rfl⟩ ⟨_, _, _, rfl⟩ hrow9 (fun t x y h => (HOLD8.out t x y h).kept hk9 hty9) hnew)
             have hR9 := hR.out
             rw [trF_step] at hR9
             simp only at hR9
             rw [← HSM.out] at hR9
             have HR9 : Hid (R = trF (insL (SM, M.length) r) (mrgD M (a1, a2) (b1, b2) (.slice (some ⟨pda, 0, none⟩) la cda) (.slice (some ⟨pdb, 0, none⟩) lb cdb) SM (.slice (some ⟨pb5, 0, none⟩) lab cb5) (.slice (some ⟨pd, 0, none⟩) lab cd)).length (putT T M.length (joinT (T a2) (T b2)))) := by rw [mrgD_length]; exact hR9
             have HB9 := Lib.hid (HB8.out.trans hb9)
             clear ho9 hb9 hgr9 hk9 hty9 hu9 hv9 hrow9 hnew hSl hR9 g0 g1 g2 HDX HR8 HU8 HV8 HOLD8 HB8
             go_wp2
             go_roundw
             case rel => exact ⟨k + 1, _, _, _, by omega, by rw [mrgD_length, ← HM.out]; have := HMK.out; omega, by go_num, HD9, HR9, HB9⟩
             case measure => simp [intOf]; omega
      ·match s, hsl, hD, hR with
       | [], hsl, hD, _ => exact absurd hD.out.last (by simp)
       | x :: y :: r, hsl, _, _ => simp at hsl; omega
       | [a], hsl, hD, hR =>
        obtain ⟨a1, a2⟩ := a
        simp only [List.length_cons, List.length_nil] at hsl
        have hRT := hR.out
        rw [trF_one] at hRT
        have hlast := hD.out.last
        simp only [List.map_cons, List.map_nil, List.mem_singleton] at hlast
        obtain ⟨_, hT0, hTq, ba, da, hMa, hTA⟩ := hD.out.tr (a1, a2) (by simp)
        simp only at hRT hT0 hTq hMa hTA
        rw [← hRT] at hT0 hTq hTA
        have hsum := hD.out.sum
        simp only [List.map_cons, List.map_nil, List.sum_cons, List.sum_nil] at hsum
        rw [← hRT] at hsum
        have hM0 : 0 < M.length := by rw [← HM.out]; omega
        obtain ⟨rb, rfl, hrB, _⟩ := dt_cells hD.out.row hM0
        obtain ⟨c0, c1, c2, _, _, _, hrl⟩ := dt_at hD.out.row hM0 hMa
        have hm1 : m = a2 + 1 := by rw [HM.out]; omega
        have hlf : M.length ≤ 1000 := hD.out.lft.few
        have hkn : k = n := by omega
        have x1 : decide ((k : Int) < (n : Int)) = false := by simp; omega
        have x2 : decide (k < n) = false := by simp; omega
        have hn0 : (0 : Int) < (n : Int) := by omega
        have hai : (a2 : Int) < ((a2 + 1 : Nat) : Int) := by omega
        simp only at c0 c1 c2
        obtain ⟨la, hla⟩ : ∃ la, la = R.length := ⟨_, rfl⟩
        have hTA' := hTA
        unfold TrB at hTA'
        rw [← hla] at hTA' hsum hT0
        obtain ⟨pa, ca, rfl, hpB, _, hca1, hca2, _⟩ := ownsRow_open hTA'.1 hT0
        obtain ⟨pd, cd, rfl, hdB, _, hcd1, hcd2, _⟩ := ownsRow_open hTA'.2 hT0
        unfold maxLen at hca2 hcd2
        have HLA := Lib.hid hla
        have HTA := Lib.hid hTA'
        have HTQ := Lib.hid hTq
        have hsum : la ≤ 256 := by omega
        have hbz2 : B ≤ wr.heap.size := hbz
        have HL1r := Lib.hid (L1.out.below hB.out (by omega))
        have HL2r := Lib.hid (L2.out.below hB.out (by omega))
        have HBr2 := Lib.hid (HB1.out.trans (hB.out.mono (by omega)))
        rw [hm1] at hq1
        clear hR hD hRT hlast hMa hTA hTA' hTq hM0 hlf hla hsl hMk hB
        subst hm1
        clear HM hkn hlt
        go_upto_region 32 with (fail)
        have HG := Lib.hid (Lies.made wr 125 #[.int .u64 (a1 : Int), .slice (some ⟨pa, 0, none⟩) la ca, .slice (some ⟨pd, 0, none⟩) la cd])
        have hbl : Below wr.heap.size wr (wr.alloc (.cells #[.int .u64 (a1 : Int), .slice (some ⟨pa, 0, none⟩) la ca, .slice (some ⟨pd, 0, none⟩) la cd] 125)) := (Below.refl _ _).alloc (Nat.le_refl _) _
        have HTA2 := Lib.hid (And.intro (owned_below HTA.out.1 hbl) (owned_below HTA.out.2 hbl))
        have HL1w := Lib.hid (HL1r.out.below hbl (by omega))
        have hl2w := HL2r.out.below hbl (by omega)
        have HBw := Lib.hid (HBr2.out.trans (hbl.mono (by omega)))
        have hB2 : B ≤ (wr.alloc (.cells #[.int .u64 (a1 : Int), .slice (some ⟨pa, 0, none⟩) la ca, .slice (some ⟨pd, 0, none⟩) la cd] 125)).heap.size := by simp; omega
        obtain ⟨g, hg⟩ : ∃ g, g = wr.heap.size := ⟨_, rfl⟩
        rw [← hg] at HG hbz hbz2 ⊢
        rw [HZ.out] at hl2w
        have HL2w : Hid (Lies (wr.alloc (.cells #[.int .u64 (a1 : Int), .slice (some ⟨pa, 0, none⟩) la ca, .slice (some ⟨pd, 0, none⟩) la cd] 125)) (w.heap.size + 1 + 1) 78 (c8 (setT (List.replicate 256 0) (R.take 0))).toArray) := hl2w
        clear hbl HTA HL1r HL2r HBr2 hl2w hg c0 c1 c2 hrl
        generalize wr.alloc (.cells #[.int .u64 (a1 : Int), .slice (some ⟨pa, 0, none⟩) la ca, .slice (some ⟨pd, 0, none⟩) la cd] 125) = w2 at *
        go_wp2_with fail
        go_loopw [14] (fun t wx => ∃ i : Nat, i ≤ la ∧ t = .int .i64 i ∧ Hid (Lies wx (w.heap.size + 1 + 1) 78 (c8 (setT (List.replicate 256 0) (R.take i))).toArray) ∧ Hid (Kept (oneRow (w.heap.size + 1 + 1)) w2 wx)) (fun t _ => la - (intOf t).toNat)
        case atStart => exact ⟨0, Nat.zero_le _, rfl, HL2w, Kept.refl _ _⟩
        case round =>
         clear HL2w
         obtain ⟨i, hi, rfl, hl2, hkx⟩ := hrel
         have hgx := HG.out.kept hkx.out (fun (e : g = w.heap.size + 1 + 1) => by omega)
         have hgz := hgx.lt
         have g1 := (hgx.cell 1).trans (show _ = some (Value.slice (some ⟨pa, 0, none⟩) la ca) from rfl)
         have g2 := (hgx.cell 2).trans (show _ = some (Value.slice (some ⟨pd, 0, none⟩) la cd) from rfl)
         by_cases hil : i < la
         ·have hii : (i : Int) < (la : Int) := by omega
          obtain ⟨q, hq⟩ : ∃ q, R[i]? = some q := ⟨_, List.getElem?_eq_getElem (by rw [← HLA.out]; exact hil)⟩
          have hqm := HTQ.out q (List.mem_of_getElem? hq)
          have ho1 := owns_kept HTA2.out.1 hkx.out (fun r cur hv _ (e : r = w.heap.size + 1 + 1) => by
           have := own_lt HTA2.out.1 hv; omega)
          have ho2 := owns_kept HTA2.out.2 hkx.out (fun r cur hv _ (e : r = w.heap.size + 1 + 1) => by
           have := own_lt HTA2.out.2 hv; omega)
          have hst : (setT (List.replicate 256 0) (R.take i)).set q.1 (q.2 % 256) = setT (List.replicate 256 0) (R.take (i + 1)) := by
           rw [List.take_add_one, hq]
           unfold setT
           rw [List.foldl_append]; rfl
          have hsl : (setT (List.replicate 256 0) (R.take i)).length = 256 := by rw [setT_length, List.length_replicate]
          have e1 : (R.map (·.1))[i]? = some q.1 := by rw [List.getElem?_map, hq]; rfl
          have e2 : (R.map (·.2))[i]? = some q.2 := by rw [List.getElem?_map, hq]; rfl
          obtain ⟨x, d⟩ := q
          simp only at hqm hst e1 e2
          have c1 := owns_cell ho1 (cI_get e1)
          have c2 := owns_cell ho2 (cI_get e2)
          have hp1 := (own_lt ho1 rfl).2
          have hp2 := (own_lt ho2 rfl).2
          have hxi : (x : Int) < 256 := by omega
          obtain ⟨z, hz⟩ : ∃ z, (c8 (setT (List.replicate 256 0) (R.take i)))[x]? = some z := ⟨_, List.getElem?_eq_getElem (by rw [c8_length, hsl]; omega)⟩
          have cz := (hl2.out.cell x).trans (show _ = some z by rw [List.getElem?_toArray]; exact hz)
          have fz := hl2.out.free x
          obtain ⟨D, hD⟩ : ∃ D, D = d % 256 := ⟨_, rfl⟩
          have eD : IntKind.u8.wrap (d : Int) = (D : Int) := by rw [IntKind.wrap_u8]; omega
          rw [← hD] at hst
          have hs1 := Lies.putL' hl2.out x (.int .u8 (D : Int))
          rw [c8_set, hst] at hs1
          have HS1 := Lib.hid hs1
          have HK1 := Lib.hid (hkx.out.trans (Kept.put wr (w.heap.size + 1 + 1) x (.int .u8 (D : Int))) (fun _ _ h => h))
          clear hq hqm ho1 ho2 hst hsl e1 e2 hz hD hs1 hl2 hkx hgx
          go_wp2_with fail
          go_still_tail 12, (by kernel_rfl)
          clear g1 g2 c1 c2
          go_wp2_with fail
          exact ⟨⟨i + 1, by omega, by go_num, Lies.drew HS1.out, HK1.out.trans (Kept.drew _ _) (fun _ _ h => h)⟩, by simp [intOf]; omega⟩
         ·obtain rfl : la = i := by omega
          have htk : R.take la = R := List.take_of_length_le (by rw [← HLA.out]; exact Nat.le_refl _)
          have hl2' := hl2.out
          rw [htk, HR2.out] at hl2'
          have LC := Lib.hid hl2'
          have L1E := Lib.hid (HL1w.out.kept hkx.out (fun (e : w.heap.size + 1 = w.heap.size + 1 + 1) => by omega))
          have HBE := Lib.hid (HBw.out.trans (hkx.out.below (B := w.heap.size) (by omega) (fun r hr (e : r = w.heap.size + 1 + 1) => by omega)))
          clear hl2 hl2' hkx hgx htk
          go_upto_region 36 with (fail)
          have lc := LC.out
          obtain ⟨U, hU⟩ : ∃ U, U = c8 (lensW ws) := ⟨_, rfl⟩
          have hUl : U.length = 256 := by rw [hU, c8_length, lensW_length ws H.out.1]
          have hU1 : U.toArray.all (·.oneCell') = true := by rw [hU]; exact c8_one _
          rw [← hU] at lc
          have HU := Lib.hid hU
          have hr := Lib.hid (arr_range lc)
          have ht := Lib.hid (arr_there L1E.out (n := U.toArray.size) (by simp [hUl, HZL.out]))
          have hst := Lib.hid (arr_store L1E.out (L := U) (by simp [hUl, HZL.out]))
          have hi1 : (Tryz.prog.info? 78).map (·.size) = some U.length := by rw [hUl]; exact info8
          have hi2 : (Tryz.prog.info? 78).map (·.size) = some U.toArray.size := by rw [List.size_toArray, hUl]; exact info8
          have HJ2 := Lib.hid hi1
          have HJ3 := Lib.hid hi2
          have HU1 := Lib.hid hU1
          have hbz := Lib.hid (below_cellsA (Nat.le_succ w.heap.size) U 0 wr HBE.out)
          clear hU hU1 hi1 hi2 lc
          go_wp2_with (first | refine wpList_load_mid rfl 78 _ rfl (w.heap.size + 1 + 1) 0 rfl U _ hr.out under8 rfl HJ2.out ?_ | refine wpList_store_mid rfl 78 _ _ rfl (w.heap.size + 1) 0 U.toArray rfl rfl ht.out HJ3.out HU1.out ?_)
          refine bodyPost_ret (v := .agg U.toArray) (results_cell_arr Tryz.results50 _ _ (w.heap.size + 1) U _ rfl (arr_range hst.out) under8 rfl HJ2.out) rfl ⟨by rw [HU.out], hbz.out⟩
theorem Tryz.infoBool : (Tryz.prog.info? 4).map (fun i => (i.zero, i.size, i.bytes)) = some (some (.bool false), 1, 1) := by kernel_rfl
theorem back_next (m : Nat) (b : Bool) (d : List Bool) : (List.replicate (m + 1) (Value.bool false) ++ cellsL d).set m (.bool b) = List.replicate m (Value.bool false) ++ cellsL (b :: d) := by
 rw [List.set_append_left _ _ (by simp), List.replicate_succ', List.set_append_right _ _ (by simp)]
 simp [cellsL]
set_option maxHeartbeats 1000000 in
set_option maxRecDepth 100000 in
theorem refBits (n c : Nat) (w : World) (hn : n < 18446744073709551616) (hc : c ≤ 64) :
  Calls Tryz.prog 53 #[.int .u64 n, .int .i64 c] w fun e w' => ∃ v, e = .returned v ∧ w'.ownsRow w.heap.size 4 1 v c (cellsL (bitsN n c)) ∧ Below w.heap.size w w' := by
 have hmk := fun w => run_make_row' (P := Tryz.prog) 93 4 (.bool false) 1 Tryz.underlying93 Tryz.infoBool rfl .i64 .i64 c (by omega) (by omega) w
 have ho0 := owns_made w 4 (.bool false) rfl c (by unfold maxLen; omega)
 have hb0 : Below w.heap.size w (w.alloc (.cells (madeCells #[Value.bool false] c) 4)) := (Below.refl _ _).alloc (Nat.le_refl _) _
 have hmk := hmk w
 have HO := Lib.hid ho0
 have hn2 : n ≤ 18446744073709551615 := by omega
 clear ho0 hn
 go_enter Tryz.func53, Tryz.ntmps53
 go_wp2
 clear hmk
 generalize w.alloc (.cells (madeCells #[Value.bool false] c) 4) = w0 at *
 obtain ⟨g, hg⟩ : ∃ g, g = w.heap.size := ⟨_, rfl⟩
 have hgl : w.heap.size ≤ g := by omega
 rw [← hg] at HO ⊢
 rw [← hg] at hb0
 clear hg
 go_loopw [0, 6] (fun x t wr => ∃ j k : Nat, j + k = c ∧ t = .int .i64 ((j : Int) - 1) ∧ x = .int .u64 (n / 2 ^ k : Nat) ∧ wr.ownsRow g 4 1 (.slice (some ⟨g, 0, none⟩) c c) c (List.replicate j (Value.bool false) ++ cellsL (bitsN n k)) ∧ Below g w wr)
  (fun _ t _ => (intOf t + 1).toNat)
 case atStart => exact ⟨c, 0, by omega, rfl, by rw [Nat.pow_zero, Nat.div_one], by simpa [bitsN, cellsL] using HO.out, hb0⟩
 case round =>
  clear HO hb0
  obtain ⟨j, k, hjk, rfl, rfl, ho, hb⟩ := hrel
  have hNl : n / 2 ^ k ≤ n := Nat.div_le_self _ _
  rcases Nat.eq_zero_or_pos j with h0 | h0
  ·subst h0
   obtain rfl : k = c := by omega
   have ho2 : World.ownsRow _ _ _ _ _ _ _ := ho
   rw [List.replicate_zero, List.nil_append] at ho2
   have HO := Lib.hid ho2
   clear ho ho2
   generalize n / 2 ^ k = N at *
   go_wp2
   go_ret
   exact ⟨_, rfl, owns_mono HO.out hgl, hb.mono hgl⟩
  ·obtain ⟨m, rfl⟩ : ∃ m, j = m + 1 := ⟨j - 1, by omega⟩
   have hj1 : ((m + 1 : Nat) : Int) - 1 = (m : Int) := by omega
   have hmc : m < c := by omega
   have hmi : (m : Int) < (c : Int) := by omega
   have hcl := owns_cell ho (k := m) (u := .bool false) (by rw [List.getElem?_append_left (by simp)]; simp)
   have hfr := owns_free ho hmc
   have hset := owns_set (u := .bool (decide (n / 2 ^ k % 2 = 1))) ho hmc
   rw [back_next] at hset
   have hnx : decide (n / 2 ^ k % 2 = 1) :: bitsN n k = bitsN n (k + 1) := rfl
   rw [hnx] at hset
   have hdv : n / 2 ^ (k + 1) = n / 2 ^ k / 2 := by rw [Nat.pow_succ, Nat.div_div_eq_div_mul]
   have hbn := hb.setCell (p := ⟨g, m, none⟩) (Nat.le_refl _) (.bool (decide (n / 2 ^ k % 2 = 1)))
   have HSET := Lib.hid hset
   have HBN := Lib.hid hbn
   have HDV := Lib.hid hdv
   have hm0 : (0 : Int) ≤ (m : Int) := by omega
   rw [hj1]
   clear ho hset hbn hdv hnx hb hj1
   generalize n / 2 ^ k = N at *
   by_cases hN : N % 2 = 1
   ·have e1 : ((N : Int) % 2 == 1) = true := by rw [beq_iff_eq]; omega
    rw [decide_eq_true hN] at HSET HBN
    clear hN
    go_wp2
    go_roundw
    case rel => exact ⟨m, k + 1, by omega, by go_num, by rw [HDV.out]; go_num, HSET.out, HBN.out⟩
    case measure => simp [intOf]
   ·have e1 : ((N : Int) % 2 == 1) = false := by rw [beq_eq_false_iff_ne]; omega
    rw [decide_eq_false hN] at HSET HBN
    clear hN
    go_wp2
    go_roundw
    case rel => exact ⟨m, k + 1, by omega, by go_num, by rw [HDV.out]; go_num, HSET.out, HBN.out⟩
    case measure => simp [intOf]
def bytesK (l : List Bool) (k : Nat) : List UInt8 := (List.range ((l.length + 7) / 8)).map fun j => UInt8.ofNat (byteN (l.take k) j)
theorem bytesK_zero (l : List Bool) : cellsB (bytesK l 0) = List.replicate ((l.length + 7) / 8) (Value.int .u8 0) := by
 unfold bytesK cellsB
 rw [List.map_map]
 apply List.ext_getElem
 ·simp
 ·intro i h1 h2
  simp [byteN, bitD]
theorem bytesK_full (l : List Bool) : bytesK l l.length = packB l := by unfold bytesK packB; rw [List.take_of_length_le (Nat.le_refl _)]
theorem bytesK_length (l : List Bool) (k : Nat) : (bytesK l k).length = (l.length + 7) / 8 := by simp [bytesK]
theorem bytesK_off {l : List Bool} {k : Nat} (h : l[k]? = some false) : bytesK l (k + 1) = bytesK l k := by
 have hk : k < l.length := (List.getElem?_eq_some_iff.1 h).1
 have hl : (l.take k).length = k := by rw [List.length_take]; omega
 unfold bytesK
 refine List.map_congr_left fun j hj => ?_
 rw [take_nextB h]
 by_cases e : j = (l.take k).length / 8
 ·subst e; rw [(byteN_near (l.take k) false).1]; simp
 ·rw [byteN_far _ _ _ e]
theorem bytesK_on {l : List Bool} {k : Nat} (h : l[k]? = some true) : bytesK l (k + 1) = (bytesK l k).set (k / 8) (UInt8.ofNat (byteN (l.take k) (k / 8) + 2 ^ (7 - k % 8))) ∧ byteN (l.take k) (k / 8) + 2 ^ (7 - k % 8) < 256 := by
 have hk : k < l.length := (List.getElem?_eq_some_iff.1 h).1
 have hl : (l.take k).length = k := by rw [List.length_take]; omega
 have hn := (byteN_near (l.take k) true).1
 rw [hl] at hn
 simp only [Bool.toNat_true, Nat.one_mul] at hn
 have hlt := byteN_lt (l.take k ++ [true]) (k / 8)
 refine ⟨?_, by omega⟩
 apply List.ext_getElem?
 intro j
 rw [List.getElem?_set]
 unfold bytesK
 by_cases hj : j < (l.length + 7) / 8
 ·by_cases e : k / 8 = j
  ·subst e
   rw [if_pos rfl, if_pos (by simpa using hj)]
   simp only [List.getElem?_map, List.getElem?_range hj, Option.map_some]
   rw [take_nextB h, hn]
  ·rw [if_neg e]
   simp only [List.getElem?_map, List.getElem?_range hj, Option.map_some]
   rw [take_nextB h, byteN_far _ _ _ (by rw [hl]; omega)]
 ·rw [if_neg (by omega), List.getElem?_eq_none (by simp; omega), List.getElem?_eq_none (by simp; omega)]
set_option maxHeartbeats 2000000 in
set_option maxRecDepth 100000 in
theorem refBytes (v : Value) (l : List Bool) (w : World) (h : SeqAt w v (cellsL l)) (hl : l.length ≤ 1099511627776) :
  Calls Tryz.prog 54 #[v] w fun e w' => e = .returned (.string (textB (packB l))) ∧ Below w.heap.size w w' := by
 have H := Lib.hid h
 obtain ⟨A, c, rfl, h1, h2, h3⟩ := h
 rw [cellsL_length] at h1 H ⊢
 unfold maxLen at h2
 clear h3
 obtain ⟨n8, hn8⟩ : ∃ n8, n8 = (l.length + 7) / 8 := ⟨_, rfl⟩
 have hmk := run_make_row' (P := Tryz.prog) 43 5 (.int .u8 0) 1 Tryz.underlying43 Tryz.infoU8 rfl .i64 .i64 n8 (by omega) (by omega) w
 have ho0 := owns_made w 5 (.int .u8 0) rfl n8 (by unfold maxLen; omega)
 have hb0 : Below w.heap.size w (w.alloc (.cells (madeCells #[Value.int .u8 0] n8) 5)) := (Below.refl _ _).alloc (Nat.le_refl _) _
 have hz := bytesK_zero l
 have hfull := bytesK_full l
 have hbl := bytesK_length l
 rw [← hn8] at hz hbl
 rw [← hz] at ho0
 have hdi : ((l.length : Int) + 7) / 8 = (n8 : Int) := by omega
 have HO := Lib.hid ho0
 have HFULL := Lib.hid hfull
 have HBL := Lib.hid hbl
 have hkn : ∀ k, k < l.length → k / 8 < n8 := fun k hk => by omega
 have HKN := Lib.hid hkn
 have hn8l : n8 ≤ 1099511627776 := by omega
 clear ho0 hz hfull hbl hkn hn8
 go_enter Tryz.func54, Tryz.ntmps54
 go_wp2
 clear hmk
 generalize w.alloc (.cells (madeCells #[Value.int .u8 0] n8) 5) = w0 at *
 obtain ⟨g, hg⟩ : ∃ g, g = w.heap.size := ⟨_, rfl⟩
 have hgl : w.heap.size ≤ g := by omega
 rw [← hg] at HO ⊢
 clear hg
 go_loopw [4] (fun u wr => ∃ k : Nat, k ≤ l.length ∧ u = .int .i64 k ∧ wr.ownsRow w.heap.size 5 1 (.slice (some ⟨g, 0, none⟩) n8 n8) n8 (cellsB (bytesK l k)) ∧ Below w.heap.size w wr)
  (fun u _ => l.length - (intOf u).toNat)
 case atStart => exact ⟨0, by omega, rfl, owns_mono HO.out (by omega), hb0⟩
 case round =>
  clear HO hb0
  obtain ⟨k, hk, rfl, ho, hb⟩ := hrel
  by_cases hlt : k < l.length
  ·have hki : (k : Int) < (l.length : Int) := by omega
   obtain ⟨b, hgb⟩ : ∃ b, l[k]? = some b := ⟨_, List.getElem?_eq_getElem hlt⟩
   obtain ⟨A', c', hv, _, _, hc3⟩ := H.out.later_ hb
   rw [cellsL_length] at hv
   simp only [Value.slice.injEq, true_and] at hv
   obtain ⟨rfl, rfl⟩ := hv
   obtain ⟨bb, off, rfl, c1⟩ := hc3 k _ (cellsL_get hgb)
   clear hc3
   cases b
   ·have hof := bytesK_off hgb
    rw [← hof] at ho
    have HO := Lib.hid ho
    clear hof ho hgb
    go_wp2
    go_roundw
    case rel => exact ⟨k + 1, by omega, by go_num, HO.out, hb⟩
    case measure => simp [intOf]; omega
   ·obtain ⟨hon, hlt8⟩ := bytesK_on hgb
    have hkn := HKN.out k hlt
    have hqi : (k : Int) / 8 = ((k / 8 : Nat) : Int) := by omega
    have hri : (k : Int) % 8 = ((k % 8 : Nat) : Int) := by omega
    have hr8 : k % 8 < 8 := Nat.mod_lt _ (by decide)
    have hcl := owns_cell ho (k := k / 8) (u := .int .u8 ((byteN (l.take k) (k / 8) : Nat) : Int)) (by
     unfold cellsB bytesK
     rw [List.getElem?_map, List.getElem?_map, List.getElem?_range (by have := HBL.out k; rw [bytesK_length] at this; omega)]
     simp only [Option.map_some]; rw [byte_val])
    have hfr := owns_free ho hkn
    have hset := owns_set (u := .int .u8 ((byteN (l.take k) (k / 8) + 2 ^ (7 - k % 8) : Nat) : Int)) ho hkn
    rw [cellsB_set _ _ _ hlt8, ← hon] at hset
    have hbn := hb.setCell (p := ⟨g, k / 8, none⟩) hgl (.int .u8 ((byteN (l.take k) (k / 8) + 2 ^ (7 - k % 8) : Nat) : Int))
    have HSET := Lib.hid hset
    have HBN := Lib.hid hbn
    clear hset hbn hgb ho hb hon
    generalize byteN (l.take k) (k / 8) = bv at *
    generalize k / 8 = q at *
    generalize k % 8 = r at *
    have hqn : (q : Int) < (n8 : Int) := by omega
    go_wp2
    go_loopw [5, 6] (fun x y wq => ∃ j : Nat, j ≤ r ∧ y = .int .i64 j ∧ x = .int .u8 (2 ^ (7 - j) : Nat) ∧ wq = wr) (fun _ y _ => r - (intOf y).toNat)
    case atStart => exact ⟨0, by omega, rfl, rfl, rfl⟩
    case round =>
     obtain ⟨j, hj, rfl, rfl, hwq⟩ := hrel
     subst hwq
     by_cases hjr : j < r
     ·have hji : (j : Int) < (r : Int) := by omega
      have hjn : decide (j < r) = true := by simpa using hjr
      have hp : 2 ^ (7 - j) = 2 ^ (7 - (j + 1)) * 2 := by rw [← Nat.pow_succ]; congr 1; omega
      have hp7 : 2 ^ (7 - (j + 1)) ≤ 2 ^ 7 := Nat.pow_le_pow_right (by decide) (by omega)
      have HP := Lib.hid hp
      obtain ⟨U, hU⟩ : ∃ U, U = 2 ^ (7 - (j + 1)) := ⟨_, rfl⟩
      rw [hp, ← hU]
      rw [← hU] at hp7
      have HU := Lib.hid hU
      have hU2 : (((U * 2 : Nat) : Int)) / 2 = (U : Int) := by omega
      have hU3 : U * 2 ≤ 256 := by omega
      have hU4 : (U : Int) ≤ 128 := by omega
      clear hp hU hp7
      go_wp2
      go_roundw
      case rel => exact ⟨j + 1, by omega, by go_num, by rw [← HU.out], trivial⟩
      case measure => simp [intOf]; omega
     ·obtain rfl : j = r := by omega
      have hjn : decide (j < j) = false := by simp
      have hp7 : 2 ^ (7 - j) ≤ 2 ^ 7 := Nat.pow_le_pow_right (by decide) (by omega)
      obtain ⟨U, hU⟩ : ∃ U, U = 2 ^ (7 - j) := ⟨_, rfl⟩
      rw [← hU] at HSET HBN hlt8
      rw [← hU]
      have hu8 : IntKind.u8.wrap ((bv : Int) + (U : Int)) = ((bv + U : Nat) : Int) := by rw [IntKind.wrap_u8]; omega
      clear hU hp7
      go_wp2
      go_roundw
      case rel => exact ⟨k + 1, by omega, by go_num, HSET.out, HBN.out⟩
      case measure => simp [intOf]; omega
  ·obtain rfl : k = l.length := by omega
   rw [HFULL.out] at ho
   have hcv := convert_owned _ _ _ (packB l) n8 (by have := HBL.out l.length; rw [HFULL.out] at this; exact this.symm) ho
   clear ho
   go_wp2
   go_ret
   exact ⟨rfl, hb⟩
end Go.Proofs.YtmadgdmiipgjoaaGreat
