import Derived.Test.YtmadgdmiipgjoaaGreatZz5
namespace Go.Proofs.YtmadgdmiipgjoaaGreat
open Go.RowKit
set_option linter.unusedVariables false
set_option linter.unusedSimpArgs false
theorem ints_row {w : World} {B n : Nat} {v : Value} {O : List Nat} (h : w.ownsRow B 3 1 v n (intsE O)) (hn : 0 < n) : ∃ p c, v = .slice (some ⟨p, 0, none⟩) n c ∧ n ≤ c ∧ c ≤ 9223372036854775807 ∧ p < w.heap.size ∧ B ≤ p ∧ ∀ (k i0 : Nat), O[k]? = some i0 → w.cell? ⟨p, k, none⟩ = some (.int .i64 (i0 : Int)) := by
 obtain ⟨p, c, h1, h2, h3, h4, h5, h6⟩ := ownsRow_open h hn
 unfold maxLen at h5
 exact ⟨p, c, h1, h4, by omega, h3, h2, fun k i0 hk => h6 k _ (by unfold intsE; rw [List.getElem?_map, hk]; rfl)⟩
theorem ev_row {w : World} {B n : Nat} {v : Value} {l : List Ev} (h : w.ownsRow B 36 5 v n (rowsOf evF l)) (hn : 0 < n) : ∃ p c, v = .slice (some ⟨p, 0, none⟩) n c ∧ n ≤ c ∧ c ≤ 9223372036854775807 ∧ p < w.heap.size ∧ B ≤ p := by
 rcases owns_row h with ⟨_, h0, _⟩ | ⟨r, c, cur, rfl, hB, hl, h1, h2⟩
 ·omega
 ·unfold maxLen at h2
  exact ⟨r, c, rfl, h1, by omega, hl.lt, hB⟩
theorem infoEvSz : (Tryz.prog.info? 36).map (·.size) = some 5 := by kernel_rfl
theorem gBr_le {w w' : World} {g B : Nat} (h : Kept (gBr g B) w w') : w.heap.size ≤ w'.heap.size := h.size
theorem rd_gBr {w w' : World} {g B i : Nat} {s : ByteArray} (h : RdAt w g s i) (p : Nat) {t : TypeId} {cs : Array Value} (hk : Kept (oneRow p) w w') (hl : Lies w p t cs) (ht : t ≠ 104) : RdAt w' g s i :=
 ⟨h.1.kept hk (fun (e : g = p) => by subst e; exact ht (hl.same h.1).1), h.2⟩
set_option maxHeartbeats 8000000 in
set_option maxRecDepth 100000 in
theorem readEvents21 (g i : Nat) (s : ByteArray) (most : Int) (w : World) (hR : RdAt w g s i) (hs : s.size ≤ 1099511627776) (hm : most ≤ 65536) (hm0 : -9223372036854775808 ≤ most) :
  Calls Tryz.prog 29 #[.pointer (some ⟨g, 0, none⟩), .int .i64 most] w fun e w' => ∃ v b, ∃ i' : Nat, RdAt w' g s i' ∧ Kept (oneRow g) w w' ∧ (e = .returned (.tuple #[v, .bool b]) ∧ RePost s i most w.heap.size v b i' w') := by
 have HRR := Lib.hid (runsRead g s i most w hR hs (by omega) hm0)
 have hgz := hR.1.lt
 have hE0 : redE s i most ≠ 0 → evT s i most 8 = none := fun h => evT_gone8 (t := 0) (by rw [evT, if_neg h]) (by omega)
 have hE1 : redE s i most = 0 → evT s i most 0 = some ((redOf s i most).map thrE, redAt s i most) := fun h => by rw [evT, if_pos h]
 have hlen : redE s i most = 0 → (redOf s i most).length ≤ 65536 := fun h => by have := redOf_le h; omega
 have hvals := redOf_lt s i most
 have HFEW := Lib.hid (fun t l pos => evT_few (s := s) (i := i) hm t l pos)
 obtain ⟨ths, hths⟩ : ∃ ths, ths = redOf s i most := ⟨_, rfl⟩
 obtain ⟨er, her⟩ : ∃ er, er = redE s i most := ⟨_, rfl⟩
 obtain ⟨i1, hi1⟩ : ∃ i1, i1 = redAt s i most := ⟨_, rfl⟩
 rw [← hths, ← hi1] at hE1
 rw [← hths] at hlen hvals
 rw [← her] at hE0 hE1 hlen
 rw [← hths, ← her, ← hi1] at HRR
 have HE0 := Lib.hid hE0
 have HE1 := Lib.hid hE1
 have HLEN := Lib.hid hlen
 have HVAL := Lib.hid hvals
 clear hR hE0 hE1 hlen hvals hths her hi1
 go_enter Tryz.func29, Tryz.ntmps29
 go_wp2_with fail
 refine HRR.out.mono ?_
 rintro e w1 ⟨v1, rfl, ho1, hr1, hk1⟩
 have HR1 := Lib.hid hr1
 have HK1 := Lib.hid hk1
 have hz1 := hk1.size
 by_cases her0 : er = 0
 ·have hN := HLEN.out her0
  have HEV0 := Lib.hid (HE1.out her0)
  subst her0
  obtain ⟨A1, c1, rfl⟩ := own_sl21 ho1
  obtain ⟨hn1, hn2⟩ : ths.length ≤ c1 ∧ c1 ≤ 9223372036854775807 := by
   obtain ⟨A9, c9, e9, h91, h92, _⟩ := (SeqS.of_owns ho1).form
   simp only [Value.slice.injEq, true_and] at e9
   obtain ⟨rfl, rfl⟩ := e9
   unfold maxLen at h92
   omega
  obtain ⟨N, hNe⟩ : ∃ N, N = ths.length := ⟨_, rfl⟩
  have HNE := Lib.hid hNe
  have HO1 := Lib.hid ho1
  rw [← hNe] at hN hn1 HO1 ⊢
  have hmk := run_make_rowS (P := Tryz.prog) 22 36 (.agg #[.int .i64 0, .int .i64 0, .int .i64 0, .int .u64 0, .int .u64 0]) 5 40 Tryz.underlying22 infoEv21 .i64 .i64 N (by omega) (by omega) w1
  have ho0 := owned_rows evF_length (by decide) w1 36 zeroE #[.int .i64 0, .int .i64 0, .int .i64 0, .int .u64 0, .int .u64 0] rfl N (by unfold maxLen; omega)
  have hb0 := (Below.refl w1.heap.size w1).alloc (Nat.le_refl _) (.cells (madeCells #[.int .i64 0, .int .i64 0, .int .i64 0, .int .u64 0, .int .u64 0] (N * 5)) 36)
  have HL2 := Lib.hid ho0
  have HO2 := Lib.hid (owned_below HO1.out hb0)
  have HR2 := Lib.hid (rd_below HR1.out hb0)
  have hz2 : (w1.alloc (.cells (madeCells #[.int .i64 0, .int .i64 0, .int .i64 0, .int .u64 0, .int .u64 0] (N * 5)) 36)).heap.size = w1.heap.size + 1 := by simp
  have hk2 := (HK1.out.mono (T := gBr g w1.heap.size) (fun k hk (e : k = g) => .inl e)).trans (Kept.of_below hb0) (fun _ _ (hf : noRow _) => hf.elim)
  have HK2 := Lib.hid hk2
  clear ho1 hr1 hk1 HK1 HR1 HO1 ho0 hb0 hk2 hNe HLEN HE0 HE1 HRR
  go_wp2_with fail
  clear hmk
  obtain ⟨B, hB⟩ : ∃ B, B = w1.heap.size := ⟨_, rfl⟩
  rw [← hB] at HL2 HK2 hz1 hz2 ⊢
  have hgB : g < B := by omega
  clear hB
  generalize w1.alloc (.cells (madeCells #[.int .i64 0, .int .i64 0, .int .i64 0, .int .u64 0, .int .u64 0] (N * 5)) 36) = w2 at *
  have hB2 : B < w2.heap.size := by omega
  clear hz2
  go_loopw [30] (fun t wr => ∃ k : Nat, k ≤ N ∧ t = .int .i64 k ∧ Hid (wr.ownsRow B 36 5 (.slice (some ⟨B, 0, none⟩) N N) N (rowsOf evF ((ths.take k).map thrE ++ List.replicate (N - k) zeroE))) ∧ Hid (wr.ownsRow w.heap.size 34 1 (.slice A1 N c1) N (cells64 ths)) ∧ Hid (RdAt wr g s i1) ∧ Hid (Kept (gBr g B) w wr)) (fun t _ => N - (intOf t).toNat)
  case atStart => exact ⟨0, by omega, rfl, HL2.out, HO2.out, HR2.out, HK2.out⟩
  case round =>
   clear HL2 HO2 HR2 HK2
   obtain ⟨k, hk, rfl, hl, ho, hr, hkk⟩ := hrel
   by_cases hlt : k < N
   ·have hki : (k : Int) < (N : Int) := by omega
    obtain ⟨x, hx⟩ : ∃ x, ths[k]? = some x := ⟨_, List.getElem?_eq_getElem (by rw [← HNE.out]; exact hlt)⟩
    have hx64 := HVAL.out x (List.mem_of_getElem? hx)
    unfold M64 at hx64
    obtain ⟨p1, cp1, hp1, _, hpl, _, _, hpc⟩ := ownsRow_open ho.out (by omega)
    have hA1 : A1 = some ⟨p1, 0, none⟩ := by
     simp only [Value.slice.injEq] at hp1
     exact hp1.1
    subst hA1
    have cx := hpc k (.int .u64 (x : Int)) (by unfold cells64; rw [List.getElem?_map, hx]; rfl)
    have hel : ((ths.take k).map thrE ++ List.replicate (N - k) zeroE)[k]? = some zeroE := by
     rw [List.getElem?_append_right (by rw [List.length_map, List.length_take]; omega), List.getElem?_replicate, if_pos (by rw [List.length_map, List.length_take]; have := HNE.out; omega)]
    obtain ⟨ce, fe⟩ := ev_cell hl.out hel (fo := 0) (by decide)
    rw [Nat.add_zero] at ce fe
    have hput := thr_put hlt hx HNE.out.symm
    have hset := owned_set (u := .int .i64 (sm21 x)) hl.out (k := k * 5 + 0) (by rw [rowsOf_length evF_length, List.length_append, List.length_map, List.length_take, List.length_replicate]; have := HNE.out; omega)
    rw [rowsOf_set1 evF_length hel (y := thrE x) (by decide) rfl, hput, Nat.add_zero] at hset
    have hkp := Kept.put wr B (k * 5) (.int .i64 (sm21 x))
    have hLB : ∃ cur, Lies wr B 36 cur := by
     rcases owns_row hl.out with ⟨h9, _⟩ | ⟨r9, c9, cur9, h9, _, hl9, _⟩
     ·cases h9
     ·simp only [Value.slice.injEq, Option.some.injEq, Addr.mk.injEq, and_true, true_and] at h9
      obtain ⟨rfl, _⟩ := h9
      exact ⟨_, hl9⟩
    obtain ⟨curB, hLB⟩ := hLB
    have HL3 := Lib.hid hset
    have HO3 := Lib.hid (owns_kept ho.out hkp (fun q cur9 _ hl9 (e : q = B) => by subst e; exact absurd (hl9.same hLB).1 (by decide)))
    have HR3 := Lib.hid (rd_gBr (B := B) hr.out B hkp hLB (by decide))
    have HK3 := Lib.hid (hkk.out.trans hkp (fun q hq (e : q = B) => .inr (by omega)))
    have hBl := hLB.lt
    rw [show (evF zeroE)[0]? = some (Value.int .i64 0) from rfl] at ce
    clear hpc hp1 hel hput hset hkp hLB hl ho hr hkk hx
    go_wp2_with fail
    refine (small21 x wr hx64).mono ?_
    rintro e w3 ⟨rfl, rfl⟩
    go_wp2
    go_roundw
    case rel => exact ⟨k + 1, by omega, by go_num, HL3, HO3, HR3, HK3⟩
    case measure => simp [intOf]; omega
   ·obtain rfl : N = k := by omega
    have hl2 := hl.out
    rw [Nat.sub_self, List.replicate_zero, List.append_nil, List.take_of_length_le (by rw [HNE.out]; exact Nat.le_refl _)] at hl2
    have HL3 := Lib.hid hl2
    have HLE : Hid ((ths.map thrE).length = N) := by show _ = _; rw [List.length_map, HNE.out]
    clear hl hl2 ho
    go_wp2_with fail
    go_loopw [42] (fun t wr => ∃ (k : Nat) (l : List Ev) (pos : Nat), k ≤ 8 ∧ t = .int .i64 k ∧ Hid (evT s i most k = some (l, pos)) ∧ Hid (l.length = N) ∧ Hid (wr.ownsRow B 36 5 (.slice (some ⟨B, 0, none⟩) N N) N (rowsOf evF l)) ∧ Hid (RdAt wr g s pos) ∧ Hid (Kept (gBr g B) w wr)) (fun t _ => 8 - (intOf t).toNat)
    case atStart => exact ⟨0, _, _, by omega, rfl, HEV0, HLE, HL3, hr, hkk⟩
    case round =>
     clear HEV0 HLE HL3 hr hkk
     obtain ⟨k, l, pos, hk, rfl, hev, hle, hl, hr, hkk⟩ := hrel
     have hzr := gBr_le hkk.out
     by_cases hk8 : k < 8
     ·have hki : (k : Int) < 8 := by omega
      have hof := of15 l (k : Int) (some ⟨B, 0, none⟩) N wr (by show SeqS wr 5 (.slice (some ⟨B, 0, none⟩) l.length N) l.length _; rw [hle.out]; exact SeqS.of_owns hl.out) (by rw [hle.out]; omega)
      have hOi := (ownE_of l (k : Int) l.length (Nat.le_refl _)).2
      have hOl := ofE_le l (k : Int) l.length
      obtain ⟨O, hO⟩ : ∃ O, O = ofE l (k : Int) l.length := ⟨_, rfl⟩
      have hSK : O.length = 0 → evT s i most (k + 1) = some (l, pos) := fun h => evT_skip hev.out (by rw [← hO]; exact h)
      have hPU : ∀ own pos', ¬ O.length = 0 → rdT s pos O.length 3 = some (own, pos') → evT s i most (k + 1) = some (putK l O own k O.length, pos') := fun own pos' h1 h2 => by
       rw [hO] at h1 h2 ⊢; exact evT_put hev.out h1 h2
      have hFA : ¬ O.length = 0 → rdT s pos O.length 3 = none → evT s i most 8 = none := fun h1 h2 => evT_gone8 (t := k + 1) (by rw [hO] at h1 h2; exact evT_fail hev.out h1 h2) (by omega)
      rw [← hO] at hof hOi hOl
      rw [hle.out] at hof hOi hOl
      have HOI := Lib.hid hOi
      have HSK := Lib.hid hSK
      have HPU := Lib.hid hPU
      have HFA := Lib.hid hFA
      clear hO hOi hSK hPU hFA hev
      go_wp2_with fail
      refine hof.mono ?_
      rintro e w5 ⟨v5, rfl, ho5, hb5⟩
      generalize hwK : wr = wK at *
      clear hwK
      have HL5 := Lib.hid (owned_below hl.out hb5)
      have HR5 := Lib.hid (rd_below hr.out hb5)
      have HK5 := Lib.hid (hkk.out.trans (Kept.of_below hb5) (fun _ _ (hf : noRow _) => hf.elim))
      have hz5 := hb5.size
      have HO5 := Lib.hid ho5
      obtain ⟨A5, c5, rfl⟩ := own_sl21 ho5
      obtain ⟨M, hM⟩ : ∃ M, M = O.length := ⟨_, rfl⟩
      rw [← hM] at hOl HO5 HSK HPU HFA ⊢
      have HM := Lib.hid hM
      clear hl hr hkk hb5 ho5 hM hof
      by_cases hM0 : M = 0
      ·have HEV := Lib.hid (HSK.out hM0)
       subst hM0
       go_wp2_with fail
       go_roundw
       case rel => exact ⟨k + 1, l, pos, by omega, by go_num, HEV, hle, HL5, HR5, HK5⟩
       case measure => simp [intOf]; omega
      ·have y1 : ((M : Int) == 0) = false := by simp; omega
       have y2 : (M == 0) = false := by simpa using hM0
       go_wp2_with fail
       refine (readThread21 g pos M s w5 HR5.out hs (by omega)).mono ?_
       rintro e w6 ⟨v6, b6, pos', hr6, hk6, rfl, hp6⟩
       have HK6 := Lib.hid (HK5.out.trans hk6 (fun q hq (e : q = g) => .inl e))
       have HR6 := Lib.hid hr6
       rcases hp6 with ⟨own, hrt, rfl, hown, how⟩ | ⟨hno, rfl⟩
       ·have HEV := Lib.hid (HPU.out own pos' hM0 hrt)
        have hBw : B < w5.heap.size := (own_lt21 HL5.out (r := B) rfl).2
        have HL6 := Lib.hid (owns_kept HL5.out hk6 (fun r cur _ hl2 (e : r = g) => by subst e; exact absurd (hl2.same HR5.out.1).1 (by decide)))
        have HO6 := Lib.hid (owns_kept HO5.out hk6 (fun r cur _ hl2 (e : r = g) => by subst e; exact absurd (hl2.same HR5.out.1).1 (by decide)))
        obtain ⟨po, co, rfl, hco1, hco2, hpo, hpoB⟩ := ev_row how (by omega)
        have HW6 := Lib.hid how
        have hpB : B < po := by omega
        clear hr6 hk6 hrt how HL5 HO5 HR5 HK5 HSK HPU HFA
        go_wp2_with fail
        go_loopw [62] (fun t wr => ∃ j : Nat, j ≤ M ∧ t = .int .i64 j ∧ Hid (wr.ownsRow B 36 5 (.slice (some ⟨B, 0, none⟩) N N) N (rowsOf evF (putK l O own k j))) ∧ Hid (wr.ownsRow w5.heap.size 36 5 (.slice (some ⟨po, 0, none⟩) M co) M (rowsOf evF (ownK own k j))) ∧
         Hid (wr.ownsRow wK.heap.size 3 1 (.slice A5 M c5) M (intsE O)) ∧ Hid (RdAt wr g s pos') ∧ Hid (Kept (gBr g B) w wr)) (fun t _ => M - (intOf t).toNat)
        case atStart => exact ⟨0, by omega, rfl, HL6.out, HW6.out, HO6.out, HR6.out, HK6.out⟩
        case round =>
         clear HL6 HW6 HO6 HR6 HK6
         obtain ⟨j, hj, rfl, hl, hw, ho, hr, hkk⟩ := hrel
         by_cases hjl : j < M
         ·have hji : (j : Int) < (M : Int) := by omega
          obtain ⟨i0, hi0⟩ : ∃ i0, O[j]? = some i0 := ⟨_, List.getElem?_eq_getElem (by rw [← HM.out]; exact hjl)⟩
          have hiN := HOI.out i0 (List.mem_of_getElem? hi0)
          have hi0i : (i0 : Int) < (N : Int) := by omega
          obtain ⟨p5, cp5, hp5, _, _, hp5l, _, hpc⟩ := ints_row ho.out (by omega)
          have hA5 : A5 = some ⟨p5, 0, none⟩ := by
           simp only [Value.slice.injEq] at hp5
           exact hp5.1
          subst hA5
          have c9 := hpc j i0 hi0
          obtain ⟨x, hx⟩ : ∃ x, own[j]? = some x := ⟨_, List.getElem?_eq_getElem (by rw [hown]; exact hjl)⟩
          have hox : (ownK own k j)[j]? = some x := by rw [ownK_get own k j j (Nat.le_refl _)]; exact hx
          have hgd : own.getD j default = x := by rw [List.getD_eq_getElem?_getD, hx]; rfl
          have hod : O.getD j 0 = i0 := by rw [List.getD_eq_getElem?_getD, hi0]; rfl
          have HP1 : Hid (putK l O own k (j + 1) = (putK l O own k j).set i0 (withT x k)) := by show putK l O own k (j + 1) = _; rw [putK, hod, hgd]
          have HP2 : Hid (ownK own k (j + 1) = (ownK own k j).set j (withT x k)) := by show ownK own k (j + 1) = _; rw [ownK, hgd]
          have HP3 : Hid ((putK l O own k j).length = N) := by show _ = _; rw [putK_length, hle.out]
          have HP4 : Hid ((ownK own k (j + 1))[j]? = some (withT x k)) := by show _ = _; rw [HP2.out, List.getElem?_set_self (by rw [ownK_length, hown]; exact hjl)]
          obtain ⟨ce, fe⟩ := ev_cell hw.out hox (fo := 0) (by decide)
          rw [Nat.add_zero] at ce fe
          rw [show (evF x)[0]? = some (Value.int .i64 x.th) from rfl] at ce
          have hset := owned_set (u := .int .i64 (k : Int)) hw.out (k := j * 5 + 0) (by rw [rowsOf_length evF_length, ownK_length, hown]; omega)
          rw [rowsOf_set1 evF_length hox (y := withT x k) (by decide) rfl, ← HP2.out, Nat.add_zero] at hset
          have hkp := Kept.put wr po (j * 5) (.int .i64 (k : Int))
          obtain ⟨curP, hLP⟩ : ∃ cur, Lies wr po 36 cur := by
           rcases owns_row hw.out with ⟨h9, _⟩ | ⟨r9, c9, cur9, h9, _, hl9, _⟩
           ·cases h9
           ·simp only [Value.slice.injEq, Option.some.injEq, Addr.mk.injEq, and_true, true_and] at h9
            obtain ⟨rfl, _⟩ := h9
            exact ⟨_, hl9⟩
          have HW7 := Lib.hid hset
          have HL7 := Lib.hid (owns_kept hl.out hkp (fun r cur hv _ (e : r = po) => by
           have := Option.some.inj (show some B = some r from hv); omega))
          have HO7 := Lib.hid (owns_kept ho.out hkp (fun q cur9 _ hl9 (e : q = po) => by subst e; exact absurd (hl9.same hLP).1 (by decide)))
          have HR7 := Lib.hid (rd_gBr (B := B) hr.out po hkp hLP (by decide))
          have HK7 := Lib.hid (hkk.out.trans hkp (fun q hq (e : q = po) => .inr (by omega)))
          have hLPl := hLP.lt
          clear hpc hp5 hi0 hx hox hgd hod hset hkp hLP hl hw ho hr hkk
          go_upto_region 22 with (fail)
          clear c9 ce fe
          generalize wr.setCell ⟨po, j * 5, none⟩ (.int .i64 (k : Int)) = w7 at *
          have d0 := (ev_cell HW7.out HP4.out (fo := 0) (by decide)).1
          have d1 := (ev_cell HW7.out HP4.out (fo := 1) (by decide)).1
          have d2 := (ev_cell HW7.out HP4.out (fo := 2) (by decide)).1
          have d3 := (ev_cell HW7.out HP4.out (fo := 3) (by decide)).1
          have d4 := (ev_cell HW7.out HP4.out (fo := 4) (by decide)).1
          rw [Nat.add_zero, show (evF (withT x k))[0]? = some (Value.int .i64 (k : Int)) from rfl] at d0
          rw [show (evF (withT x k))[1]? = some (Value.int .i64 x.kd) from rfl] at d1
          rw [show (evF (withT x k))[2]? = some (Value.int .i64 x.rg) from rfl] at d2
          rw [show (evF (withT x k))[3]? = some (Value.int .u64 (x.tk : Int)) from rfl] at d3
          rw [show (evF (withT x k))[4]? = some (Value.int .u64 (x.vl : Int)) from rfl] at d4
          have hpl7 := World.block_lt_of_cell? w7 _ d0
          have hLq : w7.ownsRow B 36 5 (.slice (some ⟨B, 0, none⟩) N N) (putK l O own k j).length (rowsOf evF (putK l O own k j)) := by rw [HP3.out]; exact HL7.out
          obtain ⟨r9, cap9, e9, _, ⟨cur9, hlB⟩, hth, hst9⟩ := owns_setCells evF_length hLq (i := i0) (by rw [HP3.out]; exact hiN) (withT x k)
          have hr9 : r9 = B := by
           simp only [Value.slice.injEq, Option.some.injEq, Addr.mk.injEq, and_true] at e9
           exact e9.1.symm
          subst hr9
          rw [← HP1.out, HP3.out] at hst9
          have hsz9 : (evC (withT x k)).size = 5 := rfl
          have hth2 : w7.there r9 (i0 * 5) (evC (withT x k)).size := by rw [hsz9]; exact hth
          have hin9 : (Tryz.prog.info? 36).map (·.size) = some (evC (withT x k)).size := by rw [hsz9]; exact infoEvSz
          have hone : (evC (withT x k)).all (·.oneCell') = true := by simp [Value.oneCell']
          have htl : evF (withT x k) = (evC (withT x k)).toList := rfl
          have hkc := kept_cells (g := r9) (evF (withT x k)) (i0 * 5) w7
          rw [htl] at hkc hst9
          have HL8 := Lib.hid hst9
          have HW8 := Lib.hid (owns_kept HW7.out hkc (fun r cur hv _ (e : r = r9) => by
           have := Option.some.inj (show some po = some r from hv); omega))
          have HO8 := Lib.hid (owns_kept HO7.out hkc (fun q cur8 _ hl9 (e : q = r9) => by subst e; exact absurd (hl9.same hlB).1 (by decide)))
          have HR8 := Lib.hid (rd_gBr (B := r9) HR7.out r9 hkc hlB (by decide))
          have HK8 := Lib.hid (HK7.out.trans hkc (fun q hq (e : q = r9) => .inr (by omega)))
          clear hLq hst9 hkc hlB e9 hsz9 hth
          clear htl
          obtain ⟨Y, hY⟩ : ∃ Y, Y = evC (withT x k) := ⟨_, rfl⟩
          have hYe : Y = #[.int .i64 (k : Int), .int .i64 x.kd, .int .i64 x.rg, .int .u64 (x.tk : Int), .int .u64 (x.vl : Int)] := hY
          rw [← hY] at hth2 hin9 hone HL8 HW8 HO8 HR8 HK8
          go_upto_region 23 with (refine wpList_store_mid rfl 36 _ _ rfl r9 (i0 * 5) Y rfl (by rw [hYe]; rfl) hth2 hin9 hone ?_)
          clear hth2 hin9 hone hY hYe d0 d1 d2 d3 d4
          generalize w7.setCells r9 (i0 * 5) Y.toList = w8 at *
          go_wp2
          go_roundw
          case rel => exact ⟨j + 1, by omega, by go_num, HL8, HW8, HO8, HR8, HK8⟩
          case measure => simp [intOf]; omega
         ·obtain rfl : M = j := by omega
          have HP3 : Hid ((putK l O own k M).length = N) := by show _ = _; rw [putK_length, hle.out]
          clear hw ho
          go_wp2_with fail
          go_roundw
          case rel => exact ⟨k + 1, _, _, by omega, by go_num, HEV, HP3, hl, hr, hkk⟩
          case measure => simp [intOf]; omega
       ·have HEN := Lib.hid (HFA.out hM0 hno)
        go_wp2_with fail
        go_ret2
        exact ⟨.slice none 0 0, false, _, HR6.out, rd_end HK6.out hz1, rfl, .inr ⟨HEN.out, rfl⟩⟩
     ·obtain rfl : k = 8 := by omega
      go_wp2_with fail
      go_ret2
      exact ⟨.slice (some ⟨B, 0, none⟩) N N, true, pos, hr.out, rd_end hkk.out hz1, rfl, .inl ⟨l, hev.out, rfl, by rw [hle.out]; exact owns_mono hl.out hz1⟩⟩
 ·have x1 : ((er : Int) != 0) = true := by simp; omega
  have HEN := Lib.hid (HE0.out her0)
  go_wp2_with fail
  go_ret2
  exact ⟨.slice none 0 0, false, _, HR1.out, HK1.out, rfl, .inr ⟨HEN.out, rfl⟩⟩
def greatB (ls : List Nat) : Bool := ls.any fun n => decide (56 < n)
def cdsE (ls : List Nat) : Nat := if greatB ls = true then 1 else if wholeB ls = true then 0 else 3
def cdsOf (ls : List Nat) : List Nat := if cdsE ls = 0 then codL ls else List.replicate 256 0
theorem codL_length (ls : List Nat) : (codL ls).length = 256 := by simp [codL]
theorem cdP_length (ls : List Nat) (k r : Nat) : (cdP ls k r).length = 256 := by simp [cdP]
theorem results_cell_tmp {P : Program} {fn : Func} {p t : Tmp} {ty : TypeId} (h : fn.results = #[.cell p ty, .tmp t]) (tmps : Array Value) (w : World) (g : Nat) (cs : List Value) (d : TypeDesc)
  (hp : tmps.getD p undef = .pointer (some ⟨g, 0, none⟩)) (hc : w.rangeAt g 0 cs) (hu : P.underlying ty = some d) (hd : d.isRow = true) (hi : (P.info? ty).map (·.size) = some cs.length) :
  (results fn tmps).run P w = .ok (.tuple #[.agg cs.toArray, tmps.getD t undef]) w := by
 have hp' : tmps[p]?.getD undef = .pointer (some ⟨g, 0, none⟩) := by simpa using hp
 simp [results, h, hp', asAddr, run_loadVar_mid w g 0 ty cs d hc hu hd hi]
theorem ixI (cs : List Nat) (hl : cs.length = 57) (k : IntKind) (i n : Nat) (hn : cs[i]? = some n) (w : World) : (Instr.index 116 (.agg (cI cs).toArray) (.int k (i : Int))).run Tryz.prog w = .ok (.int .i64 (n : Int)) w :=
 run_index_arr 116 3 57 (cI cs).toArray k i _ underI isAggI sizeOfI (by have := (List.getElem?_eq_some_iff.1 hn).1; omega) (by rw [List.getElem?_toArray]; exact cI_get hn) w
def aft (ls : List Nat) : Nat → Nat
 | 0 => 0
 | k + 1 => (fcM ls k + if k = 0 then 0 else ls.count k) % M64'
theorem aft_lt (ls : List Nat) (k : Nat) : aft ls k < 18446744073709551616 := by
 cases k with
 | zero => show 0 < 18446744073709551616; decide
 | succ k => exact Nat.mod_lt _ (by decide)
theorem aft_two (ls : List Nat) (k : Nat) : (aft ls k * 2) % M64' = fcM ls k := by
 cases k with
 | zero => rfl
 | succ k => rw [fcM, aft, Nat.mul_comm]
theorem size_setCells (b : Nat) : ∀ (vs : List Value) (o : Nat) (w : World), (w.setCells b o vs).heap.size = w.heap.size
 | [], o, w => rfl
 | v :: vs, o, w => by rw [World.setCells, size_setCells b vs (o + 1)]; simp
set_option maxHeartbeats 2000000 in
set_option maxRecDepth 100000 in
theorem huffCodes (ls : List Nat) (w : World) (hl : ls.length = 256) (hlt256 : ∀ x ∈ ls, x < 256) :
  Calls Tryz.prog 42 #[.agg (c8 ls).toArray] w fun e w' => e = .returned (.tuple #[.agg (cells64 (cdsOf ls)).toArray, .int .i64 (cdsE ls : Nat)]) ∧ Below w.heap.size w w' := by
 have hg := ix8 ls .i64
 have hlen : (c8 ls).length = 256 := by rw [c8_length]; exact hl
 have hcm := fun w h => huffComplete ls w h
 have hbk := fun w h => huffNewBook ls w h
 obtain ⟨L, hL⟩ : ∃ L, L = c8 ls := ⟨_, rfl⟩
 rw [← hL] at hg hlen hcm hbk ⊢
 have hi1 : (Tryz.prog.info? 78).map (·.size) = some L.length := by rw [hlen]; exact info8
 have HG := Lib.hid hg
 have HCM := Lib.hid hcm
 have HBK := Lib.hid hbk
 have HI1 := Lib.hid hi1
 obtain ⟨Z, hZ⟩ : ∃ Z, Z = cells64 (List.replicate 256 0) := ⟨_, rfl⟩
 have hz := zero64
 have hzz : (Array.replicate 256 (Value.int .u64 0)) = Z.toArray := by rw [hZ]; unfold cells64; rw [List.map_replicate]; exact (List.toArray_replicate 256 _).symm
 rw [hzz] at hz
 have hzl : Z.length = 256 := by rw [hZ, c64_length, List.length_replicate]
 have hz1 : Z.toArray.all (·.oneCell') = true := by rw [hZ]; exact c64_one _
 have HZ := Lib.hid hZ
 have HZL := Lib.hid hzl
 have HZ1 := Lib.hid hz1
 have HL := Lib.hid hl
 have HLT := Lib.hid hlt256
 clear hg hL hi1 hcm hbk hZ hzz hzl hz1 hl hlt256
 have l0 := (Lies.made w 78 L.toArray).alloc (.cells Z.toArray 80)
 have l1 := Lies.made (w.alloc (.cells L.toArray 78)) 80 Z.toArray
 rw [show (w.alloc (.cells L.toArray 78)).heap.size = w.heap.size + 1 by simp] at l1
 have hb1 := ((Below.refl w.heap.size w).alloc (Nat.le_refl _) (.cells L.toArray 78)).alloc (by simp) (.cells Z.toArray 80)
 have hsz : ((w.alloc (.cells L.toArray 78)).alloc (.cells Z.toArray 80)).heap.size = w.heap.size + 2 := by simp
 have L0 := Lib.hid l0
 have L1 := Lib.hid l1
 have HB1 := Lib.hid hb1
 have HR0 := Lib.hid (arr_range l0)
 have HSZ := Lib.hid hsz
 have hi2 : (Tryz.prog.info? 80).map (·.size) = some Z.length := by rw [HZL.out]; exact info64
 have hi3 : (Tryz.prog.info? 80).map (·.size) = some Z.toArray.size := by rw [List.size_toArray, HZL.out]; exact info64
 have HI2 := Lib.hid hi2
 have HI3 := Lib.hid hi3
 have HTH := Lib.hid (arr_there l1 (n := Z.toArray.size) rfl)
 have HSTO := Lib.hid (arr_store l1 (L := Z) (by simp))
 have HBZ := Lib.hid (below_cellsA (Nat.le_succ w.heap.size) Z 0 _ hb1)
 clear l0 l1 hb1 hsz hi2 hi3
 go_enter Tryz.func42, Tryz.ntmps42
 go_wp2_with (refine wpList_load_mid rfl 78 _ rfl w.heap.size 0 rfl L _ HR0.out under8 rfl HI1.out ?_)
 generalize (w.alloc (.cells L.toArray 78)).alloc (.cells Z.toArray 80) = w1 at *
 have hsame : ∀ wr, wr = w1 → wr = w1 := fun _ h => h
 go_loopw [13] (fun c wr => ∃ i : Nat, i ≤ 256 ∧ c = .int .i64 i ∧ Hid (∀ j, j < i → ls.getD j 0 ≤ 56) ∧ wr = w1)
  (fun c _ => 256 - (intOf c).toNat)
 case atStart => exact ⟨0, by omega, rfl, (fun j hj => by omega), rfl⟩
 case round =>
  obtain ⟨i, hi, rfl, hall, rfl⟩ := hrel
  by_cases hlt : i < 256
  ·have hii : (i : Int) < 256 := by omega
   obtain ⟨n, hn⟩ : ∃ n, ls[i]? = some n := ⟨_, List.getElem?_eq_getElem (by rw [HL.out]; exact hlt)⟩
   have hix := HG.out i n hlt hn
   have hgd := getD_of hn
   by_cases hn56 : 56 < n
   ·have e1 : decide ((56 : Int) < (n : Int)) = true := by simp; omega
    have e2 : decide (56 < n) = true := by simpa using hn56
    have hgr : greatB ls = true := List.any_eq_true.2 ⟨n, List.mem_of_getElem? hn, by simpa using hn56⟩
    have hE : cdsE ls = 1 := by unfold cdsE; rw [if_pos hgr]
    have hO : cdsOf ls = List.replicate 256 0 := by unfold cdsOf; rw [hE]; rfl
    have HE := Lib.hid hE
    have HO := Lib.hid hO
    clear hgr hE hO hn hgd hn56
    go_wp2_with (refine wpList_store_mid rfl 80 _ _ rfl (w.heap.size + 1) 0 Z.toArray rfl rfl HTH.out HI3.out HZ1.out ?_)
    refine bodyPost_ret (v := .tuple #[.agg Z.toArray, .int .i64 1]) (results_cell_tmp Tryz.results42 _ _ (w.heap.size + 1) Z _ rfl (arr_range HSTO.out) under64 rfl HI2.out) rfl ⟨by rw [HE.out, HO.out, ← HZ.out]; rfl, HBZ.out⟩
   ·have e1 : decide ((56 : Int) < (n : Int)) = false := by simp; omega
    have e2 : decide (56 < n) = false := by simpa using hn56
    have hall2 : Hid (∀ j, j < i + 1 → ls.getD j 0 ≤ 56) := fun j hj => by
     by_cases h : j = i
     ·rw [h, hgd]; omega
     ·exact hall.out j (by omega)
    clear hn hgd hn56
    go_wp2_with fail
    go_roundw
    case rel => exact ⟨i + 1, by omega, by go_num, hall2, trivial⟩
    case measure => simp [intOf]; omega
  ·obtain rfl : i = 256 := by omega
   have hok : LOk ls := ⟨HL.out, fun n hn => by
    obtain ⟨j, hj, he⟩ := List.getElem_of_mem hn
    have h1 := hall.out j (by rw [← HL.out]; exact hj)
    rw [getD_of (show ls[j]? = some n by rw [List.getElem?_eq_getElem hj, he])] at h1
    exact h1⟩
   have HOK := Lib.hid hok
   have hgr : greatB ls = false := by
    unfold greatB
    rw [List.any_eq_false]
    intro n hn
    have := hok.2 n hn
    simp; omega
   have HGR := Lib.hid hgr
   clear hok hall hgr
   go_wp2_with (refine wpList_load_mid rfl 78 _ rfl w.heap.size 0 rfl L _ HR0.out under8 rfl HI1.out ?_)
   refine (HCM.out _ HOK.out).mono ?_
   rintro e w2 ⟨rfl, hb2⟩
   have L02 := Lib.hid (L0.out.below hb2 (by rw [HSZ.out]; omega))
   have L12 := Lib.hid (L1.out.below hb2 (by rw [HSZ.out]; omega))
   have HB2 := Lib.hid (HB1.out.trans (hb2.mono (by rw [HSZ.out]; omega)))
   have hz2 : w.heap.size + 2 ≤ w2.heap.size := by have := hb2.size; rw [HSZ.out] at this; exact this
   clear hb2 HTH HSTO HBZ HR0
   by_cases hw : wholeB ls = true
   ·have hE : cdsE ls = 0 := by unfold cdsE; rw [HGR.out, hw]; rfl
    have hO : cdsOf ls = codL ls := by unfold cdsOf; rw [hE]; rfl
    have HE := Lib.hid hE
    have HO := Lib.hid hO
    have HR0 := Lib.hid (arr_range L02.out)
    rw [hw]
    clear hE hO hw
    go_wp2_with (refine wpList_load_mid rfl 78 _ rfl w.heap.size 0 rfl L _ HR0.out under8 rfl HI1.out ?_)
    refine (HBK.out _ HOK.out).mono ?_
    rintro e w3 ⟨v, bs, rfl, hown, hbs, hb3⟩
    have HBS := Lib.hid hbs
    have HOW := Lib.hid hown
    have L13 := Lib.hid (L12.out.below hb3 (by omega))
    have HB3 := Lib.hid (HB2.out.trans (hb3.mono (by omega)))
    have hz3 : w.heap.size + 2 ≤ w3.heap.size := by have := hb3.size; omega
    obtain ⟨A, cp, rfl, hq1, hq2, _⟩ := (SeqS.of_owns hown).form
    unfold maxLen at hq2
    have hC : bs.length ≤ 256 := by rw [hbs.1]; unfold cod; omega
    obtain ⟨C, hCC⟩ : ∃ C, C = bs.length := ⟨_, rfl⟩
    rw [← hCC] at hq1 hC ⊢
    have hown2 := hown
    rw [← hCC] at hown2
    have HOW2 := Lib.hid hown2
    have HCC := Lib.hid hCC
    obtain ⟨T, hT⟩ : ∃ T, T = bkC (cnA ls 256) (.slice A C cp) := ⟨_, rfl⟩
    have hTl : T.length = 58 := by rw [hT, bkC_length (cnA_length ls 256)]
    have hone : T.toArray.all (·.oneCell') = true := by
     rw [hT]
     refine all_oneCell_toArray (fun v hv => ?_)
     unfold bkC at hv
     rcases List.mem_append.1 hv with hv | hv
     ·obtain ⟨i, _, rfl⟩ := List.mem_map.1 hv; rfl
     ·rw [List.mem_singleton.1 hv]; rfl
    rw [← hT]
    have HT := Lib.hid hT
    have HTL := Lib.hid hTl
    obtain ⟨zb, hzb⟩ : ∃ zb : Array Value, zb = Array.replicate 57 (.int .i64 0) ++ #[.slice none 0 0] := ⟨_, rfl⟩
    have hzbk := zeroBk
    rw [← hzb] at hzbk
    have hzbs : zb.size = 58 := by rw [hzb]; simp
    have HZB := Lib.hid hzbs
    have hi4 : (Tryz.prog.info? 118).map (·.size) = some T.toArray.size := by rw [List.size_toArray, hTl]; exact infoBk
    have HI4 := Lib.hid hi4
    have HONE := Lib.hid hone
    have HTH := Lib.hid (arr_there (Lies.made w3 118 zb) (n := T.toArray.size) (hzbs.trans (by rw [List.size_toArray, hTl])))
    have LBK := Lib.hid (arr_store (Lies.made w3 118 zb) (L := T) (hzbs.trans hTl.symm))
    have hk4 := (Kept.alloc (oneRow w3.heap.size) w3 (.cells zb 118)).trans (kept_cellsH T 0 _ (g := w3.heap.size)) (fun _ _ h => h)
    have L14 := Lib.hid (L13.out.kept hk4 (fun e => by have h1 : w.heap.size + 1 = w3.heap.size := e; omega))
    have HO4 := Lib.hid (owns_kept HOW2.out hk4 (fun q cur _ hl e => by have h1 : q = w3.heap.size := e; have := hl.lt; omega))
    have HB4 := Lib.hid (HB3.out.trans (hk4.below (B := w.heap.size) (by omega) (fun k hk e => by have h1 : k = w3.heap.size := e; omega)))
    have hz4 := size_setCells w3.heap.size T 0 (w3.alloc (.cells zb 118))
    rw [show (w3.alloc (.cells zb 118)).heap.size = w3.heap.size + 1 by simp] at hz4
    clear hown hbs hb3 hown2 hCC hT hTl hone hzb hzbs hi4 hk4 HCM HBK L02 L0 L1 L12 HB1 HB2 HB3 L13 HOW HOW2 HSZ HR0
    have HRB := Lib.hid (show World.rangeAt ((w3.alloc (.cells zb 118)).setCells w3.heap.size 0 T) w3.heap.size 0 (cI (cnA ls 256)) from fun j v hv => by
     rw [Nat.zero_add, LBK.out.cell j, List.getElem?_toArray, HT.out]
     unfold bkC
     rw [List.getElem?_append_left (List.getElem?_eq_some_iff.1 hv).1]
     exact hv)
    have hi5 : (Tryz.prog.info? 116).map (·.size) = some (cI (cnA ls 256)).length := by rw [cI_length, cnA_length]; exact infoI
    have HI5 := Lib.hid hi5
    clear hi5
    have HRC := Lib.hid (show World.rangeAt (((w3.alloc (.cells zb 118)).setCells w3.heap.size 0 T).alloc (.cells Z.toArray 80)) w3.heap.size 0 (cI (cnA ls 256)) from fun j v hv => by
     have h1 := HRB.out j v hv
     exact (((Below.refl _ _).alloc (Nat.le_refl _) (.cells Z.toArray 80)).cell (p := ⟨w3.heap.size, 0 + j, none⟩) (by rw [hz4]; exact Nat.lt_succ_self _)).trans h1)
    go_wp2_with (first | refine wpList_store_mid rfl 118 _ _ rfl w3.heap.size 0 T.toArray rfl rfl HTH.out HI4.out HONE.out ?_ | refine wpList_load_mid rfl 116 _ rfl w3.heap.size 0 rfl (cI (cnA ls 256)) _ HRC.out underI rfl HI5.out ?_)
    clear HRC HRB HTH
    generalize (w3.alloc (.cells zb 118)).setCells w3.heap.size 0 T = w4 at *
    obtain ⟨gk, hgk⟩ : ∃ gk, gk = w3.heap.size := ⟨_, rfl⟩
    rw [← hgk] at LBK hz4 hz3 ⊢
    have LB5 := Lib.hid (LBK.out.alloc (.cells Z.toArray 80))
    have L15 := Lib.hid (L14.out.alloc (.cells Z.toArray 80))
    have HO5 := Lib.hid (HO4.out.alloc (.cells Z.toArray 80))
    have HB5 := Lib.hid (HB4.out.alloc (by omega) (.cells Z.toArray 80))
    have LC5 := Lib.hid (Lies.made w4 80 Z.toArray)
    have hz5 : gk + 2 ≤ (w4.alloc (.cells Z.toArray 80)).heap.size := by simp; omega
    rw [hz4] at LC5
    obtain ⟨gc, hgc⟩ : ∃ gc, gc = gk + 1 := ⟨_, rfl⟩
    rw [← hgc] at LC5 ⊢
    have hgc1 : gk < gc := by omega
    clear hgc
    clear hgk hz4 LBK L14 HO4 HB4
    generalize w4.alloc (.cells Z.toArray 80) = w5 at *
    go_loopw [8, 9, 28] (fun co nx ix wr => ∃ k : Nat, k ≤ 57 ∧ ix = .int .i64 k ∧ nx = .int .i64 (pre ls k : Nat) ∧ co = .int .u64 (aft ls k : Nat) ∧ Lies wr gc 80 (cells64 (cdP ls k 0)).toArray ∧ Kept (oneRow gc) w5 wr)
     (fun _ _ ix _ => 57 - (intOf ix).toNat)
    case atStart => exact ⟨0, by omega, rfl, rfl, rfl, by rw [cdP_start, ← HZ.out]; exact LC5.out, Kept.refl _ _⟩
    case round =>
     obtain ⟨k, hk, rfl, rfl, rfl, lc, hkk⟩ := hrel
     have LC := Lib.hid lc
     have HK := Lib.hid hkk
     clear lc hkk
     by_cases hlt : k < 57
     ·have hki : (k : Int) < 57 := by omega
      obtain ⟨ck, hck⟩ : ∃ ck, ck = (if k = 0 then 0 else ls.count k) := ⟨_, rfl⟩
      have hcn : (cnA ls 256)[k]? = some ck := by
       have := mapR_get (n := 57) (fun k => if k = 0 then 0 else ct ls k 256) (i := k) hlt
       rw [ct_all ls k 256 (by rw [HL.out]; exact Nat.le_refl _), ← hck] at this
       exact this
      have hix := ixI (cnA ls 256) (cnA_length ls 256) .i64 k ck hcn
      have hckl : ck ≤ 256 := by
       rw [hck]
       split
       ·omega
       ·exact ls_cnt ls HL.out k
      have hpl := pre_le_all HOK.out (k := k) (by omega)
      have hpn := pre_le_all HOK.out (k := k + 1) (by omega)
      have hps : pre ls (k + 1) = pre ls k + ck := by rw [hck]; rfl
      have hal := aft_lt ls k
      have hat := aft_two ls k
      have haf : aft ls (k + 1) = (fcM ls k + ck) % M64' := by rw [hck]; rfl
      have hfl := fcM_lt ls k
      have hcx := cdP_next ls k HL.out
      rw [← hck] at hcx
      unfold M64' at hat haf hfl
      obtain ⟨F, hF⟩ : ∃ F, F = fcM ls k := ⟨_, rfl⟩
      rw [← hF] at hat haf hfl
      have hsh : IntKind.u64.wrap ((aft ls k : Nat) * (2 : Int)) = (F : Int) := by rw [IntKind.wrap_u64]; omega
      have HPS := Lib.hid hps
      have HAF := Lib.hid haf
      have HCX := Lib.hid hcx
      have HF := Lib.hid hF
      have HCK := Lib.hid hck
      clear hck hcn hps hat haf hcx hF
      generalize aft ls k = a0 at *
      obtain ⟨P, hP⟩ : ∃ P, P = pre ls k := ⟨_, rfl⟩
      rw [← hP] at hpl ⊢
      have HP := Lib.hid hP
      clear hP
      go_wp2_with fail
      go_loopw [8, 9, 34] (fun co nx ix wq => ∃ r : Nat, r ≤ ck ∧ ix = .int .i64 r ∧ nx = .int .i64 ((P + r : Nat) : Int) ∧ co = .int .u64 (((F + r) % 18446744073709551616 : Nat) : Int) ∧ Lies wq gc 80 (cells64 (cdP ls k r)).toArray ∧ Kept (oneRow gc) w5 wq)
       (fun _ _ ix _ => ck - (intOf ix).toNat)
      case atStart => exact ⟨0, by omega, rfl, rfl, by rw [Nat.add_zero, Nat.mod_eq_of_lt hfl], LC.out, HK.out⟩
      case round =>
       clear LC HK
       obtain ⟨r, hr, rfl, rfl, rfl, lc, hkk⟩ := hrel
       have LC := Lib.hid lc
       have HK := Lib.hid hkk
       have lb := LB5.out.kept hkk (fun e => by have h1 : gk = gc := e; omega)
       have LB := Lib.hid lb
       have ho := owns_kept HO5.out hkk (fun q cur _ hl e => by
        have h1 : q = gc := e
        subst h1
        exact absurd (hl.same LC5.out).1 (by decide))
       have HO := Lib.hid ho
       clear lc hkk lb ho
       obtain ⟨X, hX⟩ : ∃ X, X = (F + r) % 18446744073709551616 := ⟨_, rfl⟩
       have hXl : X < 18446744073709551616 := by rw [hX]; exact Nat.mod_lt _ (by decide)
       have hX1 : IntKind.u64.wrap ((X : Int) + 1) = (((F + (r + 1)) % 18446744073709551616 : Nat) : Int) := by rw [IntKind.wrap_u64, hX]; omega
       rw [← hX]
       obtain ⟨Y, hY⟩ : ∃ Y, Y = (F + (r + 1)) % 18446744073709551616 := ⟨_, rfl⟩
       rw [← hY] at hX1
       have HX := Lib.hid hX
       have HY := Lib.hid hY
       clear hX hY
       by_cases hlr : r < ck
       ·have hri : (r : Int) < (ck : Int) := by omega
        have hk0 : 0 < k := by
         rcases Nat.eq_zero_or_pos k with h | h
         ·have := HCK.out; rw [if_pos h] at this; omega
         ·exact h
        have hck2 : ck = ls.count k := by have := HCK.out; rwa [if_neg (by omega)] at this
        obtain ⟨i, hi256, hli, hct⟩ := ct_nth ls k 256 r (by rw [ct_all ls k 256 (by rw [HL.out]; exact Nat.le_refl _), ← hck2]; exact hlr)
        have hbi := HBS.out.2 i k hi256 hli hk0
        rw [hct, ← HP.out] at hbi
        have hPr : P + r < C := by rw [HCC.out]; exact (List.getElem?_eq_some_iff.1 hbi).1
        obtain ⟨p3, cp5, hv3, hBp, _, _, _⟩ := owns_openS HO.out (by omega)
        have hv4 : A = some ⟨p3, 0, none⟩ := by
         simp only [Value.slice.injEq] at hv3
         exact hv3.1
        subst hv4
        have cb := owns_cell HO.out (c8_get hbi)
        have c57 : wr.cell? ⟨gk, 57, none⟩ = some (.slice (some ⟨p3, 0, none⟩) C cp) := (LB.out.cell 57).trans (by rw [List.getElem?_toArray, HT.out]; exact bkC_last (cnA_length ls 256))
        obtain ⟨z, hz⟩ : ∃ z, (cdP ls k r)[i]? = some z := ⟨_, List.getElem?_eq_getElem (by rw [cdP_length]; exact hi256)⟩
        have cz : wr.cell? ⟨gc, i, none⟩ = some (.int .u64 (z : Int)) := (LC.out.cell i).trans (c64_get hz)
        have fz := LC.out.free i
        have hput := LC.out.put i (.int .u64 (X : Int))
        rw [c64_set, HX.out, HF.out] at hput
        have hstep := cdP_step (ls := ls) HL.out hk0 hli hct
        unfold M64' at hstep
        rw [hstep, ← HF.out, ← HX.out] at hput
        have HPUT := Lib.hid hput
        have HKP := Lib.hid (HK.out.trans (Kept.put wr gc i (.int .u64 (X : Int))) (fun _ _ h => h))
        have hii : (i : Int) < 256 := by omega
        have hPi : (P : Int) + (r : Int) < (C : Int) := by omega
        clear hput hstep hz hbi hli hct hv3 hck2
        go_wp2_with fail
        go_roundw
        case rel => exact ⟨r + 1, by omega, by go_num, by go_num, by rw [← HY.out], HPUT.out, HKP.out⟩
        case measure => simp [intOf]; omega
       ·obtain rfl : r = ck := by omega
        have HXA : Hid (X = aft ls (k + 1)) := by show _ = _; rw [HX.out, HAF.out]
        clear hX1 hXl HY HX hlr hr
        go_wp2_with fail
        exact ⟨⟨k + 1, by omega, by go_num, by rw [HPS.out, HP.out], by rw [HXA.out], by rw [← HCX.out]; exact LC.out, HK.out⟩, by simp [intOf]; omega⟩
     ·obtain rfl : k = 57 := by omega
      have lc := LC.out
      rw [cdP_end HOK.out.2 HL.out, ← HO.out] at lc
      obtain ⟨U, hU⟩ : ∃ U, U = cells64 (cdsOf ls) := ⟨_, rfl⟩
      have hUl : U.length = 256 := by rw [hU, c64_length, HO.out, codL_length]
      have hU1 : U.toArray.all (·.oneCell') = true := by rw [hU]; exact c64_one _
      rw [← hU] at lc
      have HU := Lib.hid hU
      have l1 := L15.out.kept HK.out (fun e => by have h1 : w.heap.size + 1 = gc := e; omega)
      have hr := Lib.hid (arr_range lc)
      have ht := Lib.hid (arr_there l1 (n := U.toArray.size) (by simp [hUl, HZL.out]))
      have hst := Lib.hid (arr_store l1 (L := U) (by simp [hUl, HZL.out]))
      have hi1 : (Tryz.prog.info? 80).map (·.size) = some U.length := by rw [hUl]; exact info64
      have hi2 : (Tryz.prog.info? 80).map (·.size) = some U.toArray.size := by rw [List.size_toArray, hUl]; exact info64
      have HJ2 := Lib.hid hi1
      have HJ3 := Lib.hid hi2
      have HU1 := Lib.hid hU1
      have hbw := HB5.out.trans (HK.out.below (B := w.heap.size) (by omega) (fun k hk e => by have h1 : k = gc := e; omega))
      have hbz := Lib.hid (below_cellsA (Nat.le_succ w.heap.size) U 0 wr hbw)
      clear hU hU1 hi1 hi2 lc l1 hbw
      go_wp2_with (first | refine wpList_load_mid rfl 80 _ rfl gc 0 rfl U _ hr.out under64 rfl HJ2.out ?_ | refine wpList_store_mid rfl 80 _ _ rfl (w.heap.size + 1) 0 U.toArray rfl rfl ht.out HJ3.out HU1.out ?_)
      refine bodyPost_ret (v := .tuple #[.agg U.toArray, .int .i64 0]) (results_cell_tmp Tryz.results42 _ _ (w.heap.size + 1) U _ rfl (arr_range hst.out) under64 rfl HJ2.out) rfl ⟨by rw [HE.out, HU.out]; rfl, hbz.out⟩
   ·have hw2 : wholeB ls = false := by simpa using hw
    have hE : cdsE ls = 3 := by unfold cdsE; rw [HGR.out, hw2]; rfl
    have hO : cdsOf ls = List.replicate 256 0 := by unfold cdsOf; rw [hE]; rfl
    have HE := Lib.hid hE
    have HO := Lib.hid hO
    have HTH := Lib.hid (arr_there L12.out (n := Z.toArray.size) rfl)
    have HSTO := Lib.hid (arr_store L12.out (L := Z) (by simp))
    have HBZ := Lib.hid (below_cellsA (Nat.le_succ w.heap.size) Z 0 _ HB2.out)
    rw [hw2]
    clear hE hO hw hw2
    go_wp2_with (refine wpList_store_mid rfl 80 _ _ rfl (w.heap.size + 1) 0 Z.toArray rfl rfl HTH.out HI3.out HZ1.out ?_)
    refine bodyPost_ret (v := .tuple #[.agg Z.toArray, .int .i64 3]) (results_cell_tmp Tryz.results42 _ _ (w.heap.size + 1) Z _ rfl (arr_range HSTO.out) under64 rfl HI2.out) rfl ⟨by rw [HE.out, HO.out, ← HZ.out]; rfl, HBZ.out⟩
def bitsN (n : Nat) : Nat → List Bool
 | 0 => []
 | c + 1 => decide (n / 2 ^ c % 2 = 1) :: bitsN n c
theorem bitsN_length (n c : Nat) : (bitsN n c).length = c := by induction c with
 | zero => rfl
 | succ c ih => simp [bitsN, ih]
def numB (l : List Bool) : Nat := l.foldl (fun n b => 2 * n + b.toNat) 0
theorem numB_fold (l : List Bool) : ∀ n, l.foldl (fun n b => 2 * n + b.toNat) n = n * 2 ^ l.length + numB l := by
 induction l with
 | nil => intro n; simp [numB]
 | cons b l ih =>
  intro n
  have e : numB (b :: l) = (2 * 0 + b.toNat) * 2 ^ l.length + numB l := by
   show List.foldl _ 0 (b :: l) = _
   rw [List.foldl_cons, ih]
  rw [List.foldl_cons, ih, e]
  simp only [List.length_cons, Nat.pow_succ, Nat.mul_zero, Nat.zero_add, Nat.add_mul]
  rw [show 2 * n * 2 ^ l.length = n * (2 ^ l.length * 2) by ac_rfl, Nat.add_assoc]
theorem numB_snoc (l : List Bool) (b : Bool) : numB (l ++ [b]) = 2 * numB l + b.toNat := by simp [numB]
theorem numB_append (l m : List Bool) : numB (l ++ m) = numB l * 2 ^ m.length + numB m := by
 rw [numB, List.foldl_append, numB_fold]; rfl
theorem numB_cons (b : Bool) (l : List Bool) : numB (b :: l) = b.toNat * 2 ^ l.length + numB l := numB_append [b] l |>.trans (by simp [numB])
theorem numB_lt (l : List Bool) : numB l < 2 ^ l.length := by
 induction l with
 | nil => decide
 | cons b l ih =>
  rw [numB_cons, List.length_cons, Nat.pow_succ]
  cases b <;> simp <;> omega
def bitD (l : List Bool) (m : Nat) : Nat := (l.getD m false).toNat
theorem bitD_snoc (l : List Bool) (b : Bool) (m : Nat) : bitD (l ++ [b]) m = if m = l.length then b.toNat else bitD l m := by
 unfold bitD
 simp only [List.getD_eq_getElem?_getD]
 by_cases h : m = l.length
 ·subst h; simp
 ·rw [if_neg h]
  rcases Nat.lt_or_ge m l.length with h1 | h1
  ·rw [List.getElem?_append_left h1]
  ·rw [List.getElem?_eq_none (by simp; omega), List.getElem?_eq_none h1]
theorem bitD_out (l : List Bool) (m : Nat) (h : l.length ≤ m) : bitD l m = 0 := by
 unfold bitD; rw [List.getD_eq_getElem?_getD, List.getElem?_eq_none h]; rfl
theorem bitD_le (l : List Bool) (m : Nat) : bitD l m ≤ 1 := by unfold bitD; cases l.getD m false <;> simp
def byteN (l : List Bool) (j : Nat) : Nat :=
 bitD l (8 * j) * 128 + bitD l (8 * j + 1) * 64 + bitD l (8 * j + 2) * 32 + bitD l (8 * j + 3) * 16 + bitD l (8 * j + 4) * 8 + bitD l (8 * j + 5) * 4 + bitD l (8 * j + 6) * 2 + bitD l (8 * j + 7)
theorem byteN_lt (l : List Bool) (j : Nat) : byteN l j < 256 := by
 unfold byteN
 have := bitD_le l (8 * j); have := bitD_le l (8 * j + 1); have := bitD_le l (8 * j + 2); have := bitD_le l (8 * j + 3)
 have := bitD_le l (8 * j + 4); have := bitD_le l (8 * j + 5); have := bitD_le l (8 * j + 6); have := bitD_le l (8 * j + 7)
 omega
theorem byteN_out (l : List Bool) (j : Nat) (h : l.length ≤ 8 * j) : byteN l j = 0 := by
 unfold byteN
 rw [bitD_out l (8 * j) (by omega), bitD_out l (8 * j + 1) (by omega), bitD_out l (8 * j + 2) (by omega), bitD_out l (8 * j + 3) (by omega), bitD_out l (8 * j + 4) (by omega), bitD_out l (8 * j + 5) (by omega), bitD_out l (8 * j + 6) (by omega), bitD_out l (8 * j + 7) (by omega)]
theorem byteN_far (l : List Bool) (b : Bool) (j : Nat) (h : j ≠ l.length / 8) : byteN (l ++ [b]) j = byteN l j := by
 unfold byteN
 simp only [bitD_snoc]
 rw [if_neg (by omega), if_neg (by omega), if_neg (by omega), if_neg (by omega), if_neg (by omega), if_neg (by omega), if_neg (by omega), if_neg (by omega)]
theorem byteN_near (l : List Bool) (b : Bool) : byteN (l ++ [b]) (l.length / 8) = byteN l (l.length / 8) + b.toNat * 2 ^ (7 - l.length % 8) ∧ ∃ m, byteN l (l.length / 8) = m * 2 ^ (8 - l.length % 8) := by
 obtain ⟨q, r, hq, hr⟩ : ∃ q r, l.length = 8 * q + r ∧ r < 8 := ⟨l.length / 8, l.length % 8, by omega, by omega⟩
 have hd : l.length / 8 = q := by omega
 have hm : l.length % 8 = r := by omega
 rw [hd, hm]
 unfold byteN
 simp only [bitD_snoc, hq]
 have o : ∀ k, r ≤ k → bitD l (8 * q + k) = 0 := fun k hk => bitD_out l _ (by omega)
 have o0 : r ≤ 0 → bitD l (8 * q) = 0 := fun hk => bitD_out l _ (by omega)
 rcases (show r = 0 ∨ r = 1 ∨ r = 2 ∨ r = 3 ∨ r = 4 ∨ r = 5 ∨ r = 6 ∨ r = 7 by omega) with rfl | rfl | rfl | rfl | rfl | rfl | rfl | rfl
 ·rw [o0 (by omega), o 1 (by omega), o 2 (by omega), o 3 (by omega), o 4 (by omega), o 5 (by omega), o 6 (by omega), o 7 (by omega)]
  exact ⟨by simp, 0, by simp⟩
 ·rw [o 1 (by omega), o 2 (by omega), o 3 (by omega), o 4 (by omega), o 5 (by omega), o 6 (by omega), o 7 (by omega)]
  exact ⟨by simp, bitD l (8 * q), by simp⟩
 ·rw [o 2 (by omega), o 3 (by omega), o 4 (by omega), o 5 (by omega), o 6 (by omega), o 7 (by omega)]
  exact ⟨by simp, bitD l (8 * q) * 2 + bitD l (8 * q + 1), by omega⟩
 ·rw [o 3 (by omega), o 4 (by omega), o 5 (by omega), o 6 (by omega), o 7 (by omega)]
  exact ⟨by simp, bitD l (8 * q) * 4 + bitD l (8 * q + 1) * 2 + bitD l (8 * q + 2), by omega⟩
 ·rw [o 4 (by omega), o 5 (by omega), o 6 (by omega), o 7 (by omega)]
  exact ⟨by simp, bitD l (8 * q) * 8 + bitD l (8 * q + 1) * 4 + bitD l (8 * q + 2) * 2 + bitD l (8 * q + 3), by omega⟩
 ·rw [o 5 (by omega), o 6 (by omega), o 7 (by omega)]
  exact ⟨by simp, bitD l (8 * q) * 16 + bitD l (8 * q + 1) * 8 + bitD l (8 * q + 2) * 4 + bitD l (8 * q + 3) * 2 + bitD l (8 * q + 4), by omega⟩
 ·rw [o 6 (by omega), o 7 (by omega)]
  exact ⟨by simp, bitD l (8 * q) * 32 + bitD l (8 * q + 1) * 16 + bitD l (8 * q + 2) * 8 + bitD l (8 * q + 3) * 4 + bitD l (8 * q + 4) * 2 + bitD l (8 * q + 5), by omega⟩
 ·rw [o 7 (by omega)]
  exact ⟨by simp, bitD l (8 * q) * 64 + bitD l (8 * q + 1) * 32 + bitD l (8 * q + 2) * 16 + bitD l (8 * q + 3) * 8 + bitD l (8 * q + 4) * 4 + bitD l (8 * q + 5) * 2 + bitD l (8 * q + 6), by omega⟩
def packB (l : List Bool) : List UInt8 := (List.range ((l.length + 7) / 8)).map fun j => UInt8.ofNat (byteN l j)
theorem packB_length (l : List Bool) : (packB l).length = (l.length + 7) / 8 := by simp [packB]
theorem byte_val (l : List Bool) (j : Nat) : (UInt8.ofNat (byteN l j)).toNat = byteN l j := by
 rw [UInt8.toNat_ofNat']; have := byteN_lt l j; omega
theorem packB_get (l : List Bool) (j : Nat) (h : j < (l.length + 7) / 8) : (packB l)[j]? = some (UInt8.ofNat (byteN l j)) := by simp [packB, h]
theorem packB_same (l : List Bool) (b : Bool) (h : l.length % 8 ≠ 0) : packB (l ++ [b]) = (packB l).set (l.length / 8) (UInt8.ofNat (byteN (l ++ [b]) (l.length / 8))) := by
 apply List.ext_getElem?
 intro j
 have hl : (l ++ [b]).length = l.length + 1 := by simp
 rw [List.getElem?_set]
 by_cases hj : j < (l.length + 7) / 8
 ·rw [packB_get _ j (by rw [hl]; omega)]
  by_cases e : l.length / 8 = j
  ·subst e; rw [if_pos rfl, if_pos (by rw [packB_length]; exact hj)]
  ·rw [if_neg e, packB_get _ j hj, byteN_far l b j (by omega)]
 ·rw [List.getElem?_eq_none (by rw [packB_length, hl]; omega), if_neg (by omega), List.getElem?_eq_none (by rw [packB_length]; omega)]
theorem packB_more (l : List Bool) (b : Bool) (h : l.length % 8 = 0) : packB (l ++ [b]) = packB l ++ [UInt8.ofNat (byteN (l ++ [b]) (l.length / 8))] := by
 have hl : (l ++ [b]).length = l.length + 1 := by simp
 have e : ((l ++ [b]).length + 7) / 8 = (l.length + 7) / 8 + 1 := by rw [hl]; omega
 unfold packB
 rw [e, List.range_succ, List.map_append]
 have e2 : (l.length + 7) / 8 = l.length / 8 := by omega
 rw [e2]
 congr 1
 refine List.map_congr_left fun j hj => ?_
 rw [byteN_far l b j (by have := List.mem_range.1 hj; omega)]
theorem packB_or (l : List Bool) (b : Bool) : bits .or .u8 (byteN l (l.length / 8) : Nat) (b.toNat * 2 ^ (7 - l.length % 8) : Nat) = (byteN (l ++ [b]) (l.length / 8) : Nat) := by
 obtain ⟨h1, m, h2⟩ := byteN_near l b
 have h3 := byteN_lt l (l.length / 8)
 have h4 := byteN_lt (l ++ [b]) (l.length / 8)
 have hr : l.length % 8 < 8 := Nat.mod_lt _ (by decide)
 have hp : b.toNat * 2 ^ (7 - l.length % 8) < 2 ^ (8 - l.length % 8) := by
  rw [show 8 - l.length % 8 = (7 - l.length % 8) + 1 by omega, Nat.pow_succ]
  have := Nat.two_pow_pos (7 - l.length % 8)
  cases b <;> simp <;> omega
 have h5 : b.toNat * 2 ^ (7 - l.length % 8) < 256 := by omega
 rw [u8_or_nat _ _ h3 h5, h1, h2]
 have := or_add (a := b.toNat * 2 ^ (7 - l.length % 8)) (b := m) (k := 8 - l.length % 8) hp
 rw [Nat.or_comm, this, Nat.add_comm]
def BwAt (w : World) (B g : Nat) (l : List Bool) : Prop := ∃ v, Lies w g 85 #[v, .int .i64 l.length] ∧ w.ownsRow B 5 1 v (packB l).length (cellsB (packB l))
def bwRows (w : World) (B g : Nat) : Nat → Prop := fun k => k = g ∨ (B ≤ k ∧ ∃ cur, Lies w k 5 cur)
theorem row_lies {w : World} {B : Nat} {e : TypeId} {n cap : Nat} {r : Nat} {xs : List Value} (h : w.ownsRow B e 1 (.slice (some ⟨r, 0, none⟩) n cap) n xs) : ∃ cur, Lies w r e cur := by
 rcases owns_row h with ⟨h1, _⟩ | ⟨r', _, cur, h1, _, h2, _⟩
 ·cases h1
 ·simp only [Value.slice.injEq, Option.some.injEq, Addr.mk.injEq] at h1
  obtain ⟨⟨rfl, _⟩, _⟩ := h1
  exact ⟨cur, h2⟩
theorem lies_back {S : Nat → Prop} {w w' : World} {i : Nat} {t : TypeId} {cs : Array Value} (k : Kept S w w') (h : Lies w' i t cs) (hi : i < w.heap.size) (hn : ¬ S i) : Lies w i t cs := (k.at_ i hi hn).symm.trans h
theorem bw_trans {w0 w1 w2 : World} {B g : Nat} (h : Kept (bwRows w0 B g) w0 w1) (k : Kept (bwRows w1 B g) w1 w2) : Kept (bwRows w0 B g) w0 w2 :=
 h.trans k (fun i hi hs => by
  by_cases hn : bwRows w0 B g i
  ·exact hn
  ·rcases hs with rfl | ⟨h1, cur, h2⟩
   ·exact absurd (.inl rfl) hn
   ·exact .inr ⟨h1, cur, lies_back h h2 hi hn⟩)
set_option maxHeartbeats 1000000 in
set_option maxRecDepth 100000 in
theorem bitsBit (B g : Nat) (l : List Bool) (b : Bool) (w : World) (h : BwAt w B g l) (hB : B ≤ w.heap.size) (hl : l.length ≤ 1099511627776) :
  Calls Tryz.prog 84 #[.pointer (some ⟨g, 0, none⟩), .int .u8 (b.toNat : Nat)] w fun e w' => e = .returned (.tuple #[]) ∧ BwAt w' B g (l ++ [b]) ∧ Kept (bwRows w B g) w w' := by
 obtain ⟨v, hli, ho⟩ := h
 have hq : (l.length : Int) / 8 = ((l.length / 8 : Nat) : Int) := by omega
 have hr : (l.length : Int) % 8 = ((l.length % 8 : Nat) : Int) := by omega
 have hpl := packB_length l
 have hor := packB_or l b
 have hp256 : b.toNat * 2 ^ (7 - l.length % 8) < 256 := by
  have : 2 ^ (7 - l.length % 8) ≤ 2 ^ 7 := Nat.pow_le_pow_right (by decide) (by omega)
  cases b <;> simp <;> omega
 have hor2 : bits .or .u8 ((byteN l (l.length / 8) : Nat) : Int) ((b.toNat : Int) * 2 ^ (7 - l.length % 8) % 256) = (byteN (l ++ [b]) (l.length / 8) : Nat) := by
  rw [← hor]
  congr 1
  have e : (b.toNat : Int) * 2 ^ (7 - l.length % 8) = ((b.toNat * 2 ^ (7 - l.length % 8) : Nat) : Int) := by rw [Int.natCast_mul, Int.natCast_pow]; rfl
  rw [e]; omega
 have HOR2 := Lib.hid hor2
 have hri : (0 : Int) ≤ 7 - ((l.length % 8 : Nat) : Int) := by omega
 have hr8 : (l.length % 8 : Nat) < 8 := by omega
 have hbv := byteN_lt (l ++ [b]) (l.length / 8)
 have hsame := packB_same l b
 have hmore := packB_more l b
 have hget := packB_get l (l.length / 8)
 have hout := byteN_out l (l.length / 8)
 clear hor hor2 hp256
 by_cases h8 : l.length % 8 = 0
 ·have e0 : (((l.length % 8 : Nat) : Int) == 0) = true := by rw [beq_iff_eq]; omega
  have hPq : (packB l ++ [0])[l.length / 8]? = some (UInt8.ofNat (byteN l (l.length / 8))) := by
   rw [List.getElem?_append_right (by rw [hpl]; omega), hpl, show l.length / 8 - (l.length + 7) / 8 = 0 by omega, hout (by omega)]; rfl
  have hPs : (packB l ++ [0]).set (l.length / 8) (UInt8.ofNat (byteN (l ++ [b]) (l.length / 8))) = packB (l ++ [b]) := by
   rw [hmore h8, List.set_append_right _ _ (by rw [hpl]; omega), hpl, show l.length / 8 - (l.length + 7) / 8 = 0 by omega]; rfl
  have hpl2 : (packB (l ++ [b])).length = (packB l).length + 1 := by rw [← hPs]; simp
  have HPL2 := Lib.hid hpl2
  have hnl : (packB l).length ≤ 1099511627776 := by rw [hpl]; omega
  have hqn : l.length / 8 < (packB l).length + 1 := by rw [hpl]; omega
  have hqi : ((l.length / 8 : Nat) : Int) < ((packB l).length : Int) + 1 := by rw [hpl]; omega
  have HO := Lib.hid ho
  have HLI := Lib.hid hli
  have hne := own_ne ho hli (by decide)
  have c0 := hli.cell 0
  have c1 := hli.cell 1
  simp at c0 c1
  clear hsame hmore hget hout hpl h8 hpl2 ho hli
  generalize l.length / 8 = q at *
  generalize l.length % 8 = r8 at *
  go_enter Tryz.func84, Tryz.ntmps84
  go_wp2_with (at_builtin; refine append_one w (.int .u8 0) rfl (.tmp 14) (.tmp 15) 43 rfl B 5 _ _ Tryz.underlying43 Tryz.infoU8 rfl rfl _ _ _ rfl HO.out rfl (by unfold maxLen; omega) (by omega) hB ?_)
  intro v1 w1 ho1 hb1 hgr
  have ho1 : w1.ownsRow B 5 1 v1 ((packB l).length + 1) (cellsB (packB l ++ [0])) := by rw [cellsB_append]; exact ho1
  obtain ⟨r, cap, hv, hr1, hr2, hc1, hc2⟩ := owns_openS ho1 (by omega)
  rw [hv] at ho1
  rw [hv]
  have hl1 := (HLI.out.alloc (.cells #[Value.int .u8 0] 5)).kept (Kept.of_grown hgr) hne
  have g0 := hl1.cell 0
  have gf := hl1.free 0
  simp at g0
  have hli := hl1.put 0 (.slice (some ⟨r, 0, none⟩) ((packB l).length + 1) cap)
  rw [show (#[v, Value.int .i64 (l.length : Int)].setIfInBounds 0 (.slice (some ⟨r, 0, none⟩) ((packB l).length + 1) cap)) = #[Value.slice (some ⟨r, 0, none⟩) ((packB l).length + 1) cap, Value.int .i64 (l.length : Int)] from rfl] at hli
  have ho := owns_put ho1 hl1 (by decide) 0 (.slice (some ⟨r, 0, none⟩) ((packB l).length + 1) cap)
  have hvS : ∀ i, v.ownBlock = some i → bwRows w B g i := fun i hv => by
   rcases owns_row HO.out with ⟨rfl, _⟩ | ⟨r', _, cur, rfl, h2, h3, _⟩
   ·cases hv
   ·obtain rfl : r' = i := by simpa [Value.ownBlock] using hv
    exact .inr ⟨h2, cur, h3⟩
  have hk0 : Kept (bwRows w B g) w w1 := (kept_grown hgr).mono (fun i hi hv => hvS i hv)
  have hrS : ∀ i, i < w.heap.size → i = r → bwRows w B g i := fun i hi e => by
   subst e
   by_cases hn : bwRows w B g i
   ·exact hn
   ·obtain ⟨cur, hc⟩ := row_lies ho1
    exact .inr ⟨hr1, cur, lies_back hk0 hc hi hn⟩
  have hk := hk0.trans (Kept.put w1 g 0 (.slice (some ⟨r, 0, none⟩) ((packB l).length + 1) cap)) (fun i hi (e : i = g) => .inl e)
  unfold maxLen at hc2
  have hqn2 : q < (packB l).length + 1 := hqn
  clear hv hl1 ho1 hb1 hgr hk0 HO HLI hne c0 c1 hB hvS
  have hcl := owns_cell ho (k := q) (u := .int .u8 ((byteN l q : Nat) : Int)) (by unfold cellsB; rw [List.getElem?_map, hPq]; simp only [Option.map_some]; rw [byte_val])
  have hfr := owns_free ho hqn
  have hset := owns_set (u := .int .u8 ((byteN (l ++ [b]) q : Nat) : Int)) ho hqn
  rw [cellsB_set _ _ _ hbv, hPs] at hset
  have hrg : r ≠ g := fun e => by
   subst e
   rcases owns_row ho with ⟨h1, _⟩ | ⟨r', _, _, h1, _, h2, _⟩
   ·cases h1
   ·simp only [Value.slice.injEq, Option.some.injEq, Addr.mk.injEq] at h1
    obtain ⟨⟨rfl, _⟩, _⟩ := h1
    exact absurd (h2.same hli).1 (by decide)
  have c0 := hli.cell 0
  have c1 := hli.cell 1
  have f1 := hli.free 1
  simp at c0 c1
  have hliA := (Lies.far hli (p := ⟨r, q, none⟩) (fun e => hrg e.symm) (.int .u8 ((byteN (l ++ [b]) q : Nat) : Int))).drew
  have hb1 := (hliA.cell 1).trans (show _ = some (Value.int .i64 (l.length : Int)) from rfl)
  have hf1 := hliA.free 1
  have hll : (((l ++ [b]).length : Nat) : Int) = (l.length : Int) + 1 := by simp
  have hliB := hliA.put 1 (.int .i64 ((l.length : Int) + 1))
  rw [show (#[Value.slice (some ⟨r, 0, none⟩) (((packB l).length + 1)) cap, Value.int .i64 (l.length : Int)].setIfInBounds 1 (.int .i64 ((l.length : Int) + 1))) = #[Value.slice (some ⟨r, 0, none⟩) (((packB l).length + 1)) cap, Value.int .i64 ((l.length : Int) + 1)] from rfl] at hliB
  have hliC : Hid (((l ++ [b]).length : Int) = (l.length : Int) + 1) := hll
  have hset' := owns_drew hset
  have hoB := owns_put hset' hliA (by decide) 1 (.int .i64 ((l.length : Int) + 1))
  have hkB := ((hk.trans (Kept.put _ r q (.int .u8 ((byteN (l ++ [b]) q : Nat) : Int))) (fun i hi e => hrS i hi e)).trans (Kept.drew noRow _) (fun _ _ h => h.elim)).trans (Kept.put _ g 1 (.int .i64 ((l.length : Int) + 1))) (fun i hi (e : i = g) => .inl e)
  have HLB := Lib.hid hliB
  have HOB := Lib.hid hoB
  have HKB := Lib.hid hkB
  clear hli ho hset hset' hliA hliB hoB hkB hk hPq hPs hll
  go_wp2
  go_region
  rw [HOR2.out]
  generalize World.drew (World.setCell _ ⟨r, q, none⟩ (.int .u8 ((byteN (l ++ [b]) q : Nat) : Int))) = w1 at *
  go_wp2
  go_end0
  exact ⟨rfl, ⟨_, by rw [hliC.out]; exact HLB.out, by rw [HPL2.out]; exact HOB.out⟩, HKB.out⟩
 ·have e0 : (((l.length % 8 : Nat) : Int) == 0) = false := by rw [beq_eq_false_iff_ne]; omega
  have hPq := hget (by omega)
  have hPs := (hsame h8).symm
  have hqn : l.length / 8 < (packB l).length := by rw [hpl]; omega
  have hpl2 : (packB (l ++ [b])).length = (packB l).length := by rw [← hPs]; simp
  have HPL2 := Lib.hid hpl2
  obtain ⟨r, cap, hv, hr1, hr2, hc1, hc2⟩ := owns_openS ho (by omega)
  rw [hv] at ho hli
  have hk : Kept (bwRows w B g) w w := Kept.refl _ _
  have hrS : ∀ i, i < w.heap.size → i = r → bwRows w B g i := fun i _ e => by subst e; exact .inr ⟨hr1, row_lies ho⟩
  have hqi : ((l.length / 8 : Nat) : Int) < ((packB l).length : Int) := by omega
  unfold maxLen at hc2
  clear hsame hmore hget hout hpl h8 hpl2
  generalize l.length / 8 = q at *
  generalize l.length % 8 = r8 at *
  go_enter Tryz.func84, Tryz.ntmps84
  have hcl := owns_cell ho (k := q) (u := .int .u8 ((byteN l q : Nat) : Int)) (by unfold cellsB; rw [List.getElem?_map, hPq]; simp only [Option.map_some]; rw [byte_val])
  have hfr := owns_free ho hqn
  have hset := owns_set (u := .int .u8 ((byteN (l ++ [b]) q : Nat) : Int)) ho hqn
  rw [cellsB_set _ _ _ hbv, hPs] at hset
  have hrg : r ≠ g := fun e => by
   subst e
   rcases owns_row ho with ⟨h1, _⟩ | ⟨r', _, _, h1, _, h2, _⟩
   ·cases h1
   ·simp only [Value.slice.injEq, Option.some.injEq, Addr.mk.injEq] at h1
    obtain ⟨⟨rfl, _⟩, _⟩ := h1
    exact absurd (h2.same hli).1 (by decide)
  have c0 := hli.cell 0
  have c1 := hli.cell 1
  have f1 := hli.free 1
  simp at c0 c1
  have hliA := (Lies.far hli (p := ⟨r, q, none⟩) (fun e => hrg e.symm) (.int .u8 ((byteN (l ++ [b]) q : Nat) : Int))).drew
  have hb1 := (hliA.cell 1).trans (show _ = some (Value.int .i64 (l.length : Int)) from rfl)
  have hf1 := hliA.free 1
  have hll : (((l ++ [b]).length : Nat) : Int) = (l.length : Int) + 1 := by simp
  have hliB := hliA.put 1 (.int .i64 ((l.length : Int) + 1))
  rw [show (#[Value.slice (some ⟨r, 0, none⟩) ((packB l).length) cap, Value.int .i64 (l.length : Int)].setIfInBounds 1 (.int .i64 ((l.length : Int) + 1))) = #[Value.slice (some ⟨r, 0, none⟩) ((packB l).length) cap, Value.int .i64 ((l.length : Int) + 1)] from rfl] at hliB
  have hliC : Hid (((l ++ [b]).length : Int) = (l.length : Int) + 1) := hll
  have hset' := owns_drew hset
  have hoB := owns_put hset' hliA (by decide) 1 (.int .i64 ((l.length : Int) + 1))
  have hkB := ((hk.trans (Kept.put _ r q (.int .u8 ((byteN (l ++ [b]) q : Nat) : Int))) (fun i hi e => hrS i hi e)).trans (Kept.drew noRow _) (fun _ _ h => h.elim)).trans (Kept.put _ g 1 (.int .i64 ((l.length : Int) + 1))) (fun i hi (e : i = g) => .inl e)
  have HLB := Lib.hid hliB
  have HOB := Lib.hid hoB
  have HKB := Lib.hid hkB
  clear hli ho hset hset' hliA hliB hoB hkB hk hPq hPs hll
  go_wp2
  go_region
  rw [HOR2.out]
  generalize World.drew (World.setCell _ ⟨r, q, none⟩ (.int .u8 ((byteN (l ++ [b]) q : Nat) : Int))) = w1 at *
  go_wp2
  go_end0
  exact ⟨rfl, ⟨_, by rw [hliC.out]; exact HLB.out, by rw [HPL2.out]; exact HOB.out⟩, HKB.out⟩
def countsB (c : Int) : Bool := decide (0 ≤ c ∧ c ≤ 64)
theorem bitsCounts (c : Int) (w : World) : Calls Tryz.prog 83 #[.int .i64 c] w fun e w' => e = .returned (.bool (countsB c)) ∧ w = w' := by
 by_cases h0 : 0 ≤ c
 ·by_cases h1 : c ≤ 64
  ·have hc : countsB c = true := decide_eq_true ⟨h0, h1⟩
   have e0 : decide ((0 : Int) ≤ c) = true := by simpa using h0
   have e1 : decide (c ≤ (64 : Int)) = true := by simpa using h1
   rw [hc]
   clear hc
   go_enter Tryz.func83, Tryz.ntmps83
   go_wp2
   go_ret
   exact ⟨rfl, rfl⟩
  ·have hc : countsB c = false := decide_eq_false (fun h => h1 h.2)
   have e0 : decide ((0 : Int) ≤ c) = true := by simpa using h0
   have e1 : decide (c ≤ (64 : Int)) = false := by simpa using h1
   rw [hc]
   clear hc
   go_enter Tryz.func83, Tryz.ntmps83
   go_wp2
   go_ret
   exact ⟨rfl, rfl⟩
 ·have hc : countsB c = false := decide_eq_false (fun h => h0 h.1)
  have e0 : decide ((0 : Int) ≤ c) = false := by simpa using h0
  rw [hc]
  clear hc
  go_enter Tryz.func83, Tryz.ntmps83
  go_wp2
  go_ret
  exact ⟨rfl, rfl⟩
theorem countsB_yes {c : Int} (h0 : 0 ≤ c) (h1 : c ≤ 64) : countsB c = true := decide_eq_true ⟨h0, h1⟩
theorem countsB_no {c : Int} (h : c < 0 ∨ 64 < c) : countsB c = false := decide_eq_false (by omega)
section
variable {w w' : World} {B g : Nat} {l : List Bool}
theorem BwAt.kept {S : Nat → Prop} (h : BwAt w B g l) (k : Kept S w w') (h1 : ¬ S g) (h2 : ∀ r, B ≤ r → r < w.heap.size → ¬ S r) : BwAt w' B g l := by
 obtain ⟨v, hl, ho⟩ := h
 exact ⟨v, hl.kept k h1, owns_kept ho k (fun r cur hv hl => h2 r (ho.lt r hv).1 hl.lt)⟩
theorem BwAt.later (h : BwAt w B g l) (hb : Below w.heap.size w w') : BwAt w' B g l := h.kept (Kept.of_below hb) (fun hf => hf) (fun _ _ _ hf => hf)
end
set_option maxHeartbeats 1000000 in
theorem bitsPutNo (g n : Nat) (c : Int) (w : World) (h : c < 0 ∨ 64 < c) :
  Calls Tryz.prog 43 #[.pointer (some ⟨g, 0, none⟩), .int .u64 n, .int .i64 c] w fun e w' => e = .returned (.int .i64 1) ∧ w = w' := by
 have hc := bitsCounts c w
 rw [countsB_no h] at hc
 have HC := Lib.hid hc
 clear hc h
 go_enter Tryz.func43, Tryz.ntmps43
 go_wp2_with fail
 refine HC.out.mono ?_
 rintro e w' ⟨rfl, rfl⟩
 go_wp2
 go_ret
 exact ⟨rfl, rfl⟩
set_option maxHeartbeats 1000000 in
set_option maxRecDepth 100000 in
theorem bitsPut (B g n c : Nat) (l : List Bool) (w : World) (h : BwAt w B g l) (hB : B ≤ w.heap.size) (hl : l.length + c ≤ 1099511627776) (hn : n < 18446744073709551616) (hc : c ≤ 64) :
  Calls Tryz.prog 43 #[.pointer (some ⟨g, 0, none⟩), .int .u64 n, .int .i64 c] w fun e w' => e = .returned (.int .i64 0) ∧ BwAt w' B g (l ++ bitsN n c) ∧ Kept (bwRows w B g) w w' := by
 have hcc := bitsCounts c w
 rw [countsB_yes (by omega) (by omega)] at hcc
 have HC := Lib.hid hcc
 have H := Lib.hid h
 have hn2 : n ≤ 18446744073709551615 := by omega
 clear hcc h hn
 go_enter Tryz.func43, Tryz.ntmps43
 go_wp2_with fail
 refine HC.out.mono ?_
 rintro e w' ⟨rfl, rfl⟩
 go_wp2
 go_loopw [7] (fun t wr => ∃ (j : Nat) (d : List Bool), j ≤ c ∧ d.length + j = c ∧ t = .int .i64 ((j : Int) - 1) ∧ BwAt wr B g (l ++ d) ∧ Hid (d ++ bitsN n j = bitsN n c) ∧ Kept (bwRows w B g) w wr)
  (fun t _ => (intOf t + 1).toNat)
 case atStart => exact ⟨c, [], by omega, by simp, rfl, by simpa using H.out, rfl, Kept.refl _ _⟩
 case round =>
  obtain ⟨j, d, hj, hdl, rfl, hw, hd, hk⟩ := hrel
  rcases Nat.eq_zero_or_pos j with h0 | h0
  ·subst h0
   have hd2 : d = bitsN n c := by have := hd.out; simpa [bitsN] using this
   rw [hd2] at hw
   have HW := Lib.hid hw
   clear hd hd2 hw
   go_wp2
   go_ret
   exact ⟨rfl, HW.out, hk⟩
  ·obtain ⟨m, rfl⟩ : ∃ m, j = m + 1 := ⟨j - 1, by omega⟩
   have hj1 : ((m + 1 : Nat) : Int) - 1 = (m : Int) := by omega
   have hj2 : (m : Int) + 1 - 1 = (m : Int) := by omega
   have hbk := hk.size
   have hB2 : B ≤ wr.heap.size := by omega
   have hbit := bitsBit B g (l ++ d) (decide (n / 2 ^ m % 2 = 1)) wr hw hB2 (by rw [List.length_append]; omega)
   have hd' : Hid ((d ++ [decide (n / 2 ^ m % 2 = 1)]) ++ bitsN n m = bitsN n c) := by
    show _ = _
    rw [← hd.out]; simp [bitsN]
   have hbv : bits .and .u64 ((n : Int) / 2 ^ m) 1 % 256 = ((decide (n / 2 ^ m % 2 = 1)).toNat : Int) := by
    have e2 : (n : Int) / 2 ^ m = ((n / 2 ^ m : Nat) : Int) := by rw [Int.natCast_ediv, Int.natCast_pow]; rfl
    have hlt : n / 2 ^ m ≤ n := Nat.div_le_self _ _
    have := u64_and_nat (n / 2 ^ m) 1 (by omega) (by decide)
    rw [e2]
    rw [Nat.and_one_is_mod] at this
    rw [show (1 : Int) = ((1 : Nat) : Int) from rfl, this]
    by_cases h1 : n / 2 ^ m % 2 = 1
    ·rw [decide_eq_true h1, h1]; rfl
    ·rw [decide_eq_false h1, show n / 2 ^ m % 2 = 0 by omega]; rfl
   have HBV := Lib.hid hbv
   have HBIT := Lib.hid hbit
   have hdl2 : (d ++ [decide (n / 2 ^ m % 2 = 1)]).length + m = c := by rw [List.length_append]; simp; omega
   have hm0 : (0 : Int) ≤ (m : Int) := by omega
   rw [hj1]
   clear hbv hbit hw hd hj1
   go_wp2_with fail
   rw [HBV.out]
   refine HBIT.out.mono ?_
   rintro e w2 ⟨rfl, hw2, hk2⟩
   rw [List.append_assoc] at hw2
   have HW2 := Lib.hid hw2
   have hk3 := bw_trans hk hk2
   clear hw2 hk2 HBIT HBV
   go_wp2
   go_roundw
   case rel => exact ⟨m, _, by omega, hdl2, by go_num, HW2.out, hd', hk3⟩
   case measure => simp [intOf]
theorem bitsString (B g : Nat) (l : List Bool) (w : World) (h : BwAt w B g l) : Calls Tryz.prog 45 #[.pointer (some ⟨g, 0, none⟩)] w fun e w' => e = .returned (.string (textB (packB l))) ∧ w = w' := by
 obtain ⟨v, hl, ho⟩ := h
 have c0 := hl.cell 0
 simp at c0
 have hcv := convert_owned w B v (packB l) _ rfl ho
 clear hl ho
 go_enter Tryz.func45, Tryz.ntmps45
 go_wp2
 go_ret
 exact ⟨rfl, rfl⟩
def allB (s : ByteArray) : List Bool := s.data.toList.flatMap fun b => bitsN b.toNat 8
theorem flat8_length (l : List UInt8) : (l.flatMap fun b => bitsN b.toNat 8).length = 8 * l.length := by
 induction l with
 | nil => rfl
 | cons b l ih => rw [List.flatMap_cons, List.length_append, ih, bitsN_length, List.length_cons]; omega
theorem allB_length (s : ByteArray) : (allB s).length = 8 * s.size := by unfold allB; rw [flat8_length]; simp
theorem bitsN_get (n : Nat) : ∀ c i, i < c → (bitsN n c)[i]? = some (decide (n / 2 ^ (c - 1 - i) % 2 = 1))
 | c + 1, 0, _ => by simp [bitsN]
 | c + 1, i + 1, h => by
  have := bitsN_get n c i (by omega)
  rw [bitsN, List.getElem?_cons_succ, this, show c + 1 - 1 - (i + 1) = c - 1 - i by omega]
theorem flat8_get : ∀ (l : List UInt8) (q r : Nat) (b : UInt8), l[q]? = some b → r < 8 → (l.flatMap fun b => bitsN b.toNat 8)[8 * q + r]? = some (decide (b.toNat / 2 ^ (7 - r) % 2 = 1))
 | a :: l, 0, r, b, h, hr => by
  simp at h; subst h
  rw [List.flatMap_cons, Nat.mul_zero, Nat.zero_add, List.getElem?_append_left (by rw [bitsN_length]; exact hr), bitsN_get _ 8 r hr]
 | a :: l, q + 1, r, b, h, hr => by
  rw [List.flatMap_cons, List.getElem?_append_right (by rw [bitsN_length]; omega), bitsN_length, show 8 * (q + 1) + r - 8 = 8 * q + r by omega]
  exact flat8_get l q r b (by simpa using h) hr
theorem allB_get (s : ByteArray) (p : Nat) (h : p / 8 < s.size) : (allB s)[p]? = some (decide ((s[p / 8]'h).toNat / 2 ^ (7 - p % 8) % 2 = 1)) := by
 have := flat8_get s.data.toList (p / 8) (p % 8) _ (byte_of s (p / 8) h) (by omega)
 rwa [show 8 * (p / 8) + p % 8 = p by omega] at this
def BrAt (w : World) (g : Nat) (s : ByteArray) (i : Nat) : Prop := Lies w g 149 #[.string s, .int .i64 i] ∧ i ≤ 8 * s.size ∧ s.size ≤ 1099511627776
section
variable {w w' : World} {g : Nat} {s : ByteArray} {i : Nat}
theorem BrAt.kept {S : Nat → Prop} (h : BrAt w g s i) (k : Kept S w w') (hn : ¬ S g) : BrAt w' g s i := ⟨h.1.kept k hn, h.2⟩
theorem BrAt.later (h : BrAt w g s i) (hb : Below w.heap.size w w') : BrAt w' g s i := h.kept (Kept.of_below hb) (fun hf => hf)
theorem BrAt.lt (h : BrAt w g s i) : g < w.heap.size := h.1.lt
end
theorem bitsNew (s : ByteArray) (w : World) (hs : s.size ≤ 1099511627776) : Calls Tryz.prog 88 #[.string s] w fun e w' =>
  e = .returned (.pointer (some ⟨w.heap.size, 0, none⟩)) ∧ BrAt w' w.heap.size s 0 ∧ Kept noRow w w' := by
 go_enter Tryz.func88, Tryz.ntmps88
 go_wp2
 go_ret
 exact ⟨rfl, ⟨Lies.made _ _ _, Nat.zero_le _, hs⟩, Kept.alloc _ _ _⟩
theorem bitsLeft (g : Nat) (s : ByteArray) (i : Nat) (w : World) (h : BrAt w g s i) : Calls Tryz.prog 104 #[.pointer (some ⟨g, 0, none⟩)] w fun e w' =>
  e = .returned (.int .i64 (8 * s.size - i : Nat)) ∧ ∃ n, w' = w.drewN n := by
 obtain ⟨h1, h2, h3⟩ := h
 have c0 := h1.cell 0
 have c1 := h1.cell 1
 simp at c0 c1
 have he : ((8 * s.size - i : Nat) : Int) = 8 * (s.size : Int) - (i : Int) := by omega
 have HE := Lib.hid he
 clear h1 he
 go_enter Tryz.func104, Tryz.ntmps104
 go_wp2
 go_quiet (fail)
 go_wp2
 go_ret
 exact ⟨ret_int (by rw [HE.out]), _, rfl⟩
def cutB (s : ByteArray) (i c : Nat) : List Bool := ((allB s).drop i).take c
theorem cutB_length (s : ByteArray) (i c : Nat) (h : i + c ≤ 8 * s.size) : (cutB s i c).length = c := by
 unfold cutB; rw [List.length_take, List.length_drop, allB_length]; omega
theorem cutB_next (s : ByteArray) (i k : Nat) (h : (i + k) / 8 < s.size) : cutB s i (k + 1) = cutB s i k ++ [decide ((s[(i + k) / 8]'h).toNat / 2 ^ (7 - (i + k) % 8) % 2 = 1)] := by
 unfold cutB
 rw [List.take_add_one, List.getElem?_drop, allB_get s (i + k) h]; rfl
theorem bitsTakeEnd (g : Nat) (s : ByteArray) (i c : Nat) (w : World) (h : BrAt w g s i) (hc : c ≤ 64) (he : 8 * s.size < i + c) :
  Calls Tryz.prog 103 #[.pointer (some ⟨g, 0, none⟩), .int .i64 c] w fun e w' => e = .returned (.tuple #[.int .u64 0, .int .i64 2]) ∧ ∃ n, w' = w.drewN n := by
 have hcc := bitsCounts c w
 rw [countsB_yes (by omega) (by omega)] at hcc
 have HC := Lib.hid hcc
 have HL := Lib.hid (bitsLeft g s i w h)
 have h2 := h.2.1
 have e1 : decide (8 * s.size - i < c) = true := by simp; omega
 clear hcc h
 go_enter Tryz.func103, Tryz.ntmps103
 go_wp2_with fail
 refine HC.out.mono ?_
 rintro e w' ⟨rfl, rfl⟩
 go_wp2_with fail
 refine HL.out.mono ?_
 rintro e w' ⟨rfl, n, rfl⟩
 go_wp2
 go_ret2
 exact ⟨rfl, _, rfl⟩
set_option maxHeartbeats 1000000 in
set_option maxRecDepth 100000 in
theorem bitsTakeOk (g : Nat) (s : ByteArray) (i c : Nat) (w : World) (h : BrAt w g s i) (hc : c ≤ 64) (he : i + c ≤ 8 * s.size) :
  Calls Tryz.prog 103 #[.pointer (some ⟨g, 0, none⟩), .int .i64 c] w fun e w' => e = .returned (.tuple #[.int .u64 (numB (cutB s i c)), .int .i64 0]) ∧ BrAt w' g s (i + c) ∧ Kept (oneRow g) w w' := by
 have hcc := bitsCounts c w
 rw [countsB_yes (by omega) (by omega)] at hcc
 have HC := Lib.hid hcc
 have HL := Lib.hid (bitsLeft g s i w h)
 have h2 := h.2.1
 have hs := h.2.2
 have e1 : decide (8 * s.size - i < c) = false := by simp; omega
 have H := Lib.hid h
 clear hcc h
 go_enter Tryz.func103, Tryz.ntmps103
 go_wp2_with fail
 refine HC.out.mono ?_
 rintro e w' ⟨rfl, rfl⟩
 go_wp2_with fail
 refine HL.out.mono ?_
 rintro e w' ⟨rfl, n, rfl⟩
 clear HC HL
 go_wp2
 go_loopw [6, 17] (fun t u wr => ∃ k : Nat, k ≤ c ∧ u = .int .i64 k ∧ t = .int .u64 (numB (cutB s i k)) ∧ BrAt wr g s (i + k) ∧ Kept (oneRow g) w wr)
  (fun _ u _ => c - (intOf u).toNat)
 case atStart => exact ⟨0, by omega, rfl, by simp [cutB, numB], ⟨H.out.1, H.out.2⟩, Kept.drewN _ _ _⟩
 case round =>
  obtain ⟨k, hk, rfl, rfl, hr, hkk⟩ := hrel
  by_cases hlt : k < c
  ·have hki : (k : Int) < (c : Int) := by omega
   have hq : (i + k) / 8 < s.size := by omega
   have hnx := cutB_next s i k hq
   have hln := numB_lt (cutB s i k)
   rw [cutB_length s i k (by omega)] at hln
   have hln2 : numB (cutB s i k) < 9223372036854775808 := by
    have : 2 ^ k ≤ 2 ^ 63 := Nat.pow_le_pow_right (by decide) (by omega)
    omega
   have hsn := numB_snoc (cutB s i k) (decide ((s[(i + k) / 8]'hq).toNat / 2 ^ (7 - (i + k) % 8) % 2 = 1))
   rw [← hnx] at hsn
   have c0 := (hr.1.cell 0).trans (show _ = some (Value.string s) from rfl)
   have c1 := (hr.1.cell 1).trans (show _ = some (Value.int .i64 ((i + k : Nat) : Int)) from rfl)
   have f1 := hr.1.free 1
   have hb := (s[(i + k) / 8]'hq).toNat_lt
   have hqi : ((i + k : Nat) : Int) / 8 = (((i + k) / 8 : Nat) : Int) := by omega
   have hri : ((i + k : Nat) : Int) % 8 = (((i + k) % 8 : Nat) : Int) := by omega
   have hr8 : (i + k) % 8 < 8 := Nat.mod_lt _ (by decide)
   have HSN := Lib.hid hsn
   have HR := Lib.hid hr
   have hpk : i + k ≤ 8796093022208 := by omega
   clear hnx hsn hr hln
   generalize numB (cutB s i k) = N at *
   generalize hp : i + k = p at *
   have HP := Lib.hid hp
   have hpi : p + 1 ≤ 8 * s.size := by omega
   clear hp
   generalize p / 8 = q at *
   generalize p % 8 = r8 at *
   have h7 : (0 : Int) ≤ 7 - (r8 : Int) := by omega
   have hqs : (q : Int) < (s.size : Int) := by omega
   have w1 : IntKind.i64.wrap (Int.tdiv (p : Int) 8) = (q : Int) := by rw [Int.tdiv_eq_ediv_of_nonneg (by omega), IntKind.wrap_i64]; omega
   have w2 : IntKind.i64.wrap (Int.tmod (p : Int) 8) = (r8 : Int) := by rw [Int.tmod_eq_emod_of_nonneg (by omega), IntKind.wrap_i64]; omega
   have w3 : IntKind.i64.wrap (7 - (r8 : Int)) = 7 - (r8 : Int) := by rw [IntKind.wrap_i64]; omega
   have w4 : IntKind.u64.wrap ((N : Int) * 2) = ((2 * N : Nat) : Int) := by rw [IntKind.wrap_u64]; omega
   have w5 : (7 - (r8 : Int)).toNat = 7 - r8 := by omega
   have hvv : bits .or .u64 (2 * (N : Int)) (IntKind.u64.wrap (bits .and .u8 (((s[q]'hq).toNat : Int) / 2 ^ (7 - r8)) 1)) = ((numB (cutB s i (k + 1)) : Nat) : Int) := by
    have e2 : ((s[q]'hq).toNat : Int) / 2 ^ (7 - r8) = (((s[q]'hq).toNat / 2 ^ (7 - r8) : Nat) : Int) := by rw [Int.natCast_ediv, Int.natCast_pow]; rfl
    have hd : (s[q]'hq).toNat / 2 ^ (7 - r8) ≤ (s[q]'hq).toNat := Nat.div_le_self _ _
    have h1 := u8_and_nat ((s[q]'hq).toNat / 2 ^ (7 - r8)) 1 (by omega) (by decide)
    rw [Nat.and_one_is_mod] at h1
    rw [e2, show (1 : Int) = ((1 : Nat) : Int) from rfl, h1, HSN.out]
    have e3 : ((decide ((s[q]'hq).toNat / 2 ^ (7 - r8) % 2 = 1)).toNat) = (s[q]'hq).toNat / 2 ^ (7 - r8) % 2 := by
     by_cases hh : (s[q]'hq).toNat / 2 ^ (7 - r8) % 2 = 1
     ·rw [decide_eq_true hh, hh]; rfl
     ·rw [decide_eq_false hh, show (s[q]'hq).toNat / 2 ^ (7 - r8) % 2 = 0 by omega]; rfl
    rw [e3]
    have hb1 : (s[q]'hq).toNat / 2 ^ (7 - r8) % 2 < 2 := Nat.mod_lt _ (by decide)
    generalize (s[q]'hq).toNat / 2 ^ (7 - r8) % 2 = b1 at *
    have e4 : IntKind.u64.wrap ((b1 : Nat) : Int) = ((b1 : Nat) : Int) := by rw [IntKind.wrap_u64]; omega
    have h2 := u64_or_nat (2 * N) b1 (by omega) (by omega)
    rw [e4, show (2 * (N : Int)) = ((2 * N : Nat) : Int) by omega, h2]
    have := or_add (a := b1) (b := N) (k := 1) (by omega)
    rw [Nat.or_comm, show 2 * N = N * 2 ^ 1 by omega, this]
    omega
   have HV := Lib.hid hvv
   clear hvv HSN hb
   go_wp2_with fail
   go_quiet (fail)
   rw [HV.out]
   have hli := (HR.out.1.drewN nq).put 1 (.int .i64 ((p : Int) + 1))
   rw [show (#[Value.string s, Value.int .i64 (p : Int)].setIfInBounds 1 (Value.int .i64 ((p : Int) + 1))) = #[Value.string s, Value.int .i64 ((p : Int) + 1)] from rfl] at hli
   have HLI := Lib.hid hli
   have hk2 := ((hkk.trans (Kept.drewN (oneRow g) _ nq) (fun _ _ h => h)).trans (Kept.put _ g 1 (.int .i64 ((p : Int) + 1))) (fun _ _ h => h))
   have HK2 := Lib.hid hk2
   clear hli hk2
   go_wp2
   go_roundw
   case rel =>
    refine ⟨k + 1, by omega, by go_num, rfl, ⟨?_, by rw [← Nat.add_assoc, HP.out]; exact hpi, hs⟩, HK2.out⟩
    rw [← Nat.add_assoc, HP.out]; exact HLI.out
   case measure => simp [intOf]; omega
  ·obtain rfl : k = c := by omega
   have HR := Lib.hid hr
   have hln := numB_lt (cutB s i k)
   rw [cutB_length s i k (by omega)] at hln
   clear hr
   obtain ⟨N, hN⟩ : ∃ N, N = numB (cutB s i k) := ⟨_, rfl⟩
   rw [← hN]
   have HN := Lib.hid hN
   clear hln hN
   go_wp2
   go_ret2
   exact ⟨by rw [← HN.out]; rfl, HR.out, hkk⟩
theorem c64_set' (l : List Nat) (i n : Nat) : (cells64 l).set i (.int .u64 (n : Int)) = cells64 (l.set i n) := by simp [cells64, List.map_set]
theorem c64_get'' {l : List Nat} {i n : Nat} (h : l[i]? = some n) : (cells64 l)[i]? = some (.int .u64 (n : Int)) := by simp [cells64, h]
theorem take_rep {ls : List Nat} {i n : Nat} (h : ls[i]? = some n) (hi : i < 256) : (ls.take i ++ List.replicate (256 - i) 0).set i n = ls.take (i + 1) ++ List.replicate (256 - (i + 1)) 0 := by
 have hl : i < ls.length := (List.getElem?_eq_some_iff.1 h).1
 have hlt : (ls.take i).length = i := by rw [List.length_take]; omega
 rw [List.set_append_right _ _ (by omega), hlt, Nat.sub_self, show 256 - i = 256 - (i + 1) + 1 by omega, List.replicate_succ, List.set_cons_zero, List.take_add_one, h, List.append_assoc]
 rfl
set_option maxHeartbeats 1000000 in
set_option maxRecDepth 100000 in
theorem huffWiden (ls : List Nat) (w : World) (hl : ls.length = 256) (h256 : ∀ x ∈ ls, x < 256) :
  Calls Tryz.prog 44 #[.agg (c8 ls).toArray] w fun e w' => ∃ v, e = .returned v ∧ w'.ownsRow w.heap.size 34 1 v 256 (cells64 ls) ∧ Below w.heap.size w w' := by
 have hg := ix8 ls .i64
 have hlen : (c8 ls).length = 256 := by rw [c8_length]; exact hl
 obtain ⟨L, hL⟩ : ∃ L, L = c8 ls := ⟨_, rfl⟩
 rw [← hL] at hg hlen ⊢
 have hi1 : (Tryz.prog.info? 78).map (·.size) = some L.length := by rw [hlen]; exact info8
 have HG := Lib.hid hg
 have HI1 := Lib.hid hi1
 have HL := Lib.hid hl
 have H256 := Lib.hid h256
 clear hg hL hi1 hl h256
 have hmk := run_make_row' (P := Tryz.prog) 46 34 (.int .u64 0) 8 Tryz.underlying46 Tryz.infoU64 rfl .i64 .i64 256 (by omega) (by omega) (w.alloc (.cells L.toArray 78))
 have ho := owned_made (w.alloc (.cells L.toArray 78)) 34 (.int .u64 0) rfl 256 (by unfold maxLen; omega)
 have hsz : (w.alloc (.cells L.toArray 78)).heap.size = w.heap.size + 1 := by simp
 rw [hsz] at hmk ho
 change (Instr.makeSlice 46 (.int .i64 256) (.int .i64 256)).run Tryz.prog _ = _ at hmk
 have hb := Lib.hid (((Below.refl w.heap.size w).alloc (Nat.le_refl _) (.cells L.toArray 78)).alloc (by simp) (.cells (madeCells #[Value.int .u64 0] 256) 34))
 have HR0 := Lib.hid (arr_range ((Lies.made w 78 L.toArray).alloc (.cells (madeCells #[Value.int .u64 0] 256) 34)))
 have hO0 : List.replicate 256 (Value.int .u64 0) = cells64 (ls.take 0 ++ List.replicate (256 - 0) 0) := by rw [List.take_zero, List.nil_append]; unfold cells64; rw [List.map_replicate]; rfl
 rw [hO0] at ho
 have HO := Lib.hid ho
 clear ho hO0 hsz
 go_enter Tryz.func44, Tryz.ntmps44
 go_wp2_with (refine wpList_load_mid rfl 78 _ rfl w.heap.size 0 rfl L _ HR0.out under8 rfl HI1.out ?_)
 clear HR0 hmk
 generalize (w.alloc (.cells L.toArray 78)).alloc (.cells (madeCells #[Value.int .u64 0] 256) 34) = w1 at *
 go_loopw [8] (fun c wr => ∃ i : Nat, i ≤ 256 ∧ c = .int .i64 i ∧ wr.ownsRow (w.heap.size + 1) 34 1 (.slice (some ⟨w.heap.size + 1, 0, none⟩) 256 256) 256 (cells64 (ls.take i ++ List.replicate (256 - i) 0)) ∧ Below w.heap.size w wr)
  (fun c _ => 256 - (intOf c).toNat)
 case atStart => exact ⟨0, by omega, rfl, HO.out, hb.out⟩
 case round =>
  clear HO hb
  obtain ⟨i, hi, rfl, ho, hb⟩ := hrel
  have HO := Lib.hid ho
  have HB := Lib.hid hb
  clear ho hb
  by_cases hlt : i < 256
  ·have hii : (i : Int) < 256 := by omega
   obtain ⟨n, hn⟩ : ∃ n, ls[i]? = some n := ⟨_, List.getElem?_eq_getElem (by rw [HL.out]; exact hlt)⟩
   have hn256 := H256.out n (List.mem_of_getElem? hn)
   have hix := HG.out i n hlt hn
   have hlt2 : (ls.take i).length = i := by rw [List.length_take, HL.out]; omega
   have cz := owns_cell HO.out (c64_get'' (n := 0) (show (ls.take i ++ List.replicate (256 - i) 0)[i]? = some 0 by rw [List.getElem?_append_right (by omega), hlt2, Nat.sub_self, List.getElem?_replicate, if_pos (by omega)]))
   have fz := owns_free HO.out (k := i) hlt
   have hset := owns_set (u := .int .u64 (n : Int)) HO.out (k := i) hlt
   rw [c64_set', take_rep hn hlt] at hset
   have HS := Lib.hid hset
   have HBS := Lib.hid (HB.out.setCell (p := ⟨w.heap.size + 1, i, none⟩) (by show w.heap.size ≤ w.heap.size + 1; omega) (.int .u64 (n : Int)))
   have en : IntKind.u64.wrap (n : Int) = (n : Int) := by rw [IntKind.wrap_u64]; omega
   clear hset hn hlt2
   go_wp2_with fail
   go_roundw
   case rel => exact ⟨i + 1, by omega, by go_num, HS.out, HBS.out⟩
   case measure => simp [intOf]; omega
  ·obtain rfl : i = 256 := by omega
   have ho := HO.out
   rw [Nat.sub_self, List.replicate_zero, List.append_nil, List.take_of_length_le (by rw [HL.out]; exact Nat.le_refl _)] at ho
   have HO2 := Lib.hid (owns_base ho (Nat.le_succ w.heap.size))
   clear ho HO
   go_wp2
   go_ret
   exact ⟨_, rfl, HO2.out, HB.out⟩
def putL (n c : Nat) : List Bool := if c ≤ 64 then bitsN n c else []
theorem putL_le (n c : Nat) : (putL n c).length ≤ 64 := by unfold putL; split <;> simp [bitsN_length]; assumption
theorem bitsPutAny (B g n c : Nat) (l : List Bool) (w : World) (h : BwAt w B g l) (hB : B ≤ w.heap.size) (hl : l.length + 64 ≤ 1099511627776) (hn : n < 18446744073709551616) :
  Calls Tryz.prog 43 #[.pointer (some ⟨g, 0, none⟩), .int .u64 n, .int .i64 c] w fun e w' => (∃ x : Int, e = .returned (.int .i64 x)) ∧ BwAt w' B g (l ++ putL n c) ∧ Kept (bwRows w B g) w w' := by
 by_cases hc : c ≤ 64
 ·refine (bitsPut B g n c l w h hB (by omega) hn hc).mono ?_
  rintro e w' ⟨rfl, h1, h2⟩
  exact ⟨⟨_, rfl⟩, by unfold putL; rw [if_pos hc]; exact h1, h2⟩
 ·refine (bitsPutNo g n c w (.inr (by omega))).mono ?_
  rintro e w' ⟨rfl, rfl⟩
  exact ⟨⟨_, rfl⟩, by unfold putL; rw [if_neg hc, List.append_nil]; exact h, Kept.refl _ _⟩
def rlA (s : ByteArray) (i : Nat) : Bool := decide (redE s i 256 = 0) && decide ((redOf s i 256).length = 256) && (redOf s i 256).all fun n => decide (n ≤ 56)
def rlL (s : ByteArray) (i : Nat) : List Nat := if rlA s i = true then redOf s i 256 else List.replicate 256 0
def rlB (s : ByteArray) (i : Nat) : Bool := rlA s i && wholeB (rlL s i)
theorem rlL_ok (s : ByteArray) (i : Nat) : LOk (rlL s i) := by
 unfold rlL
 split
 ·next h =>
  unfold rlA at h
  simp only [Bool.and_eq_true, decide_eq_true_eq, List.all_eq_true] at h
  exact ⟨h.1.2, h.2⟩
 ·exact ⟨List.length_replicate, fun n hn => by rw [List.eq_of_mem_replicate hn]; omega⟩
set_option maxHeartbeats 2000000 in
set_option maxRecDepth 100000 in
theorem huffReadLengths (g : Nat) (s : ByteArray) (p : Nat) (w : World) (h : RdAt w g s p) (hs : s.size ≤ 1099511627776) :
  Calls Tryz.prog 56 #[.pointer (some ⟨g, 0, none⟩)] w fun e w' => e = .returned (.tuple #[.agg (c8 (rlL s p)).toArray, .bool (rlB s p)]) ∧ RdAt w' g s (redAt s p 256) ∧ Kept (oneRow g) w w' := by
 have hrd := fun w h => runsRead g s p 256 w h hs (by omega) (by omega)
 have hcm := fun w => huffComplete (rlL s p) w (rlL_ok s p)
 obtain ⟨Z, hZ⟩ : ∃ Z, Z = c8 (List.replicate 256 0) := ⟨_, rfl⟩
 have hz := zero8
 have hzz : (Array.replicate 256 (Value.int .u8 0)) = Z.toArray := by rw [hZ]; unfold c8; rw [List.map_replicate]; exact (List.toArray_replicate 256 _).symm
 rw [hzz] at hz
 have hzl : Z.length = 256 := by rw [hZ, c8_length, List.length_replicate]
 have hz1 : Z.toArray.all (·.oneCell') = true := by rw [hZ]; exact c8_one _
 have hi2 : (Tryz.prog.info? 78).map (·.size) = some Z.length := by rw [hzl]; exact info8
 have hi3 : (Tryz.prog.info? 78).map (·.size) = some Z.toArray.size := by rw [List.size_toArray, hzl]; exact info8
 have HZ := Lib.hid hZ
 have HZL := Lib.hid hzl
 have HZ1 := Lib.hid hz1
 have HI2 := Lib.hid hi2
 have HI3 := Lib.hid hi3
 have HRD := Lib.hid hrd
 have HCM := Lib.hid hcm
 have hgl := h.1.lt
 have l0 := Lies.made w 78 Z.toArray
 have hr0 := h.later ((Below.refl w.heap.size w).alloc (Nat.le_refl _) (.cells Z.toArray 78))
 have L0 := Lib.hid l0
 have HR0 := Lib.hid hr0
 have HK0 := Lib.hid (Kept.alloc (oneRow g) w (.cells Z.toArray 78))
 have hsz : (w.alloc (.cells Z.toArray 78)).heap.size = w.heap.size + 1 := by simp
 obtain ⟨g0, hg0⟩ : ∃ g0, g0 = w.heap.size := ⟨_, rfl⟩
 rw [← hg0] at L0 hgl hsz
 have HG0 := Lib.hid hg0
 have HSZ := Lib.hid hsz
 clear hZ hzz hzl hz1 hi2 hi3 hrd hcm l0 hr0 h hg0 hsz
 go_enter Tryz.func56, Tryz.ntmps56
 go_wp2_with fail
 rw [← HG0.out]
 generalize w.alloc (.cells Z.toArray 78) = w1 at *
 refine (HRD.out w1 HR0.out).mono ?_
 rintro e w2 ⟨v, rfl, ho, hr2, hk2⟩
 have L2 := Lib.hid (L0.out.kept hk2 (fun e => by have h1 : g0 = g := e; omega))
 have HR2 := Lib.hid hr2
 have HK2 := Lib.hid (HK0.out.trans hk2 (fun _ _ h => h))
 have hz2 : g0 + 1 ≤ w2.heap.size := by have := hk2.size; rw [HSZ.out] at this; exact this
 have HO := Lib.hid ho
 obtain ⟨A, cp, rfl, hq1, hq2, _⟩ := (SeqS.of_owns ho).form
 unfold maxLen at hq2
 have HA : Hid (rlA s p = (decide (redE s p 256 = 0) && decide ((redOf s p 256).length = 256) && (redOf s p 256).all fun n => decide (n ≤ 56))) := rfl
 have HLL : Hid (rlL s p = if rlA s p = true then redOf s p 256 else List.replicate 256 0) := rfl
 have HBB : Hid (rlB s p = (rlA s p && wholeB (rlL s p))) := rfl
 obtain ⟨E, hE⟩ : ∃ E, E = redE s p 256 := ⟨_, rfl⟩
 obtain ⟨l, hl⟩ : ∃ l, l = redOf s p 256 := ⟨_, rfl⟩
 rw [← hE, ← hl] at HA
 rw [← hl] at HLL HO hq1
 rw [← hE, ← hl]
 have HTH := Lib.hid (arr_there L2.out (n := Z.toArray.size) rfl)
 have HSTO := Lib.hid (arr_store L2.out (L := Z) (by simp))
 have HRS := Lib.hid (HR2.out.kept (kept_cellsH Z 0 w2 (g := g0)) (fun e => by have h1 : g = g0 := e; omega))
 have HKS := Lib.hid (HK2.out.trans (kept_cellsH Z 0 w2 (g := g0)) (fun i hi e => by have h1 : i = g0 := e; have := HG0.out; omega))
 clear ho hr2 hk2 hE hl HR0 HK0 L0 HSZ HRD
 have hnot : rlA s p = false → rlL s p = List.replicate 256 0 ∧ rlB s p = false := fun hf => ⟨by rw [HLL.out, hf]; rfl, by rw [HBB.out, hf]; rfl⟩
 have HNOT := Lib.hid hnot
 clear hnot
 by_cases hE0 : E = 0
 ·have e1 : ((E : Int) != 0) = false := by simp; omega
  have e2 : (E != 0) = false := by simpa using hE0
  by_cases hl256 : l.length = 256
  ·have e3 : ((l.length : Int) != 256) = false := by simp; omega
   have e4 : (l.length != 256) = false := by simp; omega
   have HL256 := Lib.hid hl256
   have L3 := Lib.hid (L2.out.alloc (.cells Z.toArray 78))
   have LQ := Lib.hid (Lies.made w2 78 Z.toArray)
   have HO3 := Lib.hid (HO.out.alloc (.cells Z.toArray 78))
   have HR3 := Lib.hid (HR2.out.later ((Below.refl w2.heap.size w2).alloc (Nat.le_refl _) (.cells Z.toArray 78)))
   have HK3 := Lib.hid (HK2.out.trans (Kept.alloc (oneRow g) w2 (.cells Z.toArray 78)) (fun _ _ h => h))
   have hsz3 : (w2.alloc (.cells Z.toArray 78)).heap.size = w2.heap.size + 1 := by simp
   obtain ⟨gq, hgq⟩ : ∃ gq, gq = w2.heap.size := ⟨_, rfl⟩
   rw [← hgq] at LQ hsz3 hz2
   have LQ0 := LQ
   have HE0 := Lib.hid hE0
   have HGQ := Lib.hid hgq
   have HSZ3 := Lib.hid hsz3
   clear hgq HTH HSTO HRS HKS HR2 HK2 L2 HO hE0 hsz3
   have hll : l.length ≤ 256 := by omega
   go_wp2_with fail
   rw [← HGQ.out]
   generalize w2.alloc (.cells Z.toArray 78) = w3 at *
   clear hz
   clear hl256
   go_loopw [24] (fun c wr => ∃ i : Nat, i ≤ l.length ∧ c = .int .i64 i ∧ Hid (∀ j, j < i → l.getD j 0 ≤ 56) ∧ Lies wr gq 78 (c8 (l.take i ++ List.replicate (256 - i) 0)).toArray ∧ Kept (oneRow gq) w3 wr)
    (fun c _ => l.length - (intOf c).toNat)
   case atStart => exact ⟨0, by omega, rfl, (fun j hj => by omega), by rw [List.take_zero, List.nil_append, Nat.sub_zero, ← HZ.out]; exact LQ.out, Kept.refl _ _⟩
   case round =>
    clear LQ
    obtain ⟨i, hi, rfl, hall, lq, hk⟩ := hrel
    have L0 := Lib.hid (L3.out.kept hk (fun e => by have h1 : g0 = gq := e; omega))
    have HOw := Lib.hid (owns_kept HO3.out hk (fun q cur _ hl e => by
     have h1 : q = gq := e
     subst h1
     exact absurd (hl.same LQ0.out).1 (by decide)))
    have HRw := Lib.hid (HR3.out.kept hk (fun e => by have h1 : g = gq := e; omega))
    have HKw := Lib.hid (HK3.out.trans hk (fun i hi e => by have h1 : i = gq := e; have := HG0.out; omega))
    have LQ := Lib.hid lq
    have HK := Lib.hid hk
    have hwz : gq + 1 ≤ wr.heap.size := by have := hk.size; rw [HSZ3.out] at this; exact this
    clear lq hk
    by_cases hlt : i < l.length
    ·have hii : (i : Int) < (l.length : Int) := by omega
     have hi256 : (i : Int) < 256 := by omega
     obtain ⟨n, hn⟩ : ∃ n, l[i]? = some n := ⟨_, List.getElem?_eq_getElem hlt⟩
     obtain ⟨r, cp3, hv3, _, _, _, _⟩ := owns_openS HOw.out (by omega)
     have hv4 : A = some ⟨r, 0, none⟩ := by
      simp only [Value.slice.injEq] at hv3
      exact hv3.1
     clear hv3
     subst hv4
     have cn := owns_cell HOw.out (c64_get'' hn)
     by_cases hn56 : 56 < n
     ·have e5 : decide ((56 : Int) < (n : Int)) = true := by simp; omega
      have e6 : decide (56 < n) = true := by simpa using hn56
      have hno := HNOT.out (by
       rw [HA.out]
       have : (l.all fun n => decide (n ≤ 56)) = false := by
        rw [List.all_eq_false]
        exact ⟨n, List.mem_of_getElem? hn, by simp; omega⟩
       rw [this, Bool.and_false])
      have HNO := Lib.hid hno
      have HTH := Lib.hid (arr_there L0.out (n := Z.toArray.size) rfl)
      have HSTO := Lib.hid (arr_store L0.out (L := Z) (by simp))
      have HRS := Lib.hid (HRw.out.kept (kept_cellsH Z 0 wr (g := g0)) (fun e => by have h1 : g = g0 := e; omega))
      have HKS := Lib.hid (HKw.out.trans (kept_cellsH Z 0 wr (g := g0)) (fun i hi e => by have h1 : i = g0 := e; have := HG0.out; omega))
      have hze := zero8
      rw [show (Array.replicate 256 (Value.int .u8 0)) = Z.toArray by rw [HZ.out]; unfold c8; rw [List.map_replicate]; exact (List.toArray_replicate 256 _).symm] at hze
      clear hno hn hn56 hall
      go_wp2_with (refine wpList_store_mid rfl 78 _ _ rfl g0 0 Z.toArray rfl rfl HTH.out HI3.out HZ1.out ?_)
      refine bodyPost_ret (v := .tuple #[.agg Z.toArray, .bool false]) (results_cell_tmp Tryz.results56 _ _ g0 Z _ rfl (arr_range HSTO.out) under8 rfl HI2.out) rfl ⟨by rw [HNO.out.1, HNO.out.2, ← HZ.out], HRS.out, HKS.out⟩
     ·have e5 : decide ((56 : Int) < (n : Int)) = false := by simp; omega
      have e6 : decide (56 < n) = false := by simpa using hn56
      have hall2 : Hid (∀ j, j < i + 1 → l.getD j 0 ≤ 56) := fun j hj => by
       by_cases h : j = i
       ·rw [h, getD_of hn]; omega
       ·exact hall.out j (by omega)
      have en : IntKind.u8.wrap (n : Int) = (n : Int) := by rw [IntKind.wrap_u8]; omega
      have hlt2 : (l.take i).length = i := by rw [List.length_take]; omega
      have cz : wr.cell? ⟨gq, i, none⟩ = some (.int .u8 ((0 : Nat) : Int)) := (LQ.out.cell i).trans (by
       rw [List.getElem?_toArray]
       exact c8_get (by rw [List.getElem?_append_right (by omega), hlt2, Nat.sub_self, List.getElem?_replicate, if_pos (by omega)]))
      have fz := LQ.out.free i
      have hput := LQ.out.putL' i (.int .u8 (n : Int))
      rw [c8_set, take_rep hn (by omega)] at hput
      have HP := Lib.hid hput
      have HKP := Lib.hid (HK.out.trans (Kept.put wr gq i (.int .u8 (n : Int))) (fun _ _ h => h))
      clear hput hn hn56 hall hlt2
      go_wp2_with fail
      go_roundw
      case rel => exact ⟨i + 1, by omega, by go_num, hall2, HP.out, HKP.out⟩
      case measure => simp [intOf]; omega
    ·obtain rfl : i = l.length := by omega
     have hal : (l.all fun n => decide (n ≤ 56)) = true := by
      rw [List.all_eq_true]
      intro n hn
      obtain ⟨j, hj, he⟩ := List.getElem_of_mem hn
      have h1 := hall.out j hj
      rw [getD_of (show l[j]? = some n by rw [List.getElem?_eq_getElem hj, he])] at h1
      simpa using h1
     have hA := HA.out
     rw [hal, HL256.out, HE0.out] at hA
     have hA2 : rlA s p = true := hA
     have hL2 := HLL.out
     rw [if_pos hA2] at hL2
     have lq := LQ.out
     rw [List.take_of_length_le (Nat.le_refl _), HL256.out, Nat.sub_self, List.replicate_zero, List.append_nil, ← hL2] at lq
     have hB2 : rlB s p = wholeB (rlL s p) := by rw [HBB.out, hA2]; rfl
     obtain ⟨T, hT⟩ : ∃ T, T = c8 (rlL s p) := ⟨_, rfl⟩
     have hTl : T.length = 256 := by rw [hT, c8_length, (rlL_ok s p).1]
     have hT1 : T.toArray.all (·.oneCell') = true := by rw [hT]; exact c8_one _
     have hcm := HCM.out
     rw [← hT] at lq hcm
     have hj1 : (Tryz.prog.info? 78).map (·.size) = some T.length := by rw [hTl]; exact info8
     have hj2 : (Tryz.prog.info? 78).map (·.size) = some T.toArray.size := by rw [List.size_toArray, hTl]; exact info8
     have HT := Lib.hid hT
     have HJ1 := Lib.hid hj1
     have HJ2 := Lib.hid hj2
     have HT1 := Lib.hid hT1
     have HC2 := Lib.hid hcm
     have HB2 := Lib.hid hB2
     have LQ2 := Lib.hid lq
     have HTL := Lib.hid hTl
     clear hal hA hA2 hL2 lq hB2 hT hTl hT1 hcm hj1 hj2 hall HCM HA HLL HBB HNOT
     have x7 : decide ((l.length : Int) < 256) = false := by have := HL256.out; simp; omega
     have x8 : decide (l.length < 256) = false := by have := HL256.out; simp; omega
     go_wp2_with fail
     have hKeep : Hid (∀ a b : World, Below a.heap.size a b → (Lies a gq 78 T.toArray ∧ (∃ cs : Array Value, Lies a g0 78 cs ∧ cs.size = 256) ∧ RdAt a g s (redAt s p 256) ∧ Kept (oneRow g) w a) →
       (Lies b gq 78 T.toArray ∧ (∃ cs : Array Value, Lies b g0 78 cs ∧ cs.size = 256) ∧ RdAt b g s (redAt s p 256) ∧ Kept (oneRow g) w b)) := fun a b hb h => by
      obtain ⟨h1, ⟨cs, h2, h3⟩, h4, h5⟩ := h
      exact ⟨h1.below hb h1.lt, ⟨cs, h2.below hb h2.lt, h3⟩, h4.later hb, h5.trans (Kept.of_below hb) (fun _ _ h => h.elim)⟩
     try simp only [Act.put, List.setIfInBounds_toArray, List.set_cons_zero, List.set_cons_succ]
     refine wp_region_held_drew (S := fun u => (Lies u gq 78 T.toArray ∧ (∃ cs : Array Value, Lies u g0 78 cs ∧ cs.size = 256) ∧ RdAt u g s (redAt s p 256) ∧ Kept (oneRow g) w u) ∧ Below 0 wr u ∧ 0 ≤ u.heap.size) (by kernel_rfl)
      ⟨⟨LQ2.out, ⟨_, L0.out, by rw [List.size_toArray, HZL.out]⟩, HRw.out.kept (Kept.drewN noRow wr 1) (fun h => h), HKw.out.trans (Kept.drewN noRow wr 1) (fun _ _ h => h.elim)⟩, (Below.refl 0 wr).drew, Nat.zero_le _⟩ (fun hHeld => ?_)
     refine wpAnyH_take (i := 0) rfl (by kernel_rfl) (by kernel_rfl) (by kernel_rfl) (fun _ _ _ h => h) (yieldsIf_load_mid (by rfl) _ _ rfl gq 0 rfl T _ (fun w h => arr_range h.1.1) under8 rfl HJ1.out) (by assumption) ?_
     try simp only [Act.put, List.setIfInBounds_toArray, List.set_cons_zero, List.set_cons_succ]
     refine wpAnyH_take (i := 1) rfl (by kernel_rfl) (by kernel_rfl) (by kernel_rfl) (fun _ _ _ h => h) (yieldsIf_load_mid (by rfl) _ _ rfl gq 0 rfl T _ (fun w h => arr_range h.1.1) under8 rfl HJ1.out) (by assumption) ?_
     try simp only [Act.put, List.setIfInBounds_toArray, List.set_cons_zero, List.set_cons_succ]
     refine wpAnyH_ready (rs := [2]) (by kernel_rfl) (by simp) ?_
     refine AllReadyH.cons rfl (fun K hK => ?_) AllReadyH.nil
     rw [if_pos (by rfl)]
     go_wp2_with fail
     refine (keep_callS hKeep.out (HC2.out _) (by assumption)).mono ?_
     rintro e w' ⟨he, q⟩
     cases he
     dsimp only
     refine hK.out _ _ q (fun hHeld => ?_)
     clear hK K
     try simp only [Act.put, List.setIfInBounds_toArray, List.set_cons_zero, List.set_cons_succ]
     refine wpAnyH_ready (rs := [3]) (by kernel_rfl) (by simp) ?_
     refine AllReadyH.cons rfl (fun K hK => ?_) AllReadyH.nil
     rw [if_pos (by rfl)]
     obtain ⟨⟨h1, ⟨cs, h2, h3⟩, h4, h5⟩, hb0, hb1⟩ := hHeld
     refine wp_store_mid 78 _ _ rfl g0 0 T.toArray rfl rfl (arr_there h2 (by rw [h3, List.size_toArray, HTL.out])) HJ2.out HT1.out ?_
     have hst := arr_store h2 (L := T) (by rw [h3, HTL.out])
     have hkc := kept_cellsH T 0 w' (g := g0)
     have h4s := h4.kept hkc (fun e => by have h1 : g = g0 := e; omega)
     have h5s := h5.trans hkc (fun i hi e => by have h1 : i = g0 := e; have := HG0.out; omega)
     have h1s := h1.kept hkc (fun e => by have h1 : gq = g0 := e; omega)
     have HST := Lib.hid hst
     have H4 := Lib.hid h4s
     have H5 := Lib.hid h5s
     refine hK.out _ _ ⟨⟨h1s, ⟨_, hst, by rw [List.size_toArray, HTL.out]⟩, h4s, h5s⟩, below_cellsA (Nat.zero_le _) T 0 _ hb0, Nat.zero_le _⟩ (fun hHeld => ?_)
     clear hK K h1 h2 h3 h4 h5 hb0 hb1 hst hkc h4s h5s h1s
     try simp only [Act.put, List.setIfInBounds_toArray, List.set_cons_zero, List.set_cons_succ]
     refine wpAnyH_ready (rs := [4]) (by kernel_rfl) (by simp) ?_
     refine AllReadyH.cons rfl (fun K hK => ?_) AllReadyH.nil
     rw [if_pos (by rfl)]
     go_wp2_with fail
     refine hK.out _ _ (by assumption) (fun hHeld => ?_)
     clear hK K
     try simp only [Act.put, List.setIfInBounds_toArray, List.set_cons_zero, List.set_cons_succ]
     refine wpAnyH_done (by kernel_rfl) ?_ _
     go_wp2
     refine bodyPost_ret (v := .tuple #[.agg T.toArray, .bool (wholeB (rlL s p))]) (results_cell_tmp Tryz.results56 _ _ g0 T _ rfl (arr_range HST.out) under8 rfl HJ1.out) rfl ⟨by rw [HB2.out, HT.out], H4.out, H5.out⟩
  ·have e3 : ((l.length : Int) != 256) = true := by simp; omega
   have e4 : (l.length != 256) = true := by simpa using hl256
   have hno := HNOT.out (by rw [HA.out, decide_eq_false hl256]; simp)
   have HNO := Lib.hid hno
   clear hno hl256 hE0
   go_wp2_with (refine wpList_store_mid rfl 78 _ _ rfl g0 0 Z.toArray rfl rfl HTH.out HI3.out HZ1.out ?_)
   refine bodyPost_ret (v := .tuple #[.agg Z.toArray, .bool false]) (results_cell_tmp Tryz.results56 _ _ g0 Z _ rfl (arr_range HSTO.out) under8 rfl HI2.out) rfl ⟨by rw [HNO.out.1, HNO.out.2, ← HZ.out], HRS.out, HKS.out⟩
 ·have e1 : ((E : Int) != 0) = true := by simp; omega
  have e2 : (E != 0) = true := by simpa using hE0
  have hno := HNOT.out (by rw [HA.out, decide_eq_false hE0]; simp)
  have HNO := Lib.hid hno
  clear hno hE0
  go_wp2_with (refine wpList_store_mid rfl 78 _ _ rfl g0 0 Z.toArray rfl rfl HTH.out HI3.out HZ1.out ?_)
  refine bodyPost_ret (v := .tuple #[.agg Z.toArray, .bool false]) (results_cell_tmp Tryz.results56 _ _ g0 Z _ rfl (arr_range HSTO.out) under8 rfl HI2.out) rfl ⟨by rw [HNO.out.1, HNO.out.2, ← HZ.out], HRS.out, HKS.out⟩
end Go.Proofs.YtmadgdmiipgjoaaGreat
