import Derived.Test.YtakdpnlohknniaaZz1
namespace Go.Proofs.Ytakdpnlohknniaa
open Go.RowKit
set_option linter.unusedVariables false
set_option linter.unusedSimpArgs false
def lvF (acc : List N2) (n : Nat) : List N2 := if 0 < n then acc ++ [(n, acc.length)] else acc
def lvs (ws : List Nat) : List N2 := ws.foldl lvF []
theorem lvs_take {ws : List Nat} {i n : Nat} (h : ws[i]? = some n) : lvs (ws.take (i + 1)) = lvF (lvs (ws.take i)) n := by
 unfold lvs; rw [List.take_add_one, h, List.foldl_append]; rfl
theorem lvF_length (acc : List N2) (n : Nat) : (lvF acc n).length ≤ acc.length + 1 := by unfold lvF; split <;> simp
theorem lvs_length (ws : List Nat) : ∀ i, (lvs (ws.take i)).length ≤ i
 | 0 => by simp [lvs]
 | i + 1 => by
  rcases h : ws[i]? with _ | n
  ·have := lvs_length ws i
   rw [List.take_add_one, h]; simp; omega
  ·rw [lvs_take h]
   have := lvF_length (lvs (ws.take i)) n
   have := lvs_length ws i
   omega
def WOk (ws : List Nat) : Prop := ws.length = 256 ∧ ∀ n ∈ ws, n < 18446744073709551616
theorem WOk.get {ws : List Nat} (h : WOk ws) {i : Nat} (hi : i < 256) : ∃ n, ws[i]? = some n ∧ n < 18446744073709551616 :=
 ⟨ws[i]'(by rw [h.1]; exact hi), List.getElem?_eq_getElem _, h.2 _ (List.getElem_mem _)⟩
theorem c64_get {ws : List Nat} {i n : Nat} (h : ws[i]? = some n) : (cells64 ws).toArray[i]? = some (.int .u64 (n : Int)) := by simp [cells64, h]
set_option maxHeartbeats 1000000 in
set_option maxRecDepth 100000 in
theorem huffLeaves (ws : List Nat) (w : World) (h : WOk ws) :
  Calls Try.prog 23 #[.agg (cells64 ws).toArray] w fun e w' => ∃ v, e = .returned v ∧ w'.ownsRow w.heap.size 85 2 v (lvs ws).length (cellsN (lvs ws)) ∧ Below w.heap.size w w' := by
 have hg := fun (i n : Nat) (hi : i < 256) (hn : ws[i]? = some n) (w : World) => run_index_arr (P := Try.prog) 25 24 256 (cells64 ws).toArray .i64 i _ under64 isAgg64 sizeOf64 hi (c64_get hn) w
 have hlen : (cells64 ws).length = 256 := by rw [c64_length]; exact h.1
 have hall : lvs ws = lvs (ws.take 256) := by rw [List.take_of_length_le (by rw [h.1]; exact Nat.le_refl _)]
 have HALL := Lib.hid hall
 have HG := Lib.hid hg
 have H := Lib.hid h
 obtain ⟨L, hL⟩ : ∃ L, L = cells64 ws := ⟨_, rfl⟩
 rw [← hL] at HG hlen ⊢
 have hi1 : (Try.prog.info? 25).map (·.size) = some L.length := by rw [hlen]; exact info64
 have HI1 := Lib.hid hi1
 clear hall hg h hL hi1
 go_enter Try.func23, Try.ntmps23
 have hli := Lies.made w 25 L.toArray
 have HR := Lib.hid (arr_range hli)
 have hb := (Below.refl w.heap.size w).alloc (Nat.le_refl _) (.cells L.toArray 25)
 clear hli
 go_wp2_with (refine wpList_load_mid rfl 25 _ rfl w.heap.size 0 rfl L _ HR.out under64 rfl HI1.out ?_)
 clear HR
 generalize w.alloc (.cells L.toArray 25) = w1 at *
 have hb1 := hb.size
 go_loopw [3, 7] (fun t c wr => ∃ i : Nat, i ≤ 256 ∧ c = .int .i64 i ∧ wr.ownsRow w.heap.size 85 2 t (lvs (ws.take i)).length (cellsN (lvs (ws.take i))) ∧ Below w.heap.size w wr)
  (fun _ c _ => 256 - (intOf c).toNat)
 case atStart => exact ⟨0, by omega, rfl, World.ownsRow_nil _ _ _ _, hb⟩
 case round =>
  clear hb hb1
  obtain ⟨i, hi, rfl, ho, hb⟩ := hrel
  have hbs := hb.size
  by_cases hlt : i < 256
  ·have hii : (i : Int) < 256 := by omega
   obtain ⟨n, hn, hnl⟩ := H.out.get hlt
   have hix := HG.out i n hlt hn
   have hst := lvs_take hn
   have hll := lvs_length ws i
   have HST := Lib.hid hst
   have HO := Lib.hid ho
   obtain ⟨A2, cp2, hv2, ho1, ho2, _⟩ := (SeqS.of_owns ho).form
   unfold maxLen at ho2
   subst hv2
   clear hst ho hn
   generalize lvs (ws.take i) = d at *
   obtain ⟨D, hD⟩ : ∃ D, D = d.length := ⟨_, rfl⟩
   rw [← hD] at HO ho1 hll ⊢
   have HDD := Lib.hid hD
   clear hD
   by_cases hz : 0 < n
   ·have e1 : decide ((0 : Int) < (n : Int)) = true := by simp; omega
    have e2 : decide (0 < n) = true := by simpa using hz
    have HST2 : Hid (lvs (ws.take (i + 1)) = d ++ [(n, D)]) := by show _ = _; rw [HST.out, HDD.out]; unfold lvF; rw [if_pos hz]
    clear hz HST
    go_wp2_with (at_builtin; refine append_oneS wr #[.int .u64 n, .int .i64 D] 2 rfl (.tmp 12) (.tmp 17) 48 rfl w.heap.size 85 _ 16 Try.underlying48 infoNode rfl (by omega) rfl (by simp [Value.oneCell']) _ _ _ rfl HO.out rfl (by unfold maxLen; omega) (by omega) hbs ?_)
    intro v' w2 ho3 hb3 hgr
    have hce : cellsN d ++ [Value.int .u64 (n : Int), Value.int .i64 (D : Int)] = cellsN (d ++ [(n, D)]) := (rowsOf_append d [(n, D)]).symm
    rw [hce, ← HST2.out] at ho3
    have hln : (lvs (ws.take (i + 1))).length = D + 1 := by rw [HST2.out, List.length_append, ← HDD.out]; rfl
    rw [← hln] at ho3
    have HO3 := Lib.hid ho3
    have HB3 := Lib.hid (hb.trans hb3)
    clear ho3 hb3 hgr hce hln HO hb hbs
    go_wp2
    go_roundw
    case rel => exact ⟨i + 1, by omega, by go_num, HO3.out, HB3.out⟩
    case measure => simp [intOf]; omega
   ·have e1 : decide ((0 : Int) < (n : Int)) = false := by simp; omega
    have e2 : decide (0 < n) = false := by simpa using hz
    have HST2 : Hid (lvs (ws.take (i + 1)) = d) := by show _ = _; rw [HST.out]; unfold lvF; rw [if_neg hz]
    clear hz HST
    go_wp2
    go_roundw
    case rel => exact ⟨i + 1, by omega, by go_num, by rw [HST2.out, ← HDD.out]; exact HO.out, hb⟩
    case measure => simp [intOf]; omega
  ·obtain rfl : i = 256 := by omega
   rw [← HALL.out] at ho
   have HO := Lib.hid ho
   clear ho
   go_wp2
   go_ret
   exact ⟨_, rfl, HO.out, hb⟩
set_option maxHeartbeats 1000000 in
set_option maxRecDepth 100000 in
theorem heapUp (B g r N cap : Nat) (l : List N2) (j0 : Nat) (w : World) (h : TrAt w B g r N cap l) (hj : j0 < N) :
  Calls Try.prog 62 #[hpI g, .int .i64 j0] w fun e w' => e = .returned (.tuple #[]) ∧ TrAt w' B g r N cap (upL j0 l) ∧ Kept (oneRow r) w w' := by
 have hN := h.2.2.2
 have H := Lib.hid h
 clear h
 unfold hpI
 go_enter Try.func62, Try.ntmps62
 go_wp2
 go_loopw [1] (fun t wr => ∃ (j : Nat) (cur : List N2), j < N ∧ t = .int .i64 j ∧ Hid (upL j0 l = upL j cur) ∧ TrAt wr B g r N cap cur ∧ Kept (oneRow r) w wr)
  (fun t _ => (intOf t).toNat)
 case atStart => exact ⟨j0, l, by omega, rfl, rfl, H.out, Kept.refl _ _⟩
 case round =>
  clear H
  obtain ⟨j, cur, hjN, rfl, hD, hT, hk2⟩ := hrel
  rcases Nat.eq_zero_or_pos j with hj0 | hj0
  ·subst hj0
   have HD2 : Hid (upL j0 l = cur) := by
    show _ = _
    rw [hD.out]
    conv => lhs; unfold upL
    rw [dif_neg (by omega)]
   clear hD
   go_wp2
   refine bodyPost_end (v := .tuple #[]) (by simp [results, Try.results62, go_sem]) rfl ?_
   exact ⟨rfl, by rw [HD2.out]; exact hT, hk2⟩
  ·obtain ⟨jm, hjm⟩ : ∃ jm : Nat, j = jm + 1 := ⟨j - 1, by omega⟩
   obtain ⟨ip, hip⟩ : ∃ ip : Nat, ip = (j - 1) / 2 := ⟨_, rfl⟩
   have q1 : (j : Int) - 1 = (jm : Int) := by omega
   have q2 : (jm : Int) / 2 = (ip : Int) := by omega
   have q3 : ((ip : Int) == (j : Int)) = false := by simp; omega
   have q4 : (ip == j) = false := by simp; omega
   have HIP := Lib.hid hip
   have hlt : ip < N := by omega
   have hltj : ip < j := by omega
   have m3 := met_less ⟨g, 0, none⟩ _ _ hT.cell
   have m4 := nil_less ⟨g, 0, none⟩
   clear hip hjm
   go_wp2_with fail
   refine (lessC hT j ip (by omega) (by omega)).mono ?_
   rintro e w4 ⟨rfl, k4, rfl⟩
   have hT := hT.drewN k4
   have hk2 := hk2.trans (Kept.drewN (oneRow r) _ k4) (fun _ _ h => h)
   generalize World.drewN _ k4 = w4 at *
   clear m3 m4
   by_cases hX2 : K2 cur j < K2 cur ip
   ·have e2 : decide (K2 cur j < K2 cur ip) = true := by simpa using hX2
    have m3 := met_swap ⟨g, 0, none⟩ _ _ hT.cell
    have m4 := nil_swap ⟨g, 0, none⟩
    have HD2 : Hid (upL j0 l = upL ip (swp cur ip j)) := by
     show _ = _
     rw [hD.out]
     conv => lhs; unfold upL
     rw [dif_pos hj0, ← HIP.out, if_pos hX2]
    clear hX2 hD
    go_wp2_with fail
    refine (swapC hT ip j (by omega) (by omega)).mono ?_
    rintro e w5 ⟨rfl, hT2, hk5⟩
    clear m3 m4 hT e2
    have hk6 := hk2.trans hk5 (fun _ _ h => h)
    clear hk2 hk5
    go_wp2
    go_roundw
    case rel => exact ⟨ip, _, by omega, by go_num, HD2, hT2, hk6⟩
    case measure => simp [intOf]; omega
   ·have e2 : decide (K2 cur j < K2 cur ip) = false := by simpa using hX2
    have HD2 : Hid (upL j0 l = cur) := by
     show _ = _
     rw [hD.out]
     conv => lhs; unfold upL
     rw [dif_pos hj0, ← HIP.out, if_neg hX2]
    clear hX2 hD
    go_wp2
    refine bodyPost_end (v := .tuple #[]) (by simp [results, Try.results62, go_sem]) rfl ?_
    exact ⟨rfl, by rw [HD2.out]; exact hT, hk2⟩
set_option maxHeartbeats 1000000 in
set_option maxRecDepth 100000 in
theorem heapInit (B g r N cap : Nat) (l : List N2) (w : World) (h : TrAt w B g r N cap l) :
  Calls Try.prog 45 #[hpI g] w fun e w' => e = .returned (.tuple #[]) ∧ TrAt w' B g r N cap (initL (N / 2) l) ∧ Kept (oneRow r) w w' := by
 have hN := h.2.2.2
 obtain ⟨M, hM⟩ : ∃ M, M = N / 2 := ⟨_, rfl⟩
 rw [← hM]
 have q1 : (N : Int) / 2 = (M : Int) := by omega
 have hMN : M ≤ N := by omega
 have m3 := met_len ⟨g, 0, none⟩ _ _ h.cell
 have m4 := nil_len ⟨g, 0, none⟩
 have H := Lib.hid h
 clear h hM
 unfold hpI
 go_enter Try.func45, Try.ntmps45
 go_wp2_with fail
 refine (lenC _ r N cap).mono ?_
 rintro e w4 ⟨rfl, rfl⟩
 clear m3 m4
 go_wp2
 go_loopw [3] (fun t wr => ∃ (m : Nat) (cur : List N2), m ≤ M ∧ t = .int .i64 ((m : Int) - 1) ∧ Hid (initL M l = initL m cur) ∧ TrAt wr B g r N cap cur ∧ Kept (oneRow r) w wr)
  (fun t _ => (intOf t + 1).toNat)
 case atStart => exact ⟨M, l, by omega, rfl, rfl, H.out, Kept.refl _ _⟩
 case round =>
  clear H
  obtain ⟨m, cur, hm, rfl, hD, hT, hk2⟩ := hrel
  rcases m with _ | m
  ·have HD2 : Hid (initL M l = cur) := hD
   clear hD
   go_wp2
   refine bodyPost_end (v := .tuple #[]) (by simp [results, Try.results45, go_sem]) rfl ?_
   exact ⟨rfl, by rw [HD2.out]; exact hT, hk2⟩
  ·have q2 : ((m + 1 : Nat) : Int) - 1 = (m : Int) := by omega
   have x1 : decide ((0 : Int) ≤ (m : Int)) = true := by simp
   rw [q2]
   have HL := Lib.hid hT.len
   clear q2
   go_wp2_with fail
   refine (heapDown B g r N cap cur m N _ hT (Nat.le_refl _) (by omega)).mono ?_
   rintro e w5 ⟨⟨b, rfl⟩, hT2, hk5⟩
   have hk6 := hk2.trans hk5 (fun _ _ h => h)
   clear hk2 hk5
   have HD2 : Hid (initL M l = initL m (downL N m cur)) := by show _ = _; rw [hD.out, initL, HL.out]
   clear hD hT
   go_wp2
   go_roundw
   case rel => exact ⟨m, _, by omega, by go_num, HD2, hT2, hk6⟩
   case measure => simp [intOf]
theorem met_pop (a : Addr) (w : World) : (method 249 86 (.pointer (some a)) "Pop").run Try.prog w = .ok (89, .pointer (some a)) w := by kernel_rfl
theorem met_push (a : Addr) (w : World) : (method 249 86 (.pointer (some a)) "Push").run Try.prog w = .ok (90, .pointer (some a)) w := by kernel_rfl
theorem nil_pop (a : Addr) (w : World) : (nilAhead 249 86 (.pointer (some a)) "Pop").run Try.prog w = .ok (some false) w := by kernel_rfl
theorem nil_push (a : Addr) (w : World) : (nilAhead 249 86 (.pointer (some a)) "Push").run Try.prog w = .ok (some false) w := by kernel_rfl
theorem kept_two1 {g r : Nat} {w w' : World} (h : Kept (oneRow g) w w') : Kept (twoRows g r) w w' := h.mono fun _ _ h => .inl h
theorem kept_two2 {g r : Nat} {w w' : World} (h : Kept (oneRow r) w w') : Kept (twoRows g r) w w' := h.mono fun _ _ h => .inr h
set_option maxHeartbeats 1000000 in
set_option maxRecDepth 100000 in
theorem heapPush (B g r N cap : Nat) (l : List N2) (p : N2) (w : World) (h : TrAt w B g r N cap l) (hN : N + 1 ≤ 1024) (hp : p.1 < 18446744073709551616 ∧ p.2 < 1024) (hB : B ≤ w.heap.size) :
  Calls Try.prog 47 #[hpI g, ndI p] w fun e w' => e = .returned (.tuple #[]) ∧ (∃ r' cap', TrAt w' B g r' (N + 1) cap' (pushL l p) ∧ (r' = r ∨ w.heap.size ≤ r')) ∧ Kept (twoRows g r) w w' := by
 have hl := h.len
 have HC := Lib.hid (trPush B g r N cap l p w h hN hp hB)
 have m3 := met_push ⟨g, 0, none⟩
 have m4 := nil_push ⟨g, 0, none⟩
 have HL := Lib.hid hl
 have H := Lib.hid h
 clear h hl
 unfold hpI
 go_enter Try.func47, Try.ntmps47
 go_wp2_with fail
 refine HC.out.mono ?_
 rintro e w4 ⟨rfl, ⟨r', cap', hT, hrr⟩, hk⟩
 clear m3 m4 HC
 have m3 := met_len ⟨g, 0, none⟩ _ _ hT.cell
 have m4 := nil_len ⟨g, 0, none⟩
 have q1 : ((N + 1 : Nat) : Int) - 1 = (N : Int) := by omega
 go_wp2_with fail
 refine (lenC _ r' (N + 1) cap').mono ?_
 rintro e w5 ⟨rfl, rfl⟩
 clear m3 m4
 go_wp2_with fail
 refine (heapUp B g r' (N + 1) cap' _ N _ hT (by omega)).mono ?_
 rintro e w5 ⟨rfl, hT2, hk2⟩
 go_wp2
 refine bodyPost_end (v := .tuple #[]) (by simp [results, Try.results47, go_sem]) rfl ?_
 have he : upL N (l ++ [p]) = pushL l p := by unfold pushL; rw [HL.out]
 rw [he] at hT2
 exact ⟨rfl, ⟨r', cap', hT2, hrr⟩, hk.trans hk2 (fun i hi hr => by
  have hr2 : i = r' := hr
  rcases hrr with h | h
  ·exact .inr (hr2.trans h)
  ·omega)⟩
set_option maxHeartbeats 1000000 in
set_option maxRecDepth 100000 in
theorem heapPop (B g r N cap : Nat) (l : List N2) (w : World) (h : TrAt w B g r (N + 1) cap l) :
  Calls Try.prog 61 #[hpI g] w fun e w' => e = .returned (ndI (gd l 0)) ∧ TrAt w' B g r N cap ((popL l).take N) ∧ Kept (twoRows g r) w w' := by
 have hl := h.len
 have hN := h.2.2.2
 have m3 := met_len ⟨g, 0, none⟩ _ _ h.cell
 have m4 := nil_len ⟨g, 0, none⟩
 have m5 := met_swap ⟨g, 0, none⟩ _ _ h.cell
 have m6 := nil_swap ⟨g, 0, none⟩
 have q1 : ((N + 1 : Nat) : Int) - 1 = (N : Int) := by omega
 have HL := Lib.hid hl
 have H := Lib.hid h
 clear h hl
 unfold hpI
 go_enter Try.func61, Try.ntmps61
 go_wp2_with fail
 refine (lenC _ r (N + 1) cap).mono ?_
 rintro e w5 ⟨rfl, rfl⟩
 go_wp2_with fail
 refine (swapC H.out 0 N (by omega) (by omega)).mono ?_
 rintro e w5 ⟨rfl, hT, hk⟩
 clear m3 m4 m5 m6
 go_wp2_with fail
 refine (heapDown B g r (N + 1) cap _ 0 N _ hT (by omega) (by omega)).mono ?_
 rintro e w6 ⟨⟨b, rfl⟩, hT2, hk2⟩
 have m3 := met_pop ⟨g, 0, none⟩
 have m4 := nil_pop ⟨g, 0, none⟩
 have hk3 := hk.trans hk2 (fun _ _ h => h)
 have HK3 := Lib.hid hk3
 have he : downL N 0 (swp l 0 N) = popL l := by unfold popL; rw [HL.out, Nat.add_sub_cancel]
 rw [he] at hT2
 have hlast : gd (popL l) N = gd l 0 := by
  have := popL_last (l := l) (by rw [HL.out]; omega)
  rwa [HL.out, Nat.add_sub_cancel] at this
 have HLT := Lib.hid hlast
 clear hk hk2 hk3 hT he hlast
 go_wp2_with fail
 refine (trPop B g r N cap _ _ hT2).mono ?_
 rintro e w7 ⟨rfl, hT3, hk4⟩
 rw [HLT.out]
 go_wp2
 go_ret
 exact ⟨rfl, hT3, (kept_two2 HK3.out).trans (kept_two1 hk4) (fun _ _ h => h)⟩
def insL (p : N2) : List N2 → List N2
 | [] => [p]
 | q :: l => if kf p ≤ kf q then p :: q :: l else q :: insL p l
theorem insL_length (p : N2) : ∀ l, (insL p l).length = l.length + 1
 | [] => rfl
 | q :: l => by unfold insL; split <;> simp [insL_length p l]
theorem insL_perm (p : N2) : ∀ l, (insL p l).Perm (p :: l)
 | [] => List.Perm.refl _
 | q :: l => by
  unfold insL
  split
  ·exact List.Perm.refl _
  ·exact ((insL_perm p l).cons q).trans (List.Perm.swap p q l)
def SrtL : List N2 → Prop
 | [] => True
 | p :: l => (∀ q ∈ l, kf p ≤ kf q) ∧ SrtL l
theorem insL_srt (p : N2) : ∀ l, SrtL l → SrtL (insL p l)
 | [], _ => ⟨by simp, trivial⟩
 | q :: l, h => by
  unfold insL
  split
  ·next hle => exact ⟨fun x hx => by
    rcases List.mem_cons.1 hx with rfl | hx
    ·exact hle
    ·exact Nat.le_trans hle (h.1 x hx), h⟩
  ·next hle => exact ⟨fun x hx => by
    rcases List.mem_cons.1 ((insL_perm p l).mem_iff.1 hx) with rfl | hx
    ·omega
    ·exact h.1 x hx, insL_srt p l h.2⟩
def sortL (l : List N2) : List N2 := l.foldr insL []
theorem sortL_perm : ∀ l, (sortL l).Perm l
 | [] => List.Perm.refl _
 | p :: l => (insL_perm p _).trans ((sortL_perm l).cons p)
theorem sortL_srt : ∀ l, SrtL (sortL l)
 | [] => trivial
 | p :: l => insL_srt p _ (sortL_srt l)
theorem kf_inj {p q : N2} (hp : p.2 < 1024) (hq : q.2 < 1024) (h : kf p = kf q) : p = q := by
 obtain ⟨a, b⟩ := p
 obtain ⟨c, d⟩ := q
 simp only [kf] at *
 have : a = c := by omega
 have : b = d := by omega
 simp_all
theorem pop_head {l rest : List N2} {x a : N2} {s : List N2} (hx : (x :: rest).Perm l) (hl : l.Perm (a :: s)) (hs : SrtL (a :: s)) (hm : ∀ y ∈ l, kf x ≤ kf y) (hn : ∀ y ∈ l, y.2 < 1024) : x = a ∧ rest.Perm s := by
 have hxl : x ∈ l := hx.mem_iff.1 (by simp)
 have hal : a ∈ l := hl.mem_iff.2 (by simp)
 have h1 := hm a hal
 have h2 : kf a ≤ kf x := by
  rcases List.mem_cons.1 (hl.mem_iff.1 hxl) with h | h
  ·rw [h]; exact Nat.le_refl _
  ·exact hs.1 x h
 have := kf_inj (hn x hxl) (hn a hal) (by omega)
 subst this
 exact ⟨rfl, List.Perm.cons_inv (hx.trans hl)⟩
def sumW (a b : Nat) : Nat := if a + b < 18446744073709551616 then a + b else 18446744073709551615
theorem sumW_lt (a b : Nat) : sumW a b < 18446744073709551616 := by unfold sumW; split <;> omega
def ps2 (ps : List Nat) (a b : N2) : List Nat := ((ps.set a.2 ps.length).set b.2 ps.length) ++ [0]
theorem ps2_length (ps : List Nat) (a b : N2) : (ps2 ps a b).length = ps.length + 1 := by simp [ps2]
def mrgP (s : List N2) (ps : List Nat) : List Nat :=
 match s with
 | a :: b :: r => mrgP (insL (sumW a.1 b.1, ps.length) r) (ps2 ps a b)
 | _ => ps
termination_by s.length
decreasing_by simp [insL_length]
theorem mrgP_step (a b : N2) (r : List N2) (ps : List Nat) : mrgP (a :: b :: r) ps = mrgP (insL (sumW a.1 b.1, ps.length) r) (ps2 ps a b) := by
 conv => lhs; unfold mrgP
theorem mrgP_end (s : List N2) (ps : List Nat) (h : s.length ≤ 1) : mrgP s ps = ps := by
 unfold mrgP
 match s, h with
 | [], _ => rfl
 | [a], _ => rfl
theorem mrgP_length : ∀ (n : Nat) (s : List N2) (ps : List Nat), s.length = n → (mrgP s ps).length = ps.length + (n - 1)
 | 0, s, ps, h => by rw [mrgP_end _ _ (by omega)]; rfl
 | 1, s, ps, h => by rw [mrgP_end _ _ (by omega)]; rfl
 | n + 2, s, ps, h => by
  match s, h with
  | a :: b :: r, h =>
   rw [mrgP_step, mrgP_length (n + 1) _ _ (by rw [insL_length]; simp at h; omega), ps2_length]
   omega
theorem huffSum (a b : Nat) (w : World) (ha : a < 18446744073709551616) (hb : b < 18446744073709551616) :
  Calls Try.prog 48 #[.int .u64 a, .int .u64 b] w fun e w' => e = .returned (.int .u64 (sumW a b)) ∧ w = w' := by
 by_cases h : a + b < 18446744073709551616
 ·have e : IntKind.u64.wrap ((a : Int) + (b : Int)) = ((a + b : Nat) : Int) := by rw [IntKind.wrap_u64]; omega
  have e2 : sumW a b = a + b := by unfold sumW; rw [if_pos h]
  have x1 : decide (((a + b : Nat) : Int) < (a : Int)) = false := by simp; omega
  obtain ⟨S, hS⟩ : ∃ S, S = a + b := ⟨_, rfl⟩
  rw [e2, ← hS]
  rw [← hS] at e x1
  have x2 : decide (S < a) = false := by simp; omega
  clear hS e2 h
  go_enter Try.func48, Try.ntmps48
  go_wp2
  go_ret
  exact ⟨rfl, rfl⟩
 ·obtain ⟨S, hS⟩ : ∃ S, S = a + b - 18446744073709551616 := ⟨_, rfl⟩
  have e : IntKind.u64.wrap ((a : Int) + (b : Int)) = (S : Int) := by rw [IntKind.wrap_u64]; omega
  have e2 : sumW a b = 18446744073709551615 := by unfold sumW; rw [if_neg h]
  have x1 : decide ((S : Int) < (a : Int)) = true := by simp; omega
  have x2 : decide (S < a) = true := by simp; omega
  rw [e2]
  clear hS e2 h
  go_enter Try.func48, Try.ntmps48
  go_wp2
  go_ret
  exact ⟨rfl, rfl⟩
theorem TrAt.kept {S : Nat → Prop} {w w' : World} {B g r N cap : Nat} {l : List N2} (h : TrAt w B g r N cap l) (k : Kept S w w') (hg : ¬ S g) (hr : ¬ S r) : TrAt w' B g r N cap l :=
 ⟨h.1.kept k hg, owns_kept h.2.1 k (fun q cur hq _ hs => by
  have hq' : some r = some q := hq
  rw [← Option.some.inj hq'] at hs
  exact hr hs), h.2.2⟩
theorem TrAt.row {w : World} {B g r N cap : Nat} {l : List N2} (h : TrAt w B g r N cap l) : ∃ cur, Lies w r 85 cur := by
 rcases owns_row h.2.1 with ⟨h1, _⟩ | ⟨r', _, cur, h1, _, h2, _⟩
 ·cases h1
 ·simp only [trS, Value.slice.injEq, Option.some.injEq, Addr.mk.injEq] at h1
  obtain ⟨⟨rfl, _⟩, _⟩ := h1
  exact ⟨cur, h2⟩
theorem zeroNd : ∀ w : World, (zeroValue 85).run Try.prog w = .ok (.agg #[.int .u64 0, .int .i64 0]) w := fun w => by kernel_rfl
set_option maxHeartbeats 1000000 in
set_option maxRecDepth 100000 in
theorem huffLightest (B g r N cap : Nat) (l : List N2) (w : World) (h : TrAt w B g r (N + 1) cap l) :
  Calls Try.prog 46 #[hpI g] w fun e w' => e = .returned (nodeV (gd l 0)) ∧ TrAt w' B g r N cap ((popL l).take N) ∧ Kept (twoRows g r) w w' := by
 have hta : ∀ (v : Value) (w : World), (Instr.typeAssert (.iface 85 v) 20 85 true).run Try.prog w = .ok (.tuple #[v, .bool true]) w := fun v w => by kernel_rfl
 have ha : TrAt (w.alloc (.cells #[.int .u64 0, .int .i64 0] 85)) B g r (N + 1) cap l := ⟨h.1.alloc _, h.2.1.alloc _, h.2.2⟩
 have HP := Lib.hid (heapPop B g r N cap l _ ha)
 have hne : ∀ k, twoRows g r k → k < w.heap.size := by
  have h1 := h.1.lt
  obtain ⟨cur, hl⟩ : ∃ cur, Lies w r 85 cur := by
   rcases owns_row h.2.1 with ⟨h1, _⟩ | ⟨r', _, cur, h1, _, h2, _⟩
   ·cases h1
   ·simp only [trS, Value.slice.injEq, Option.some.injEq, Addr.mk.injEq] at h1
    obtain ⟨⟨rfl, _⟩, _⟩ := h1
    exact ⟨cur, h2⟩
  have h2 := hl.lt
  intro k hk
  rcases hk with rfl | rfl
  ·exact h1
  ·exact h2
 have lr := Lies.made w 85 #[.int .u64 0, .int .i64 0]
 have LR := Lib.hid lr
 have ka := Lib.hid (Kept.alloc (twoRows g r) w (.cells #[.int .u64 0, .int .i64 0] 85))
 have HNE := Lib.hid hne
 obtain ⟨P, hP⟩ : ∃ P, P = gd l 0 := ⟨_, rfl⟩
 rw [← hP] at HP ⊢
 obtain ⟨a, b⟩ := P
 have hz := zeroNd
 clear lr hne ha h hP
 unfold ndI nodeV at HP
 unfold nodeV
 simp only at HP ⊢
 go_enter Try.func46, Try.ntmps46
 go_wp2_with fail
 refine HP.out.mono ?_
 rintro e w4 ⟨rfl, hT, hk⟩
 have hlt : w.heap.size < w4.heap.size := Nat.lt_of_lt_of_le (by simp) hk.size
 have l4 := LR.out.kept hk (fun h => by have := HNE.out _ h; omega)
 have HT := Lib.hid hT
 have HK := Lib.hid (ka.out.trans hk (fun _ _ h => h))
 have c0 := (l4.cell 0).trans (show _ = some (Value.int .u64 0) from rfl)
 have c1 := (l4.cell 1).trans (show _ = some (Value.int .i64 0) from rfl)
 have f0 := l4.free 0
 have f1 := l4.free 1
 have L4 := Lib.hid l4
 clear hT hk l4 LR ka HP hz
 have lE := ((L4.out.put 0 (.int .u64 (a : Int))).put 1 (.int .i64 (b : Int))).alloc (.cells #[.int .u64 (a : Int), .int .i64 (b : Int)] 85)
 have kE := (((Kept.put w4 w.heap.size 0 (.int .u64 (a : Int))).trans (Kept.put _ w.heap.size 1 (.int .i64 (b : Int))) (fun _ _ h => h)).trans (Kept.alloc (oneRow w.heap.size) _ (.cells #[.int .u64 (a : Int), .int .i64 (b : Int)] 85)) (fun _ _ h => h))
 have tE := HT.out.kept kE (fun e => by have h1 : g = w.heap.size := e; have := HNE.out g (.inl rfl); omega) (fun e => by have h1 : r = w.heap.size := e; have := HNE.out r (.inr rfl); omega)
 have q0 := (lE.cell 0).trans (show _ = some (Value.int .u64 (a : Int)) from rfl)
 have q1 := (lE.cell 1).trans (show _ = some (Value.int .i64 (b : Int)) from rfl)
 have Q0 := Lib.hid q0
 have Q1 := Lib.hid q1
 have TE := Lib.hid tE
 have KE := Lib.hid (HK.out.trans kE (fun i hi hs => by have h1 : i = w.heap.size := hs; omega))
 clear lE kE tE q0 q1
 go_wp2
 have q0 := Q0.out
 have q1 := Q1.out
 refine bodyPost_ret (v := .agg #[.int .u64 (a : Int), .int .i64 (b : Int)]) (by simp [results, Try.results46, go_sem, q0, q1]) rfl ⟨rfl, TE.out, KE.out⟩
theorem run_copy_rowS {P : Program} (w : World) (dT sT ty elem : TypeId) (g n dCap : Nat) (a : Addr) (sCap sz : Nat) (cur : Array Value) (t : TypeId) (cs : List Value)
  (hu : P.underlying dT = some (.slice elem)) (hs : (P.info? elem).map (·.size) = some sz) (hg : w.heap[g]? = some (.cells cur t (0, 0))) (hn : cs.length = n * sz)
  (hsrc : ∀ j v, cs[j]? = some v → w.cell? (a.add j) = some v) (hfit : cs.length ≤ cur.size) (h1 : ∀ v ∈ cs, v.oneCell' = true) :
  (Builtin.copy_ #[dT, sT] ty #[.slice (some ⟨g, 0, none⟩) n dCap, .slice (some a) n sCap]).run P w = .ok (goInt n) (w.setRow g (cs ++ cur.toList.drop cs.length).toArray) := by
 have hl := run_loadCells_list (P := P) w a cs hsrc
 have hst := run_storeCells_at P g 0 t cs 0 cur w hg (by simpa using hfit) h1
 simp only [Nat.zero_add, List.take_zero, List.nil_append] at hst
 rw [hn] at hl
 cases hq : P.info? elem with
 | none => simp [hq] at hs
 | some i =>
  have hi : i.size = sz := by simpa [hq] using hs
  simp [Builtin.copy_, run_underlying hu, Builtin.lenOf, Builtin.firstCells, sizeOf, typeInfo, hq, hi, hl, hst]
theorem run_copy_nilS {P : Program} (w : World) (dT sT ty elem : TypeId) (g dCap sz : Nat) (hu : P.underlying dT = some (.slice elem)) (hs : (P.info? elem).map (·.size) = some sz) :
  (Builtin.copy_ #[dT, sT] ty #[.slice (some ⟨g, 0, none⟩) 0 dCap, .slice none 0 0]).run P w = .ok (goInt 0) w :=
 run_copy_nil P w dT sT ty elem _ 0 dCap hu (by cases hq : P.info? elem <;> simp [hq] at hs ⊢)
theorem wpList_copy_rowS {P : Program} {w : World} {ops : Array Oper} {rest : List Oper} {o : Oper} {a : Act} {Q : Exit → Act → World → Prop} (hgd : o.guard = none) (d s : Operand) (dT sT : TypeId)
  (ho : o.op = .call { callee := .builtin .copy, args := #[d, s], argTypes := #[dT, sT] }) (elem : TypeId) (sz : Nat) (hu : P.underlying dT = some (.slice elem)) (hsz : (P.info? elem).map (·.size) = some sz)
  (B g n cap : Nat) (zs xs : List Value) (A : Option Addr) (c : Nat) (hd : a.eval d = .slice (some ⟨g, 0, none⟩) n cap) (hs : a.eval s = .slice A n c)
  (hown : w.ownsRow B elem sz (.slice (some ⟨g, 0, none⟩) n cap) n zs) (hsrc : SeqS w sz (.slice A n c) n xs) (h1 : ∀ v ∈ xs, v.oneCell' = true)
  (h : ∀ w', w'.ownsRow B elem sz (.slice (some ⟨g, 0, none⟩) n cap) n xs → Kept (oneRow g) w w' → wpList P ops Q rest (a.put o.dst (goInt n)) w') :
  wpList P ops Q (o :: rest) a w := by
 refine wpList_plain hgd fun K hK => ?_
 obtain ⟨hl, A', c', e1, hlc, hcm, h0, hcell⟩ := hsrc
 simp only [Value.slice.injEq, true_and] at e1
 obtain ⟨rfl, rfl⟩ := e1
 obtain ⟨ho1, ho2⟩ := hown
 rcases ho2 with ⟨hv, _⟩ | ⟨g', cap', cur, hv, hB, hh, hc1, hc2, hc3, hc4⟩
 ·cases hv
 simp only [Value.slice.injEq, Option.some.injEq, Addr.mk.injEq, and_true, true_and] at hv
 obtain ⟨rfl, rfl⟩ := hv
 have hfit : xs.length ≤ cur.size := by rw [hl, hc3]; exact Nat.mul_le_mul_right _ hc1
 have hrun : ∃ w', (Builtin.copy_ #[dT, sT] o.type #[.slice (some ⟨g, 0, none⟩) n cap, .slice A n c]).run P w = .ok (goInt n) w' ∧ w'.ownsRow B elem sz (.slice (some ⟨g, 0, none⟩) n cap) n xs ∧ Kept (oneRow g) w w' := by
  cases A with
  | none =>
   obtain rfl : c = 0 := h0 rfl
   obtain rfl : n = 0 := by omega
   refine ⟨w, run_copy_nilS w dT sT o.type elem g cap sz hu hsz, ⟨hl, .inr ⟨g, cap, cur, rfl, hB, hh, hc1, hc2, hc3, ?_⟩⟩, Kept.refl _ _⟩
   have : xs = [] := List.length_eq_zero_iff.1 (by simpa using hl)
   rw [this]; simp
  | some ad =>
   refine ⟨_, run_copy_rowS w dT sT o.type elem g n cap ad c sz cur elem xs hu hsz hh hl ?_ hfit h1, ⟨hl, .inr ⟨g, cap, _, rfl, hB, setRow_heap w g cur _ elem _ hh, hc1, hc2, ?_, ?_⟩⟩, ⟨rfl, rfl, rfl, by simp [World.setRow], fun k hk hn => setRow_other w g k _ (fun e => hn e)⟩⟩
   ·intro j v hj
    obtain ⟨b, off, he, hc⟩ := hcell j v hj
    injection he with he
    subst he
    rw [addr_plus]; exact hc
   ·simp; omega
   ·rw [List.toList_toArray, ← hl, List.take_append_of_le_length (Nat.le_refl _), List.take_of_length_le (Nat.le_refl _)]
 obtain ⟨w', hr, ho', hk'⟩ := hrun
 unfold Oper.wp
 simp [execOp, ho, resolve, invoke, builtin, hd, hs, hr, Result.andThen]
 exact hK _ _ (h w' ho' hk')
theorem Try.infoInt : (Try.prog.info? 3).map (fun i => (i.zero, i.size, i.bytes)) = some (some (.int .i64 0), 1, 8) := by kernel_rfl
theorem infoNodeS : (Try.prog.info? 85).map (·.size) = some 2 := by kernel_rfl
theorem own_two {w w' : World} {B g r N cap B' n sz : Nat} {e : TypeId} {l : List N2} {v : Value} {xs : List Value} (h : w.ownsRow B' e sz v n xs) (hT : TrAt w B g r N cap l) (k : Kept (twoRows g r) w w') (h1 : e ≠ 48) (h2 : e ≠ 85) : w'.ownsRow B' e sz v n xs :=
 owns_kept h k (fun q cur hq hl hs => by
  rcases hs with rfl | rfl
  ·exact h1 (hl.same hT.1).1
  ·obtain ⟨c2, hc2⟩ := hT.row
   exact h2 (hl.same hc2).1)
theorem owns_base {w : World} {B B' : Nat} {e : TypeId} {sz n : Nat} {v : Value} {xs : List Value} (h : w.ownsRow B e sz v n xs) (hb : B' ≤ B) : w.ownsRow B' e sz v n xs := by
 refine ⟨h.1, ?_⟩
 rcases h.2 with h2 | ⟨r, cap, cur, rfl, hB, rest⟩
 ·exact .inl h2
 ·exact .inr ⟨r, cap, cur, rfl, Nat.le_trans hb hB, rest⟩
theorem cellsN_one (l : List N2) : ∀ u ∈ cellsN l, u.oneCell' = true := fun u hu => by
 obtain ⟨p, _, hp⟩ := rowsOf_mem hu
 simp [nodeC] at hp
 rcases hp with rfl | rfl <;> rfl
theorem cI_zero (n : Nat) : cI (List.replicate n 0) = List.replicate n (Value.int .i64 0) := by simp [cI]
def leftAt (w : World) (B g r N cap : Nat) (hl s : List N2) (ps : List Nat) (v : Value) (n0 : Nat) : Prop :=
 TrAt w B g r N cap hl ∧ w.ownsRow B 3 1 v ps.length (cI ps) ∧ hl.Perm s ∧ HeapF hl N 0 ∧ SrtL s ∧ (∀ p ∈ s, p.2 < ps.length) ∧ ps.length + N = 2 * n0 ∧ B ≤ g ∧ B ≤ r
theorem leftAt.len {w : World} {B g r N cap n0 : Nat} {hl s : List N2} {ps : List Nat} {v : Value} (h : leftAt w B g r N cap hl s ps v n0) : s.length = N := by
 rw [← h.1.len]; exact h.2.2.1.length_eq.symm
def lenOfV : Value → Nat
 | .slice _ n _ => n
 | _ => 0
theorem two_least {hl s : List N2} {N : Nat} (h1 : hl.length = N + 2) (h2 : hl.Perm s) (h3 : HeapF hl (N + 2) 0) (h4 : SrtL s) (h5 : NdOk hl) :
  ∃ a b s', s = a :: b :: s' ∧ gd hl 0 = a ∧ gd ((popL hl).take (N + 1)) 0 = b ∧ ((popL ((popL hl).take (N + 1))).take N).Perm s' ∧ HeapF ((popL ((popL hl).take (N + 1))).take N) N 0 ∧ SrtL s' ∧ a ∈ hl ∧ b ∈ hl := by
 have hsl : s.length = N + 2 := by rw [← h2.length_eq, h1]
 match s, hsl with
 | a :: b :: s', hsl =>
  have p1 := popL_perm (l := hl) (by omega)
  rw [h1, show N + 2 - 1 = N + 1 by omega] at p1
  have hF := popL_heap (l := hl) (by rw [h1]; exact h3)
  rw [h1, show N + 2 - 1 = N + 1 by omega] at hF
  have m1 : ∀ y ∈ hl, kf (gd hl 0) ≤ kf y := fun y hy => by
   obtain ⟨k, hk, he⟩ := List.getElem_of_mem hy
   have := heap_min h3 k (by omega)
   have e : gd hl k = y := by
    have := gd_get hk
    rw [List.getElem?_eq_getElem hk, he] at this
    exact (Option.some.inj this).symm
   unfold K2 at this
   rwa [e] at this
  obtain ⟨e1, q1⟩ := pop_head p1 h2 h4 m1 (fun y hy => (h5 y hy).2)
  have l1 : ((popL hl).take (N + 1)).length = N + 1 := by rw [List.length_take, popL_length]; omega
  have ok1 : NdOk ((popL hl).take (N + 1)) := fun y hy => h5 y (p1.mem_iff.1 (List.mem_cons_of_mem _ hy))
  generalize (popL hl).take (N + 1) = h2l at *
  have p2 := popL_perm (l := h2l) (by omega)
  rw [l1, show N + 1 - 1 = N by omega] at p2
  have hF2 := popL_heap (l := h2l) (by rw [l1]; exact hF)
  rw [l1, show N + 1 - 1 = N by omega] at hF2
  have m2 : ∀ y ∈ h2l, kf (gd h2l 0) ≤ kf y := fun y hy => by
   obtain ⟨k, hk, he⟩ := List.getElem_of_mem hy
   have := heap_min hF k (by omega)
   have e : gd h2l k = y := by
    have := gd_get hk
    rw [List.getElem?_eq_getElem hk, he] at this
    exact (Option.some.inj this).symm
   unfold K2 at this
   rwa [e] at this
  obtain ⟨e2, q2⟩ := pop_head p2 q1 h4.2 m2 (fun y hy => (ok1 y hy).2)
  exact ⟨a, b, s', rfl, e1, e2, q2, hF2, h4.2.2, h2.mem_iff.2 (by simp), h2.mem_iff.2 (by simp)⟩
set_option maxHeartbeats 2000000 in
set_option maxRecDepth 100000 in
theorem huffMerge (v : Value) (n : Nat) (l : List N2) (w : World) (h : SeqS w 2 v n (cellsN l)) (hok : NdOk l) (hn : n ≤ 256) (hnum : ∀ p ∈ l, p.2 < n) :
  Calls Try.prog 24 #[v] w fun e w' => ∃ v', e = .returned v' ∧ w'.ownsRow w.heap.size 3 1 v' (mrgP (sortL l) (List.replicate n 0)).length (cI (mrgP (sortL l) (List.replicate n 0))) ∧ Below w.heap.size w w' := by
 have hln : l.length = n := h.len_ nodeC_len (by decide)
 obtain ⟨A, cp, rfl, hc1, hc2, _⟩ := h.form
 have hmk1 := fun w => run_make_row' (P := Try.prog) 50 3 (.int .i64 0) 8 Try.underlying50 Try.infoInt rfl .i64 .i64 n (by omega) (by omega) w
 have hmk2 := fun w => run_make_rowS (P := Try.prog) 48 85 (.agg #[.int .u64 0, .int .i64 0]) 2 16 Try.underlying48 infoNode .i64 .i64 n (by omega) (by omega) w
 have ho1 := owned_made w 3 (.int .i64 0) rfl n (by unfold maxLen; omega)
 have hb1 := (Below.refl w.heap.size w).alloc (Nat.le_refl _) (.cells (madeCells #[Value.int .i64 0] n) 3)
 have hs1 : (w.alloc (.cells (madeCells #[Value.int .i64 0] n) 3)).heap.size = w.heap.size + 1 := by simp
 have hq1 := h.later hb1
 have HN := Lib.hid hln
 have H := Lib.hid h
 have HO1 := Lib.hid ho1
 have HB1 := Lib.hid hb1
 have HQ1 := Lib.hid hq1
 unfold maxLen at hc2
 clear h ho1 hb1 hq1 hln
 have hm1 := hmk1 w
 have hm2 := hmk2 (w.alloc (.cells (madeCells #[Value.int .i64 0] n) 3))
 have hos := owned_rows nodeC_len (by decide) (w.alloc (.cells (madeCells #[Value.int .i64 0] n) 3)) 85 ((0, 0) : N2) #[Value.int .u64 0, Value.int .i64 0] rfl n (by unfold maxLen; omega)
 rw [hs1] at hm2 hos
 have hos2 := owns_base (hos.alloc (.cells #[trS (w.heap.size + 1) n n] 48)) (Nat.le_succ w.heap.size)
 have hlb := Lies.made ((w.alloc (.cells (madeCells #[Value.int .i64 0] n) 3)).alloc (.cells (madeCells #[Value.int .u64 0, Value.int .i64 0] (n * 2)) 85)) 48 #[trS (w.heap.size + 1) n n]
 have hs2 : ((w.alloc (.cells (madeCells #[Value.int .i64 0] n) 3)).alloc (.cells (madeCells #[Value.int .u64 0, Value.int .i64 0] (n * 2)) 85)).heap.size = w.heap.size + 1 + 1 := by simp
 rw [hs2] at hlb
 have hop := (HO1.out.alloc (.cells (madeCells #[Value.int .u64 0, Value.int .i64 0] (n * 2)) 85)).alloc (.cells #[trS (w.heap.size + 1) n n] 48)
 have hb3 := (HB1.out.alloc (by simp) (.cells (madeCells #[Value.int .u64 0, Value.int .i64 0] (n * 2)) 85)).alloc (by simp; omega) (.cells #[trS (w.heap.size + 1) n n] 48)
 have hq3 := H.out.later hb3
 have hsz3 : (((w.alloc (.cells (madeCells #[Value.int .i64 0] n) 3)).alloc (.cells (madeCells #[Value.int .u64 0, Value.int .i64 0] (n * 2)) 85)).alloc (.cells #[trS (w.heap.size + 1) n n] 48)).heap.size = w.heap.size + 3 := by simp
 have HOS := Lib.hid hos2
 have HLB := Lib.hid hlb
 have HOP := Lib.hid hop
 have HB3 := Lib.hid hb3
 have HQ3 := Lib.hid hq3
 have HZ3 := Lib.hid hsz3
 have HCN := Lib.hid (cellsN_one l)
 clear hos hos2 hlb hs2 hop hb3 hq3 hs1 HO1 HB1 HQ1 hmk1 hmk2 hsz3
 unfold trS at HOS HLB HOP HB3 HQ3 HZ3
 go_enter Try.func24, Try.ntmps24
 go_wp2_with (refine wpList_copy_rowS rfl (.tmp 15) (.tmp 16) 48 48 rfl 85 2 Try.underlying48 infoNodeS w.heap.size (w.heap.size + 1) n n _ (cellsN l) A cp rfl rfl HOS.out HQ3.out HCN.out ?_)
 intro w4 ho4 hk4
 have hT4 : TrAt w4 w.heap.size (w.heap.size + 1 + 1) (w.heap.size + 1) n n l := ⟨HLB.out.kept hk4 (fun e => by have h1 : w.heap.size + 1 + 1 = w.heap.size + 1 := e; omega), ho4, hok, by omega⟩
 have hp4 := owns_kept HOP.out hk4 (fun q cur hq _ hs => by
  have h1 : some w.heap.size = some q := hq
  have h2 : q = w.heap.size + 1 := hs
  have := Option.some.inj h1
  omega)
 have hb4 := HB3.out.trans (hk4.below (B := w.heap.size) (by rw [HZ3.out]; omega) (fun k hk e => by have h1 : k = w.heap.size + 1 := e; omega))
 have hz4 : w.heap.size + 3 ≤ w4.heap.size := by have := hk4.size; rw [HZ3.out] at this; exact this
 have HT4 := Lib.hid hT4
 have HP4 := Lib.hid hp4
 have HB4 := Lib.hid hb4
 clear hT4 hp4 hb4 ho4 hk4 HOS HLB HOP HB3 HQ3 HZ3 HCN hm1 hm2
 go_wp2_with fail
 refine (heapInit w.heap.size (w.heap.size + 1 + 1) (w.heap.size + 1) n n l w4 HT4.out).mono ?_
 rintro e w5 ⟨rfl, hT5, hk5⟩
 have hp5 := owns_kept HP4.out hk5 (fun q cur hq _ hs => by
  have h1 : some w.heap.size = some q := hq
  have h2 : q = w.heap.size + 1 := hs
  have := Option.some.inj h1
  omega)
 have hb5 := HB4.out.trans (hk5.below (B := w.heap.size) (by omega) (fun k hk e => by have h1 : k = w.heap.size + 1 := e; omega))
 have hla : leftAt w5 w.heap.size (w.heap.size + 1 + 1) (w.heap.size + 1) n n (initL (n / 2) l) (sortL l) (List.replicate n 0) (.slice (some ⟨w.heap.size, 0, none⟩) n n) n := by
  refine ⟨hT5, ?_, (initL_perm _ _).trans (sortL_perm l).symm, ?_, sortL_srt l, fun p hp => ?_, by simp; omega, by omega, by omega⟩
  ·rw [List.length_replicate, cI_zero]; exact hp5
  ·have := init_heap l; rw [HN.out] at this; exact this
  ·rw [List.length_replicate]; exact hnum p ((sortL_perm l).mem_iff.1 hp)
 have HLA := Lib.hid hla
 have HB5 := Lib.hid hb5
 have hz5 : w.heap.size ≤ w5.heap.size := by have := hk5.size; omega
 clear hT5 hk5 hp5 hb5 hla HT4 HP4 HB4
 go_wp2_with fail
 obtain ⟨g, hg⟩ : ∃ g, g = w.heap.size + 1 + 1 := ⟨_, rfl⟩
 rw [← hg] at HLA
 rw [← hg]
 have hgB : w.heap.size ≤ g := by omega
 generalize hR : mrgP (sortL l) (List.replicate n 0) = R at *
 have HM0 : Hid (R = mrgP (sortL l) (List.replicate n 0)) := hR.symm
 have HM00 := Lib.hid HM0.out
 clear hR hg H HN hnum hok hz4
 have hze := zeroNd
 go_loopw [3] (fun t wr => ∃ (s : List N2) (ps : List Nat) (r cap : Nat) (hl : List N2) (N : Nat), leftAt wr w.heap.size g r N cap hl s ps t n ∧ Hid (R = mrgP s ps) ∧ Below w.heap.size w wr)
  (fun t _ => 600 - lenOfV t)
 case atStart => exact ⟨_, _, _, _, _, _, HLA.out, HM0, HB5.out⟩
 case round =>
  clear HLA HM0 HB5 hz5
  obtain ⟨s, ps, r, cap, hl, N, hL, hM, hb⟩ := hrel
  have hbs := hb.size
  obtain ⟨A2, cp2, rfl, hq1, hq2, _⟩ := (SeqS.of_owns hL.2.1).form
  unfold maxLen at hq2
  have m3 := met_len ⟨g, 0, none⟩ _ _ hL.1.cell
  have m4 := nil_len ⟨g, 0, none⟩
  have hsum := hL.2.2.2.2.2.2.1
  by_cases hc : 1 < N
  ·obtain ⟨N0, hN0⟩ : ∃ N0, N = N0 + 2 := ⟨N - 2, by omega⟩
   have HL := Lib.hid hL
   subst hN0
   obtain ⟨a, b, s', rfl, ea, eb, hp', hF', hs', haM, hbM⟩ := two_least HL.out.1.len HL.out.2.2.1 HL.out.2.2.2.1 HL.out.2.2.2.2.1 HL.out.1.2.2.1
   have C1 := fun wx hx => huffLightest w.heap.size g r (N0 + 1) cap hl wx hx
   have C2 := fun wx hx => huffLightest w.heap.size g r N0 cap ((popL hl).take (N0 + 1)) wx hx
   rw [ea] at C1
   rw [eb] at C2
   have haL := HL.out.1.2.2.1 a haM
   have hbL := HL.out.1.2.2.1 b hbM
   have haP := HL.out.2.2.2.2.2.1 a (by simp)
   have hbP := HL.out.2.2.2.2.2.1 b (by simp)
   obtain ⟨a1, a2⟩ := a
   obtain ⟨b1, b2⟩ := b
   simp only at haL hbL haP hbP
   unfold nodeV at C1 C2
   simp only at C1 C2
   have hM2 := hM.out
   rw [mrgP_step] at hM2
   simp only at hM2
   have HM2 := Lib.hid hM2
   have HP' := Lib.hid hp'
   have HF' := Lib.hid hF'
   have HS' := Lib.hid hs'
   have HC1 := Lib.hid C1
   have HC2 := Lib.hid C2
   have x1 : decide ((1 : Int) < (N0 : Int) + 2) = true := by simp; omega
   have HB := Lib.hid hb
   clear hM2 hM hp' hF' hs' C1 C2 hL haM hbM ea eb hb hc
   obtain ⟨PL, hPL⟩ : ∃ PL, PL = ps.length := ⟨_, rfl⟩
   have HPL := Lib.hid hPL
   rw [← hPL] at haP hbP hsum hq1 ⊢
   clear hPL
   go_wp2_with fail
   refine (lenC _ r (N0 + 2) cap).mono ?_
   rintro e w6 ⟨rfl, rfl⟩
   clear m3 m4
   go_wp2_with fail
   refine (HC1.out _ HL.out.1).mono ?_
   rintro e w6 ⟨rfl, hT6, hk6⟩
   have hp6 := own_two HL.out.2.1 HL.out.1 hk6 (by decide) (by decide)
   have hb6 := HB.out.trans (hk6.below (B := w.heap.size) hbs (fun k hk e => by
    have h1 := HL.out.2.2.2.2.2.2.2
    rcases e with e | e <;> omega))
   have HP6 := Lib.hid hp6
   have HB6 := Lib.hid hb6
   have hbs6 : w.heap.size ≤ w6.heap.size := by have := hk6.size; omega
   clear hp6 hb6 hk6
   go_wp2_with fail
   refine (HC2.out _ hT6).mono ?_
   rintro e w7 ⟨rfl, hT7, hk7⟩
   have hp7 := own_two HP6.out hT6 hk7 (by decide) (by decide)
   have hb7 := HB6.out.trans (hk7.below (B := w.heap.size) hbs6 (fun k hk e => by
    have h1 := HL.out.2.2.2.2.2.2.2
    rcases e with e | e <;> omega))
   have HP7 := Lib.hid hp7
   have HB7 := Lib.hid hb7
   have hbs7 : w.heap.size ≤ w7.heap.size := by have := hk7.size; omega
   clear hp7 hb7 hk7 HP6 HB6 hT6 HC1 HC2
   go_wp2_with fail
   obtain ⟨p, cp3, hv3, hBp, hpl, _, _⟩ := owns_openS HP7.out (by have := HPL.out; omega)
   have hv4 : A2 = some ⟨p, 0, none⟩ := by
    simp only [Value.slice.injEq] at hv3
    exact hv3.1
   clear hv3
   subst hv4
   have LA := Lib.hid ((Lies.made w7 85 #[.int .u64 (a1 : Int), .int .i64 (a2 : Int)]).alloc (.cells #[.int .u64 (b1 : Int), .int .i64 (b2 : Int)] 85))
   have lb := Lies.made (w7.alloc (.cells #[.int .u64 (a1 : Int), .int .i64 (a2 : Int)] 85)) 85 #[.int .u64 (b1 : Int), .int .i64 (b2 : Int)]
   rw [show (w7.alloc (.cells #[.int .u64 (a1 : Int), .int .i64 (a2 : Int)] 85)).heap.size = w7.heap.size + 1 by simp] at lb
   have LB := Lib.hid lb
   have HT8 := Lib.hid ((hT7.kept (Kept.alloc noRow w7 (.cells #[.int .u64 (a1 : Int), .int .i64 (a2 : Int)] 85)) (fun h => h) (fun h => h)).kept (Kept.alloc noRow _ (.cells #[.int .u64 (b1 : Int), .int .i64 (b2 : Int)] 85)) (fun h => h) (fun h => h))
   have hp8 := ((HP7.out.alloc (.cells #[.int .u64 (a1 : Int), .int .i64 (a2 : Int)] 85)).alloc (.cells #[.int .u64 (b1 : Int), .int .i64 (b2 : Int)] 85))
   rw [← HPL.out] at hp8
   have HP8 := Lib.hid hp8
   clear hp8
   have HB8 := Lib.hid ((HB7.out.alloc hbs7 (.cells #[.int .u64 (a1 : Int), .int .i64 (a2 : Int)] 85)).alloc (by simp; omega) (.cells #[.int .u64 (b1 : Int), .int .i64 (b2 : Int)] 85))
   have hz8 : ((w7.alloc (.cells #[.int .u64 (a1 : Int), .int .i64 (a2 : Int)] 85)).alloc (.cells #[.int .u64 (b1 : Int), .int .i64 (b2 : Int)] 85)).heap.size = w7.heap.size + 2 := by simp
   have HG := Lib.hid HL.out.2.2.2.2.2.2.2
   have HSP : Hid (∀ q ∈ s', q.2 < PL) := fun q hq => by rw [HPL.out]; exact HL.out.2.2.2.2.2.1 q (List.mem_cons_of_mem _ (List.mem_cons_of_mem _ hq))
   clear lb HP7 HB7 hT7 HL hze
   generalize (w7.alloc (.cells #[.int .u64 (a1 : Int), .int .i64 (a2 : Int)] 85)).alloc (.cells #[.int .u64 (b1 : Int), .int .i64 (b2 : Int)] 85) = w8 at *
   obtain ⟨qa, hqa⟩ : ∃ qa, qa = w7.heap.size := ⟨_, rfl⟩
   rw [← hqa] at hz8 LA LB hbs7 ⊢
   clear hqa hpl
   have HZ8 := Lib.hid hz8
   have hcl : (cI ps).length = PL := by rw [cI_length]; exact HPL.out.symm
   have da0 := (LA.out.cell 0).trans (show _ = some (Value.int .u64 (a1 : Int)) from rfl)
   have da1 := (LA.out.cell 1).trans (show _ = some (Value.int .i64 (a2 : Int)) from rfl)
   have db0 := (LB.out.cell 0).trans (show _ = some (Value.int .u64 (b1 : Int)) from rfl)
   have db1 := (LB.out.cell 1).trans (show _ = some (Value.int .i64 (b2 : Int)) from rfl)
   obtain ⟨va, hva⟩ : ∃ va, (cI ps)[a2]? = some va := ⟨_, List.getElem?_eq_getElem (by omega)⟩
   have ka := owns_cell HP8.out hva
   have fa := owns_free HP8.out (k := a2) (by omega)
   have hs1 := owns_set (u := .int .i64 (PL : Int)) HP8.out (k := a2) (by omega)
   obtain ⟨vb, hvb⟩ : ∃ vb, ((cI ps).set a2 (.int .i64 (PL : Int)))[b2]? = some vb := ⟨_, List.getElem?_eq_getElem (by simp; omega)⟩
   have kb := owns_cell hs1 hvb
   have fb := owns_free hs1 (k := b2) (by omega)
   have hs2 := owns_set (u := .int .i64 (PL : Int)) hs1 (k := b2) (by omega)
   have HS2 := Lib.hid hs2
   have hpb : qa + 1 ≠ p := fun e => own_ne HP8.out LB.out (by decide) (by rw [e]; rfl)
   have hpa : qa ≠ p := fun e => own_ne HP8.out LA.out (by decide) (by rw [e]; rfl)
   have kb1 := ((LB.out.far (p := ⟨p, a2, none⟩) hpb (.int .i64 (PL : Int))).cell 1).trans (show _ = some (Value.int .i64 (b2 : Int)) from rfl)
   have ka1 := ((LA.out.far (p := ⟨p, a2, none⟩) hpa (.int .i64 (PL : Int))).cell 1).trans (show _ = some (Value.int .i64 (a2 : Int)) from rfl)
   have hai : (a2 : Int) < (PL : Int) := by omega
   have hbi : (b2 : Int) < (PL : Int) := by omega
   clear hs1 hs2 hva hvb hcl hz8
   go_region
   have hpg : ¬ oneRow p g := fun e => own_ne HP8.out HT8.out.1 (by decide) (by rw [show g = p from e]; rfl)
   have hpr : ¬ oneRow p r := fun e => by
    obtain ⟨cr, hcr⟩ := HT8.out.row
    exact own_ne HP8.out hcr (by decide) (by rw [show r = p from e]; rfl)
   have k9 := ((Kept.put w8 p a2 (.int .i64 (PL : Int))).trans (Kept.put _ p b2 (.int .i64 (PL : Int))) (fun _ _ h => h)).trans (Kept.drewN (oneRow p) _ 1) (fun _ _ h => h)
   have hT9 := HT8.out.kept k9 hpg hpr
   have LA9 := Lib.hid (LA.out.kept k9 (fun e => hpa e))
   have LB9 := Lib.hid (LB.out.kept k9 (fun e => hpb e))
   have hb9 := HB8.out.trans (k9.below (B := w.heap.size) (by rw [HZ8.out]; omega) (fun k hk e => by have h1 : k = p := e; omega))
   have hz9 := k9.size
   rw [HZ8.out] at hz9
   have hs9 := HS2.out
   have hci : ((cI ps).set a2 (.int .i64 (PL : Int))).set b2 (.int .i64 (PL : Int)) = cI ((ps.set a2 PL).set b2 PL) := by simp [cI, List.map_set]
   rw [hci] at hs9
   change World.ownsRow (((w8.setCell ⟨p, a2, none⟩ (.int .i64 (PL : Int))).setCell ⟨p, b2, none⟩ (.int .i64 (PL : Int))).drewN 1) _ _ _ _ _ _ at hs9
   change Exit.then _ _ _ _ (((w8.setCell ⟨p, a2, none⟩ (.int .i64 (PL : Int))).setCell ⟨p, b2, none⟩ (.int .i64 (PL : Int))).drewN 1)
   have HT9 := Lib.hid hT9
   have HP9 := Lib.hid hs9
   have HB9 := Lib.hid hb9
   clear hT9 hs9 hb9 k9 hci hpg hpr HT8 LA LB HB8 HS2 HP8 ka fa kb fb kb1 ka1 da0 da1 db0 db1 HZ8
   generalize (((w8.setCell ⟨p, a2, none⟩ (.int .i64 (PL : Int))).setCell ⟨p, b2, none⟩ (.int .i64 (PL : Int))).drewN 1) = w9 at *
   have hbs9 : w.heap.size ≤ w9.heap.size := by omega
   go_wp2_with (at_builtin; refine append_one _ (.int .i64 0) rfl (.tmp 40) (.tmp 41) 50 rfl w.heap.size 3 _ _ Try.underlying50 Try.infoInt rfl rfl _ _ _ rfl HP9.out rfl (by unfold maxLen; omega) (by omega) hbs9 ?_)
   intro v' w10 ho10 hb10 hgr
   have k10 := kept_grown hgr
   have hown : ∀ q, (Value.slice (some ⟨p, 0, none⟩) PL cp2).ownBlock = some q → q = p := fun q e => (Option.some.inj (show some p = some q from e)).symm
   have hT10 := HT9.out.kept k10 (fun e => by
    have h1 := hown _ e
    exact own_ne HP9.out HT9.out.1 (by decide) (by rw [h1]; rfl)) (fun e => by
    obtain ⟨cr, hcr⟩ := HT9.out.row
    have h1 := hown _ e
    exact own_ne HP9.out hcr (by decide) (by rw [h1]; rfl))
   have LA10 := LA9.out.kept k10 (fun e => hpa (hown _ e))
   have LB10 := LB9.out.kept k10 (fun e => hpb (hown _ e))
   have hps : cI ((ps.set a2 PL).set b2 PL) ++ [Value.int .i64 0] = cI (ps2 ps (a1, a2) (b1, b2)) := by unfold ps2; simp only; rw [← HPL.out]; simp [cI]
   rw [hps] at ho10
   have hpl2 : (ps2 ps (a1, a2) (b1, b2)).length = PL + 1 := by rw [ps2_length, ← HPL.out]
   rw [← hpl2] at ho10
   have HT10 := Lib.hid hT10
   have HP10 := Lib.hid ho10
   have HB10 := Lib.hid (HB9.out.trans hb10)
   have hz10 : w9.heap.size ≤ w10.heap.size := k10.size
   have da0 := (LA10.cell 0).trans (show _ = some (Value.int .u64 (a1 : Int)) from rfl)
   have db0 := (LB10.cell 0).trans (show _ = some (Value.int .u64 (b1 : Int)) from rfl)
   have HPL2 := Lib.hid hpl2
   clear hT10 ho10 hb10 hgr k10 hown LA10 LB10 hps LA9 LB9 HT9 HP9 HB9 hpl2
   go_wp2_with fail
   refine (huffSum a1 b1 _ haL.1 hbL.1).mono ?_
   rintro e w11 ⟨rfl, rfl⟩
   have hsw := sumW_lt a1 b1
   generalize hsm : sumW a1 b1 = SM at *
   go_wp2_with fail
   refine (heapPush w.heap.size g r N0 cap _ (SM, PL) w10 HT10.out (by omega) ⟨hsw, by show PL < 1024; omega⟩ (by omega)).mono ?_
   rintro e w12 ⟨rfl, ⟨r', cap', hT12, hrr⟩, hk12⟩
   have hp12 := own_two HP10.out HT10.out hk12 (by decide) (by decide)
   have hb12 := HB10.out.trans (hk12.below (B := w.heap.size) (by omega) (fun k hk e => by
    have h1 := HG.out
    rcases e with e | e <;> omega))
   have hl12 : leftAt w12 w.heap.size g r' (N0 + 1) cap' (pushL ((popL ((popL hl).take (N0 + 1))).take N0) (SM, PL)) (insL (SM, PL) s') (ps2 ps (a1, a2) (b1, b2)) v' n := by
    have hln := HT10.out.len
    refine ⟨hT12, hp12, (pushL_perm _ _).trans ((HP'.out.cons _).trans (insL_perm _ _).symm), ?_, insL_srt _ _ HS'.out, fun q hq => ?_, by rw [HPL2.out]; omega, HG.out.1, ?_⟩
    ·have := pushL_heap (l := (popL ((popL hl).take (N0 + 1))).take N0) (SM, PL) (by rw [hln]; exact HF'.out)
     rwa [hT12.len] at this
    ·rw [HPL2.out]
     rcases List.mem_cons.1 ((insL_perm _ _).mem_iff.1 hq) with rfl | hq
     ·show PL < PL + 1; omega
     ·have := HSP.out q hq; omega
    ·have h1 := HG.out
     rcases hrr with h | h <;> omega
   have HL12 := Lib.hid hl12
   have HB12 := Lib.hid hb12
   have HM12 : Hid (R = mrgP (insL (SM, PL) s') (ps2 ps (a1, a2) (b1, b2))) := by show _ = _; rw [HM2.out, ← HPL.out]
   have hlv : lenOfV v' = PL + 1 := by
    obtain ⟨A5, cp5, hv5, _⟩ := (SeqS.of_owns hp12).form
    rw [hv5, HPL2.out]; rfl
   clear hl12 hb12 hp12 hT12 hk12
   go_wp2
   go_roundw
   case rel => exact ⟨_, _, _, _, _, _, HL12.out, HM12, HB12.out⟩
   case measure => simp only [lenOfV] at hlv ⊢; omega
  ·have HL := Lib.hid hL
   have hRm : R = ps := by rw [hM.out]; exact mrgP_end s ps (by rw [HL.out.len]; omega)
   have HR := Lib.hid hRm
   have x1 : decide ((1 : Int) < (N : Int)) = false := by simp; omega
   have x2 : decide (1 < N) = false := by simp; omega
   clear hM hRm hc
   go_wp2_with fail
   refine (lenC _ r N cap).mono ?_
   rintro e w6 ⟨rfl, rfl⟩
   clear m3 m4
   go_wp2
   go_ret
   exact ⟨_, rfl, by rw [← HM00.out, HR.out]; exact HL.out.2.1, hb⟩
def depN (ps : List Nat) : Nat → List Nat
 | 0 => List.replicate ps.length 0
 | t + 1 => (depN ps t).set (ps.length - 2 - t) (((depN ps t).getD (ps.getD (ps.length - 2 - t) 0) 0 + 1) % 256)
theorem depN_length (ps : List Nat) : ∀ t, (depN ps t).length = ps.length
 | 0 => by simp [depN]
 | t + 1 => by rw [depN, List.length_set, depN_length ps t]
theorem depN_lt (ps : List Nat) : ∀ t, ∀ x ∈ depN ps t, x < 256
 | 0 => fun x hx => by rw [depN] at hx; have := List.eq_of_mem_replicate hx; omega
 | t + 1 => fun x hx => by
  rw [depN] at hx
  rcases List.mem_or_eq_of_mem_set hx with h | rfl
  ·exact depN_lt ps t x h
  ·exact Nat.mod_lt _ (by decide)
def depA (n : Nat) (ps : List Nat) : List Nat := if n = 1 then (depN ps (ps.length - 1)).set 0 1 else depN ps (ps.length - 1)
theorem depA_length (n : Nat) (ps : List Nat) : (depA n ps).length = ps.length := by unfold depA; split <;> simp [depN_length]
theorem depA_lt (n : Nat) (ps : List Nat) : ∀ x ∈ depA n ps, x < 256 := by
 unfold depA
 split
 ·intro x hx
  rcases List.mem_or_eq_of_mem_set hx with h | rfl
  ·exact depN_lt ps _ x h
  ·decide
 ·exact depN_lt ps _
def lenF (ds : List Nat) (acc : List Nat × Nat) (n : Nat) : List Nat × Nat := if 0 < n then (acc.1 ++ [ds.getD acc.2 0], acc.2 + 1) else (acc.1 ++ [0], acc.2)
def lenP (ds : List Nat) (ws : List Nat) : List Nat × Nat := ws.foldl (lenF ds) ([], 0)
theorem lenP_take {ds ws : List Nat} {i n : Nat} (h : ws[i]? = some n) : lenP ds (ws.take (i + 1)) = lenF ds (lenP ds (ws.take i)) n := by
 unfold lenP; rw [List.take_add_one, h, List.foldl_append]; rfl
theorem lenP_length (ds : List Nat) (n : Nat) : ∀ ws : List Nat, ws.length = n → (lenP ds ws).1.length = n := by
 induction n with
 | zero => intro ws h; rw [List.length_eq_zero_iff.1 h]; rfl
 | succ n ih =>
  intro ws h
  obtain ⟨ws', b, rfl⟩ : ∃ l b, ws = l ++ [b] := ⟨ws.dropLast, ws.getLast (by intro e; rw [e] at h; simp at h), (List.dropLast_concat_getLast _).symm⟩
  have h' : ws'.length = n := by simpa using h
  have := ih ws' h'
  unfold lenP at *
  rw [List.foldl_append]
  simp only [List.foldl_cons, List.foldl_nil, lenF]
  split <;> simp [this]
def Onward (ps : List Nat) (live : List N2) : Prop := ∀ i, i < ps.length → (∀ p ∈ live, p.2 ≠ i) → i < ps.getD i 0 ∧ ps.getD i 0 < ps.length
theorem getD_set (l : List Nat) (i k x : Nat) (hi : i < l.length) : (l.set i x).getD k 0 = if i = k then x else l.getD k 0 := by
 rw [List.getD_eq_getElem?_getD, List.getD_eq_getElem?_getD, List.getElem?_set]
 by_cases h : i = k
 ·subst h; simp [hi]
 ·simp [h]
theorem getD_append (l m : List Nat) (k : Nat) (h : k < l.length) : (l ++ m).getD k 0 = l.getD k 0 := by
 rw [List.getD_eq_getElem?_getD, List.getD_eq_getElem?_getD, List.getElem?_append_left h]
theorem getD_ps2 (ps : List Nat) (a b : N2) (ha : a.2 < ps.length) (hb : b.2 < ps.length) (k : Nat) (hk : k < ps.length) : (ps2 ps a b).getD k 0 = if b.2 = k then ps.length else if a.2 = k then ps.length else ps.getD k 0 := by
 unfold ps2
 rw [getD_append _ _ _ (by simp; omega), getD_set _ _ _ _ (by simp; omega), getD_set _ _ _ _ ha]
theorem onward_step {ps : List Nat} {a b : N2} {r : List N2} (h : Onward ps (a :: b :: r)) (ha : a.2 < ps.length) (hb : b.2 < ps.length) (x : Nat) : Onward (ps2 ps a b) (insL (x, ps.length) r) := by
 intro i hi hl
 rw [ps2_length] at hi ⊢
 have hne : i ≠ ps.length := fun e => hl (x, ps.length) ((insL_perm _ _).mem_iff.2 (by simp)) e.symm
 rw [getD_ps2 ps a b ha hb i (by omega)]
 by_cases h1 : b.2 = i
 ·rw [if_pos h1]; omega
 ·rw [if_neg h1]
  by_cases h2 : a.2 = i
  ·rw [if_pos h2]; omega
  ·rw [if_neg h2]
   have := h i (by omega) (fun p hp => by
    rcases List.mem_cons.1 hp with rfl | hp
    ·exact h2
    ·rcases List.mem_cons.1 hp with rfl | hp
     ·exact h1
     ·exact hl p ((insL_perm _ _).mem_iff.2 (List.mem_cons_of_mem _ hp)))
   omega
theorem mrgP_onward : ∀ (n : Nat) (s : List N2) (ps : List Nat), s.length = n → (∀ p ∈ s, p.2 < ps.length) → Onward ps s →
  ∀ i, i + 1 < (mrgP s ps).length ∨ (i < (mrgP s ps).length ∧ (s.length = 0)) → (∀ p ∈ s, s.length = 1 → p.2 + 1 = ps.length) → i < (mrgP s ps).getD i 0 ∧ (mrgP s ps).getD i 0 < (mrgP s ps).length
 | 0, s, ps, h, hn, ho, i, hi, _ => by
  rw [mrgP_end _ _ (by omega)] at hi ⊢
  have hs : s = [] := List.length_eq_zero_iff.1 h
  subst hs
  exact ho i (by omega) (fun p hp => by cases hp)
 | 1, s, ps, h, hn, ho, i, hi, h1 => by
  rw [mrgP_end _ _ (by omega)] at hi ⊢
  refine ho i (by omega) (fun p hp e => ?_)
  have := h1 p hp h
  omega
 | n + 2, s, ps, h, hn, ho, i, hi, h1 => by
  match s, h with
  | a :: b :: r, h =>
   rw [mrgP_step] at hi ⊢
   have hlen : (insL (sumW a.1 b.1, ps.length) r).length = n + 1 := by rw [insL_length]; simp at h; omega
   refine mrgP_onward (n + 1) _ _ hlen (fun p hp => ?_) (onward_step ho (hn a (by simp)) (hn b (by simp)) _) i ?_ (fun p hp e => ?_)
   ·rw [ps2_length]
    rcases List.mem_cons.1 ((insL_perm _ _).mem_iff.1 hp) with rfl | hp
    ·show ps.length < ps.length + 1; omega
    ·have := hn p (by simp [hp]); omega
   ·rcases hi with hi | ⟨_, hi⟩
    ·exact .inl hi
    ·simp at hi
   ·rw [ps2_length]
    have hr : r = [] := by
     rw [insL_length] at e
     exact List.length_eq_zero_iff.1 (by omega)
    subst hr
    simp [insL] at hp
    rw [hp]
def cntF (c : List Nat) (b : UInt8) : List Nat := c.set b.toNat (c.getD b.toNat 0 + 1)
def cntL (bs : List UInt8) : List Nat := bs.foldl cntF (List.replicate 256 0)
theorem cntF_length (c : List Nat) (b : UInt8) : (cntF c b).length = c.length := by simp [cntF]
theorem cntL_nil : cntL [] = List.replicate 256 0 := rfl
theorem cntL_snoc (bs : List UInt8) (b : UInt8) : cntL (bs ++ [b]) = cntF (cntL bs) b := by unfold cntL; rw [List.foldl_append]; rfl
theorem cntL_take {bs : List UInt8} {i : Nat} {b : UInt8} (h : bs[i]? = some b) : cntL (bs.take (i + 1)) = cntF (cntL (bs.take i)) b := by
 rw [List.take_add_one, h]; exact cntL_snoc _ b
theorem cntL_all (n : Nat) : ∀ (bs : List UInt8), bs.length = n → (cntL bs).length = 256 ∧ ∀ x ∈ cntL bs, x ≤ n := by
 induction n with
 | zero =>
  intro bs h
  rw [List.length_eq_zero_iff.1 h]
  exact ⟨by rw [cntL_nil, List.length_replicate], fun x hx => by rw [cntL_nil] at hx; exact Nat.le_of_eq (List.eq_of_mem_replicate hx)⟩
 | succ n ih =>
  intro bs h
  obtain ⟨bs', b, rfl⟩ : ∃ l b, bs = l ++ [b] := ⟨bs.dropLast, bs.getLast (by intro e; rw [e] at h; simp at h), (List.dropLast_concat_getLast _).symm⟩
  have h' : bs'.length = n := by simpa using h
  obtain ⟨h1, h2⟩ := ih bs' h'
  rw [cntL_snoc]
  refine ⟨by rw [cntF_length, h1], fun x hx => ?_⟩
  unfold cntF at hx
  rcases List.mem_or_eq_of_mem_set hx with hx | rfl
  ·have := h2 x hx; omega
  ·have hg : (cntL bs').getD b.toNat 0 ∈ cntL bs' := by
    rw [List.getD_eq_getElem?_getD, List.getElem?_eq_getElem (by rw [h1]; exact b.toNat_lt)]
    exact List.getElem_mem _
   have := h2 _ hg; omega
theorem cntL_length (bs : List UInt8) : (cntL bs).length = 256 := (cntL_all _ bs rfl).1
theorem cntL_le (bs : List UInt8) : ∀ x ∈ cntL bs, x ≤ bs.length := (cntL_all _ bs rfl).2
theorem c64_set (l : List Nat) (i n : Nat) : (cells64 l).toArray.setIfInBounds i (.int .u64 (n : Int)) = (cells64 (l.set i n)).toArray := by
 rw [List.setIfInBounds_toArray]; congr 1; simp [cells64, List.map_set]
theorem c64_one (l : List Nat) : (cells64 l).toArray.all (·.oneCell') = true := all_oneCell_toArray (fun v hv => by obtain ⟨i, _, rfl⟩ := List.mem_map.1 hv; rfl)
theorem results_cell_arr {P : Program} {fn : Func} {p : Tmp} {ty : TypeId} (h : fn.results = #[.cell p ty]) (tmps : Array Value) (w : World) (g : Nat) (cs : List Value) (d : TypeDesc)
  (hp : tmps.getD p undef = .pointer (some ⟨g, 0, none⟩)) (hc : w.rangeAt g 0 cs) (hu : P.underlying ty = some d) (hd : d.isRow = true) (hi : (P.info? ty).map (·.size) = some cs.length) :
  (results fn tmps).run P w = .ok (.agg cs.toArray) w := by
 have hp' : tmps[p]?.getD undef = .pointer (some ⟨g, 0, none⟩) := by simpa using hp
 simp [results, h, hp', asAddr, run_loadVar_mid w g 0 ty cs d hc hu hd hi]
theorem below_cellsA {B b : Nat} {a : World} (hb : B ≤ b) : ∀ (vs : List Value) (o : Nat) (w : World), Below B a w → Below B a (w.setCells b o vs) := by
 intro vs
 induction vs with
 | nil => intro o w h; exact h
 | cons v vs ih => intro o w h; exact ih _ _ (h.setCell (p := ⟨b, o, none⟩) hb v)
set_option maxHeartbeats 1000000 in
set_option maxRecDepth 100000 in
theorem huffCount (s : ByteArray) (w : World) (hs : s.size ≤ 1099511627776) :
  Calls Try.prog 17 #[.string s] w fun e w' => e = .returned (.agg (cells64 (cntL s.data.toList)).toArray) ∧ Below w.heap.size w w' := by
 obtain ⟨zs, hzs⟩ : ∃ zs : Array Value, zs = Array.replicate 256 (.int .u64 0) := ⟨_, rfl⟩
 have hz := zero64
 rw [← hzs] at hz
 have hzl : zs = (cells64 (cntL [])).toArray := by
  rw [hzs, cntL_nil]
  unfold cells64
  rw [List.map_replicate]
  exact (List.toArray_replicate 256 _).symm
 have hzn : zs.size = 256 := by rw [hzs, Array.size_replicate]
 have HZL := Lib.hid hzl
 have HZN := Lib.hid hzn
 clear hzs hzl hzn
 go_enter Try.func17, Try.ntmps17
 have l0 := (Lies.made w 25 zs).alloc (.cells zs 25)
 have l1 := Lies.made (w.alloc (.cells zs 25)) 25 zs
 have hb1 : Below w.heap.size w ((w.alloc (.cells zs 25)).alloc (.cells zs 25)) := ((Below.refl _ _).alloc (Nat.le_refl _) _).alloc (by simp) _
 have hgs : (w.alloc (.cells zs 25)).heap.size = w.heap.size + 1 := by simp
 rw [hgs] at l1
 have H0 := Lib.hid l0
 have H1 := Lib.hid l1
 have HB := Lib.hid hb1
 clear l0 l1 hb1
 go_wp2_with fail
 clear hz hgs
 generalize (w.alloc (.cells zs 25)).alloc (.cells zs 25) = w1 at *
 go_loopw [7] (fun c wr => ∃ i : Nat, i ≤ s.size ∧ c = .int .i64 i ∧ Lies wr w.heap.size 25 zs ∧ Lies wr (w.heap.size + 1) 25 (cells64 (cntL (s.data.toList.take i))).toArray ∧ Below w.heap.size w wr)
  (fun c _ => s.size - (intOf c).toNat)
 case atStart => exact ⟨0, by omega, rfl, H0.out, by rw [List.take_zero, ← HZL.out]; exact H1.out, HB.out⟩
 case round =>
  clear H0 H1 HB
  obtain ⟨i, hi, rfl, l0, l1, hb⟩ := hrel
  have L0 := Lib.hid l0
  have L1 := Lib.hid l1
  have HB := Lib.hid hb
  clear l0 l1 hb
  by_cases hlt : i < s.size
  ·have hii : (i : Int) < (s.size : Int) := by omega
   have hby := byte_of s i hlt
   have hst := cntL_take hby
   have hln := cntL_length (s.data.toList.take i)
   have hle := cntL_le (s.data.toList.take i)
   have hblt := (s[i]'hlt).toNat_lt
   have HST := Lib.hid hst
   generalize hc : cntL (s.data.toList.take i) = c at *
   have hcg : c[(s[i]'hlt).toNat]? = some (c.getD (s[i]'hlt).toNat 0) := by
    rw [List.getD_eq_getElem?_getD, List.getElem?_eq_getElem (by omega)]; rfl
   have hcn : c.getD (s[i]'hlt).toNat 0 ≤ 1099511627776 := by
    have := hle _ (List.mem_of_getElem? hcg)
    rw [List.length_take] at this
    have e : s.data.toList.length = s.size := by simp
    omega
   have hcell : wr.cell? ⟨w.heap.size + 1, (s[i]'hlt).toNat, none⟩ = some (.int .u64 ((c.getD (s[i]'hlt).toNat 0 : Nat) : Int)) := (L1.out.cell _).trans (by rw [List.getElem?_toArray]; unfold cells64; rw [List.getElem?_map, hcg]; rfl)
   have hfree := L1.out.free (s[i]'hlt).toNat
   have hput := L1.out.put (s[i]'hlt).toNat (.int .u64 ((c.getD (s[i]'hlt).toNat 0 + 1 : Nat) : Int))
   rw [c64_set] at hput
   have hput2 : Hid (Lies (wr.setCell ⟨w.heap.size + 1, (s[i]'hlt).toNat, none⟩ (.int .u64 ((c.getD (s[i]'hlt).toNat 0 + 1 : Nat) : Int))) (w.heap.size + 1) 25 (cells64 (cntL (s.data.toList.take (i + 1)))).toArray) := by
    show Lies _ _ _ _
    rw [HST.out]; exact hput
   have hfar := Lib.hid (L0.out.far (p := ⟨w.heap.size + 1, (s[i]'hlt).toNat, none⟩) (by show w.heap.size ≠ w.heap.size + 1; omega) (.int .u64 ((c.getD (s[i]'hlt).toNat 0 + 1 : Nat) : Int)))
   have hbn := Lib.hid (HB.out.setCell (p := ⟨w.heap.size + 1, (s[i]'hlt).toNat, none⟩) (by show w.heap.size ≤ w.heap.size + 1; omega) (.int .u64 ((c.getD (s[i]'hlt).toNat 0 + 1 : Nat) : Int)))
   clear hput hst hle hcg hby hc HST
   generalize c.getD (s[i]'hlt).toNat 0 = m at *
   have hbi : ((s[i]'hlt).toNat : Int) < 256 := by omega
   go_wp2_with fail
   go_roundw
   case rel => exact ⟨i + 1, by omega, by go_num, hfar.out, hput2.out, hbn.out⟩
   case measure => simp [intOf]; omega
  ·have hl : s.data.toList.length = s.size := by simp
   obtain rfl : i = s.size := by omega
   rw [List.take_of_length_le (by omega)] at L1
   obtain ⟨T, hT⟩ : ∃ T, T = cells64 (cntL s.data.toList) := ⟨_, rfl⟩
   have hTl : T.length = 256 := by rw [hT, c64_length, cntL_length]
   have hone : T.toArray.all (·.oneCell') = true := by rw [hT]; exact c64_one _
   rw [← hT] at L1
   have HT := Lib.hid hT
   have hr := Lib.hid (arr_range L1.out)
   have ht := Lib.hid (arr_there L0.out (n := T.toArray.size) (HZN.out.trans (by rw [List.size_toArray, hTl])))
   have hst := Lib.hid (arr_store L0.out (L := T) (HZN.out.trans hTl.symm))
   have hi1 : (Try.prog.info? 25).map (·.size) = some T.length := by rw [hTl]; exact info64
   have hi2 : (Try.prog.info? 25).map (·.size) = some T.toArray.size := by rw [List.size_toArray, hTl]; exact info64
   have HI1 := Lib.hid hi1
   have HI2 := Lib.hid hi2
   have HONE := Lib.hid hone
   have hbz := Lib.hid (below_cellsA (Nat.le_refl w.heap.size) T 0 wr HB.out)
   clear hT hone hi1 hi2
   go_wp2_with (first | refine wpList_load_mid rfl 25 _ rfl (w.heap.size + 1) 0 rfl T _ hr.out under64 rfl HI1.out ?_ | refine wpList_store_mid rfl 25 _ _ rfl w.heap.size 0 T.toArray rfl rfl ht.out HI2.out HONE.out ?_)
   refine bodyPost_ret (v := .agg T.toArray) (results_cell_arr Try.results17 _ _ w.heap.size T _ rfl (arr_range hst.out) under64 rfl HI1.out) rfl ⟨by rw [HT.out], hbz.out⟩
theorem lvs_snoc (ws : List Nat) (n : Nat) : lvs (ws ++ [n]) = lvF (lvs ws) n := by unfold lvs; rw [List.foldl_append]; rfl
theorem lvs_num (n : Nat) : ∀ ws : List Nat, ws.length = n → ∀ (i : Nat) (p : N2), (lvs ws)[i]? = some p → p.2 = i ∧ p.1 ∈ ws := by
 induction n with
 | zero => intro ws h i p hp; rw [List.length_eq_zero_iff.1 h] at hp; simp [lvs] at hp
 | succ n ih =>
  intro ws h i p hp
  obtain ⟨ws', b, rfl⟩ : ∃ l b, ws = l ++ [b] := ⟨ws.dropLast, ws.getLast (by intro e; rw [e] at h; simp at h), (List.dropLast_concat_getLast _).symm⟩
  have h' : ws'.length = n := by simpa using h
  rw [lvs_snoc] at hp
  unfold lvF at hp
  split at hp
  ·by_cases hi : i < (lvs ws').length
   ·rw [List.getElem?_append_left hi] at hp
    have := ih ws' h' i p hp
    exact ⟨this.1, by simp [this.2]⟩
   ·rw [List.getElem?_append_right (by omega)] at hp
    have h0 : i - (lvs ws').length = 0 := by
     rcases Nat.eq_zero_or_pos (i - (lvs ws').length) with h0 | h0
     ·exact h0
     ·rw [List.getElem?_eq_none (by simp; omega)] at hp; cases hp
    rw [h0] at hp
    simp at hp
    subst hp
    exact ⟨by show (lvs ws').length = i; omega, by simp⟩
  ·have := ih ws' h' i p hp
   exact ⟨this.1, by simp [this.2]⟩
theorem lvs_mono (ws : List Nat) (i : Nat) : (lvs (ws.take i)).length ≤ (lvs (ws.take (i + 1))).length := by
 rcases h : ws[i]? with _ | n
 ·rw [List.take_add_one, h]; simp
 ·rw [lvs_take h]; unfold lvF; split <;> simp
theorem lvs_mono' (ws : List Nat) : ∀ k i, (lvs (ws.take i)).length ≤ (lvs (ws.take (i + k))).length
 | 0, i => Nat.le_refl _
 | k + 1, i => Nat.le_trans (lvs_mono' ws k i) (by rw [← Nat.add_assoc]; exact lvs_mono ws (i + k))
theorem lenP_snd (ds : List Nat) (n : Nat) : ∀ ws : List Nat, ws.length = n → (lenP ds ws).2 = (lvs ws).length := by
 induction n with
 | zero => intro ws h; rw [List.length_eq_zero_iff.1 h]; rfl
 | succ n ih =>
  intro ws h
  obtain ⟨ws', b, rfl⟩ : ∃ l b, ws = l ++ [b] := ⟨ws.dropLast, ws.getLast (by intro e; rw [e] at h; simp at h), (List.dropLast_concat_getLast _).symm⟩
  have h' : ws'.length = n := by simpa using h
  have := ih ws' h'
  rw [lvs_snoc]
  unfold lenP at *
  rw [List.foldl_append]
  simp only [List.foldl_cons, List.foldl_nil, lenF, lvF]
  split <;> simp [this]
def parW (ws : List Nat) : List Nat := mrgP (sortL (lvs ws)) (List.replicate (lvs ws).length 0)
def depW (ws : List Nat) : List Nat := depA (lvs ws).length (parW ws)
def lensW (ws : List Nat) : List Nat := (lenP (depW ws) ws).1
theorem sortL_length (l : List N2) : (sortL l).length = l.length := (sortL_perm l).length_eq
theorem parW_length (ws : List Nat) : (parW ws).length = (lvs ws).length + ((lvs ws).length - 1) := by
 unfold parW; rw [mrgP_length _ _ _ rfl, sortL_length, List.length_replicate]
theorem lvs_lt (ws : List Nat) : ∀ p ∈ lvs ws, p.2 < (lvs ws).length := fun p hp => by
 obtain ⟨i, hi, he⟩ := List.getElem_of_mem hp
 have := (lvs_num _ ws rfl i p (by rw [List.getElem?_eq_getElem hi, he])).1
 omega
theorem parW_on (ws : List Nat) (i : Nat) (hi : i + 1 < (parW ws).length) : i < (parW ws).getD i 0 ∧ (parW ws).getD i 0 < (parW ws).length := by
 refine mrgP_onward _ _ _ rfl (fun p hp => ?_) (fun k hk hl => ?_) i (.inl hi) (fun p hp e => ?_)
 ·rw [List.length_replicate]; exact lvs_lt ws p ((sortL_perm _).mem_iff.1 hp)
 ·rw [List.length_replicate] at hk
  have hg := List.getElem?_eq_getElem hk
  have := (lvs_num _ ws rfl k _ hg).1
  exact absurd this (hl _ ((sortL_perm _).mem_iff.2 (List.getElem_mem hk)))
 ·rw [List.length_replicate]
  rw [sortL_length] at e
  have := lvs_lt ws p ((sortL_perm _).mem_iff.1 hp)
  omega
theorem lensW_length (ws : List Nat) (h : ws.length = 256) : (lensW ws).length = 256 := by unfold lensW; rw [lenP_length _ _ _ rfl, h]
theorem lenP_lt (ds : List Nat) (hd : ∀ x ∈ ds, x < 256) (n : Nat) : ∀ ws : List Nat, ws.length = n → ∀ x ∈ (lenP ds ws).1, x < 256 := by
 induction n with
 | zero => intro ws h x hx; rw [List.length_eq_zero_iff.1 h] at hx; simp [lenP] at hx
 | succ n ih =>
  intro ws h x hx
  obtain ⟨ws', b, rfl⟩ : ∃ l b, ws = l ++ [b] := ⟨ws.dropLast, ws.getLast (by intro e; rw [e] at h; simp at h), (List.dropLast_concat_getLast _).symm⟩
  have h' : ws'.length = n := by simpa using h
  have := ih ws' h'
  unfold lenP at *
  rw [List.foldl_append] at hx
  simp only [List.foldl_cons, List.foldl_nil, lenF] at hx
  split at hx
  ·rcases List.mem_append.1 hx with hx | hx
   ·exact this x hx
   ·simp only [List.mem_singleton] at hx
    rw [hx, List.getD_eq_getElem?_getD]
    rcases hq : ds[(List.foldl (lenF ds) ([], 0) ws').2]? with _ | q
    ·decide
    ·exact hd q (List.mem_of_getElem? hq)
  ·rcases List.mem_append.1 hx with hx | hx
   ·exact this x hx
   ·simp at hx; omega
theorem lensW_lt (ws : List Nat) : ∀ x ∈ lensW ws, x < 256 := lenP_lt _ (depA_lt _ _) _ _ rfl
theorem c8_get {l : List Nat} {i n : Nat} (h : l[i]? = some n) : (c8 l)[i]? = some (.int .u8 (n : Int)) := by simp [c8, h]
theorem cI_get {l : List Nat} {i n : Nat} (h : l[i]? = some n) : (cI l)[i]? = some (.int .i64 (n : Int)) := by simp [cI, h]
theorem c8_set (l : List Nat) (i n : Nat) : (c8 l).set i (.int .u8 (n : Int)) = c8 (l.set i n) := by simp [c8, List.map_set]
theorem c8_one (l : List Nat) : (c8 l).toArray.all (·.oneCell') = true := all_oneCell_toArray (fun v hv => by obtain ⟨i, _, rfl⟩ := List.mem_map.1 hv; rfl)
theorem own_far {w : World} {B B' n n' sz r cap i : Nat} {e e' : TypeId} {v : Value} {xs xs' : List Value} {u : Value} (h : w.ownsRow B e sz v n xs) (h' : w.ownsRow B' e' 1 (.slice (some ⟨r, 0, none⟩) n' cap) n' xs') (hne : e ≠ e') : (w.setCell ⟨r, i, none⟩ u).ownsRow B e sz v n xs := by
 rcases owns_row h' with ⟨h1, _⟩ | ⟨r', _, cur, h1, _, h2, _⟩
 ·cases h1
 ·simp only [Value.slice.injEq, Option.some.injEq, Addr.mk.injEq] at h1
  obtain ⟨⟨rfl, _⟩, _⟩ := h1
  exact owns_put h h2 hne i u
theorem lies_far {w : World} {B' n' r cap i g : Nat} {t e' : TypeId} {cs : Array Value} {xs' : List Value} {u : Value} (h : Lies w g t cs) (h' : w.ownsRow B' e' 1 (.slice (some ⟨r, 0, none⟩) n' cap) n' xs') (hne : t ≠ e') : Lies (w.setCell ⟨r, i, none⟩ u) g t cs := by
 refine h.far (fun e => ?_) u
 have e2 : g = r := e
 exact own_ne h' h (fun e => hne e.symm) (by rw [e2]; rfl)
set_option maxHeartbeats 2000000 in
set_option maxRecDepth 100000 in
theorem huffLengths (ws : List Nat) (w : World) (h : WOk ws) :
  Calls Try.prog 12 #[.agg (cells64 ws).toArray] w fun e w' => e = .returned (.agg (c8 (lensW ws)).toArray) ∧ Below w.heap.size w w' := by
 have hg := fun (i n : Nat) (hi : i < 256) (hn : ws[i]? = some n) (w : World) => run_index_arr (P := Try.prog) 25 24 256 (cells64 ws).toArray .i64 i _ under64 isAgg64 sizeOf64 hi (c64_get hn) w
 have hlen : (cells64 ws).length = 256 := by rw [c64_length]; exact h.1
 have hlv := fun w => huffLeaves ws w h
 have hok : NdOk (lvs ws) := fun p hp => by
  obtain ⟨i, hi, he⟩ := List.getElem_of_mem hp
  have h1 := lvs_num _ ws rfl i p (by rw [List.getElem?_eq_getElem hi, he])
  have h2 := lvs_length ws 256
  rw [List.take_of_length_le (by rw [h.1]; exact Nat.le_refl _)] at h2
  exact ⟨h.2 _ h1.2, by omega⟩
 have hll : (lvs ws).length ≤ 256 := by
  have h2 := lvs_length ws 256
  rwa [List.take_of_length_le (by rw [h.1]; exact Nat.le_refl _)] at h2
 have hmg := fun v w hs => huffMerge v (lvs ws).length (lvs ws) w hs hok hll (lvs_lt ws)
 have HG := Lib.hid hg
 have H := Lib.hid h
 have HLV := Lib.hid hlv
 have HMG := Lib.hid hmg
 have hpl := parW_length ws
 have hon := parW_on ws
 obtain ⟨L, hL⟩ : ∃ L, L = cells64 ws := ⟨_, rfl⟩
 rw [← hL] at HG hlen HLV ⊢
 have hi1 : (Try.prog.info? 25).map (·.size) = some L.length := by rw [hlen]; exact info64
 have HI1 := Lib.hid hi1
 obtain ⟨zs, hzs⟩ : ∃ zs : Array Value, zs = Array.replicate 256 (.int .u8 0) := ⟨_, rfl⟩
 have hz := zero8
 rw [← hzs] at hz
 have hzn : zs.size = 256 := by rw [hzs, Array.size_replicate]
 have hzl : zs = (c8 (List.replicate 256 0)).toArray := by rw [hzs]; unfold c8; rw [List.map_replicate]; exact (List.toArray_replicate 256 _).symm
 have HZN := Lib.hid hzn
 have HZL := Lib.hid hzl
 have HON := Lib.hid hon
 have HPL := Lib.hid hpl
 have HDW : Hid (depW ws = depA (lvs ws).length (parW ws)) := rfl
 have HLW : Hid (lensW ws = (lenP (depW ws) ws).1) := rfl
 have HPW : Hid (parW ws = mrgP (sortL (lvs ws)) (List.replicate (lvs ws).length 0)) := rfl
 clear hg h hL hi1 hlv hmg hzs hzn hzl hok hpl hon
 have l0 := (Lies.made w 25 L.toArray).alloc (.cells zs 27)
 have l1 := Lies.made (w.alloc (.cells L.toArray 25)) 27 zs
 rw [show (w.alloc (.cells L.toArray 25)).heap.size = w.heap.size + 1 by simp] at l1
 have hb1 := ((Below.refl w.heap.size w).alloc (Nat.le_refl _) (.cells L.toArray 25)).alloc (by simp) (.cells zs 27)
 have hsz : ((w.alloc (.cells L.toArray 25)).alloc (.cells zs 27)).heap.size = w.heap.size + 2 := by simp
 have L0 := Lib.hid l0
 have L1 := Lib.hid l1
 have HB1 := Lib.hid hb1
 have HR0 := Lib.hid (arr_range l0)
 have HSZ := Lib.hid hsz
 clear l0 l1 hb1 hsz
 go_enter Try.func12, Try.ntmps12
 go_wp2_with (refine wpList_load_mid rfl 25 _ rfl w.heap.size 0 rfl L _ HR0.out under64 rfl HI1.out ?_)
 clear HR0
 generalize (w.alloc (.cells L.toArray 25)).alloc (.cells zs 27) = w1 at *
 refine (HLV.out w1).mono ?_
 rintro e w2 ⟨v2, rfl, ho2, hb2⟩
 have L02 := Lib.hid (L0.out.below hb2 (by rw [HSZ.out]; omega))
 have L12 := Lib.hid (L1.out.below hb2 (by rw [HSZ.out]; omega))
 have HB2 := Lib.hid (HB1.out.trans (hb2.mono (by rw [HSZ.out]; omega)))
 have hz2 : w.heap.size + 2 ≤ w2.heap.size := by have := hb2.size; rw [HSZ.out] at this; exact this
 obtain ⟨A2, cp2, rfl, hq1, hq2, _⟩ := (SeqS.of_owns ho2).form
 have HS2 := Lib.hid (SeqS.of_owns ho2)
 unfold maxLen at hq2
 clear ho2 hb2 HLV L0 L1 HB1 HSZ
 obtain ⟨n, hn⟩ : ∃ n, n = (lvs ws).length := ⟨_, rfl⟩
 have HNN := Lib.hid hn
 rw [← hn] at HS2 hq1 hll ⊢
 rw [← hn] at HMG
 clear hn
 go_wp2_with fail
 refine (HMG.out _ w2 HS2.out).mono ?_
 rintro e w3 ⟨v3, rfl, ho3, hb3⟩
 rw [HNN.out, ← HPW.out] at ho3
 have HP3 := Lib.hid ho3
 have L03 := Lib.hid (L02.out.below hb3 (by omega))
 have L13 := Lib.hid (L12.out.below hb3 (by omega))
 have HB3 := Lib.hid (HB2.out.trans (hb3.mono (by omega)))
 have hz3 : w.heap.size + 2 ≤ w3.heap.size := by have := hb3.size; omega
 obtain ⟨A3, cp3, rfl, hr1, hr2, _⟩ := (SeqS.of_owns ho3).form
 unfold maxLen at hr2
 have hpn := HPL.out
 rw [← HNN.out] at hpn
 obtain ⟨P, hP⟩ : ∃ P, P = (parW ws).length := ⟨_, rfl⟩
 have HPP := Lib.hid hP
 rw [← hP] at hr1 hpn ⊢
 have hPb : P ≤ 511 := by omega
 have HPN := Lib.hid hpn
 clear hpn
 have hp3 := HP3.out
 rw [← hP] at hp3
 have HP3' := Lib.hid hp3
 clear HP3 hp3 ho3 hb3 L02 L12 HB2 HMG hP
 have hmk := run_make_row' (P := Try.prog) 30 5 (.int .u8 0) 1 Try.underlying30 Try.infoU8 rfl .i64 .i64 P (by omega) (by omega) w3
 have ho4 := owned_made w3 5 (.int .u8 0) rfl P (by unfold maxLen; omega)
 have hc8 : List.replicate P (Value.int .u8 0) = c8 (depN (parW ws) 0) := by rw [depN, ← HPP.out]; unfold c8; rw [List.map_replicate]; rfl
 rw [hc8] at ho4
 have HO4 := Lib.hid ho4
 have HP4 := Lib.hid (HP3'.out.alloc (.cells (madeCells #[Value.int .u8 0] P) 5))
 have L04 := Lib.hid (L03.out.alloc (.cells (madeCells #[Value.int .u8 0] P) 5))
 have L14 := Lib.hid (L13.out.alloc (.cells (madeCells #[Value.int .u8 0] P) 5))
 have HB4 := Lib.hid (HB3.out.alloc (by omega) (.cells (madeCells #[Value.int .u8 0] P) 5))
 obtain ⟨q, hq⟩ : ∃ q, q = w3.heap.size := ⟨_, rfl⟩
 have hqz : q < (w3.alloc (.cells (madeCells #[Value.int .u8 0] P) 5)).heap.size := by simp; omega
 rw [← hq] at hmk HO4
 have hBq : w.heap.size + 2 ≤ q := by omega
 clear ho4 hc8 HP3' L03 L13 HB3 hq
 go_wp2_with fail
 clear hmk
 generalize w3.alloc (.cells (madeCells #[Value.int .u8 0] P) 5) = w4 at *
 go_loopw [6] (fun t wr => ∃ k : Nat, k ≤ P - 1 ∧ t = .int .i64 ((P : Int) - 2 - k) ∧ wr.ownsRow q 5 1 (.slice (some ⟨q, 0, none⟩) P P) P (c8 (depN (parW ws) k)) ∧ wr.ownsRow w2.heap.size 3 1 (.slice A3 P cp3) P (cI (parW ws)) ∧
   Lies wr w.heap.size 25 L.toArray ∧ Lies wr (w.heap.size + 1) 27 zs ∧ Below w.heap.size w wr ∧ q < wr.heap.size)
  (fun t _ => (intOf t + 2).toNat)
 case atStart => exact ⟨0, by omega, by go_num, owns_base HO4.out (by omega), HP4.out, L04.out, L14.out, HB4.out, hqz⟩
 case round =>
  clear HO4 HP4 L04 L14 HB4 hqz
  obtain ⟨k, hk, rfl, ho, hp, l0, l1, hb, hqz⟩ := hrel
  have HO := Lib.hid ho
  have HP := Lib.hid hp
  have L0 := Lib.hid l0
  have L1 := Lib.hid l1
  have HB := Lib.hid hb
  clear ho hp l0 l1 hb
  by_cases hlt : k + 1 < P
  ·obtain ⟨i, hi⟩ : ∃ i, i = P - 2 - k := ⟨_, rfl⟩
   have hii : (P : Int) - 2 - (k : Int) = (i : Int) := by omega
   have hon := HON.out i (by rw [← HPP.out]; omega)
   rw [← HPP.out] at hon
   obtain ⟨y, hy⟩ : ∃ y, y = (parW ws).getD i 0 := ⟨_, rfl⟩
   rw [← hy] at hon
   have hpy : (parW ws)[i]? = some y := by rw [hy, List.getD_eq_getElem?_getD, List.getElem?_eq_getElem (by rw [← HPP.out]; omega)]; rfl
   obtain ⟨p3, cp5, hv3, hBp, _, _, _⟩ := owns_openS HP.out (by omega)
   have hv4 : A3 = some ⟨p3, 0, none⟩ := by
    simp only [Value.slice.injEq] at hv3
    exact hv3.1
   subst hv4
   have cy := owns_cell HP.out (cI_get hpy)
   have hdl : (depN (parW ws) k).length = P := by rw [depN_length, HPP.out]
   obtain ⟨x, hx⟩ : ∃ x, x = (depN (parW ws) k).getD y 0 := ⟨_, rfl⟩
   have hdx : (depN (parW ws) k)[y]? = some x := by rw [hx, List.getD_eq_getElem?_getD, List.getElem?_eq_getElem (by omega)]; rfl
   have hxl := depN_lt _ _ x (List.mem_of_getElem? hdx)
   have cx := owns_cell HO.out (c8_get hdx)
   obtain ⟨z, hz⟩ : ∃ z, (depN (parW ws) k)[i]? = some z := ⟨_, List.getElem?_eq_getElem (by omega)⟩
   have cz := owns_cell HO.out (c8_get hz)
   have fz := owns_free HO.out (k := i) (by omega)
   obtain ⟨X, hX⟩ : ∃ X, X = (x + 1) % 256 := ⟨_, rfl⟩
   have eX : IntKind.u8.wrap ((x : Int) + 1) = (X : Int) := by rw [IntKind.wrap_u8]; omega
   have hset := owns_set (u := .int .u8 (X : Int)) HO.out (k := i) (by omega)
   have hnx : (c8 (depN (parW ws) k)).set i (.int .u8 (X : Int)) = c8 (depN (parW ws) (k + 1)) := by
    rw [c8_set]
    congr 1
    rw [depN, ← HPP.out, ← hi, ← hy, ← hx, ← hX]
   rw [hnx] at hset
   have HSET := Lib.hid hset
   have HPS := Lib.hid (own_far (i := i) (u := .int .u8 (X : Int)) HP.out HO.out (by decide))
   have LS0 := Lib.hid (lies_far (i := i) (u := .int .u8 (X : Int)) L0.out HO.out (by decide))
   have LS1 := Lib.hid (lies_far (i := i) (u := .int .u8 (X : Int)) L1.out HO.out (by decide))
   have HBS := Lib.hid (HB.out.setCell (p := ⟨q, i, none⟩) (by show w.heap.size ≤ q; omega) (.int .u8 (X : Int)))
   have hiP : (i : Int) < (P : Int) := by omega
   have hyP : (y : Int) < (P : Int) := by omega
   have HI := Lib.hid hi
   clear hset hnx hz hdx hpy hv3 hy hx hX hon hdl hi
   go_wp2_with fail
   go_roundw
   case rel => exact ⟨k + 1, by omega, by rw [← hii]; go_num, HSET.out, HPS.out, LS0.out, LS1.out, HBS.out, by simp; exact hqz⟩
   case measure => simp [intOf]; omega
  ·have x1 : decide ((0 : Int) ≤ (P : Int) - 2 - (k : Int)) = false := by simp; omega
   have hkP : k = P - 1 := by omega
   have HKP := Lib.hid hkP
   have hbz : w.heap.size ≤ wr.heap.size := by omega
   have hn1 := HPN.out
   by_cases h1 : n = 1
   ·have e3 : ((n : Int) == 1) = true := by simp; omega
    have e4 : (n == 1) = true := by simpa using h1
    have hP1 : P = 1 := by omega
    have hdw : (depN (parW ws) k).set 0 1 = depW ws := by rw [HDW.out, ← HNN.out]; unfold depA; rw [if_pos h1, ← HPP.out, HKP.out]
    have hdl : (depN (parW ws) k).length = P := by rw [depN_length, HPP.out]
    obtain ⟨z, hzz⟩ : ∃ z, (depN (parW ws) k)[0]? = some z := ⟨_, List.getElem?_eq_getElem (by omega)⟩
    have cz := owns_cell HO.out (c8_get hzz)
    have fz := owns_free HO.out (k := 0) (by omega)
    have hset := owns_set (u := .int .u8 ((1 : Nat) : Int)) HO.out (k := 0) (by omega)
    rw [c8_set, hdw] at hset
    have HOD := Lib.hid hset
    have LA0 := Lib.hid (lies_far (i := 0) (u := .int .u8 ((1 : Nat) : Int)) L0.out HO.out (by decide))
    have LA1 := Lib.hid (lies_far (i := 0) (u := .int .u8 ((1 : Nat) : Int)) L1.out HO.out (by decide))
    have HBA := Lib.hid (HB.out.setCell (p := ⟨q, 0, none⟩) (by show w.heap.size ≤ q; omega) (.int .u8 ((1 : Nat) : Int)))
    have hPi : (0 : Int) < (P : Int) := by omega
    have hPn : 0 < P := by omega
    have hqzA := hqz
    clear hset hdw hdl hzz h1 hkP hP1 HO HP L0 L1 HB
    change Hid (World.ownsRow (wr.setCell ⟨q, 0, none⟩ (.int .u8 1)) _ _ _ _ _ _) at HOD
    change Hid (Lies (wr.setCell ⟨q, 0, none⟩ (.int .u8 1)) _ _ _) at LA0
    change Hid (Lies (wr.setCell ⟨q, 0, none⟩ (.int .u8 1)) _ _ _) at LA1
    change Hid (Below _ _ (wr.setCell ⟨q, 0, none⟩ (.int .u8 1))) at HBA
    have hWz : ((wr.setCell ⟨q, 0, none⟩ (.int .u8 1))).heap.size = wr.heap.size := by simp
    have ll := Lies.made (wr.setCell ⟨q, 0, none⟩ (.int .u8 1)) 27 zs
    have L0B := Lib.hid (LA0.out.alloc (.cells zs 27))
    have L1B := Lib.hid (LA1.out.alloc (.cells zs 27))
    have HOB := Lib.hid (HOD.out.alloc (.cells zs 27))
    have HBB := Lib.hid (HBA.out.alloc (by rw [hWz]; exact hbz) (.cells zs 27))
    have HR0 := Lib.hid (arr_range L0B.out)
    have hz8 := hz
    obtain ⟨gl, hgl⟩ : ∃ gl, gl = wr.heap.size := ⟨_, rfl⟩
    rw [hWz, ← hgl] at ll
    rw [← hgl] at hbz hqzA
    clear hWz
    have LL := Lib.hid ll
    have HGL := Lib.hid hgl
    clear ll
    go_wp2_with (refine wpList_load_mid rfl 25 _ rfl w.heap.size 0 rfl L _ HR0.out under64 rfl HI1.out ?_)
    rw [← HGL.out]
    clear HR0 hz8 HGL hgl
    generalize ((wr.setCell ⟨q, 0, none⟩ (.int .u8 1))).alloc (.cells zs 27) = wB at *
    go_loopw [8, 42] (fun nx c wr => ∃ i : Nat, i ≤ 256 ∧ c = .int .i64 i ∧ nx = .int .i64 ((lvs (ws.take i)).length : Nat) ∧ Lies wr gl 27 (c8 ((lenP (depW ws) (ws.take i)).1 ++ List.replicate (256 - i) 0)).toArray ∧
      wr.ownsRow q 5 1 (.slice (some ⟨q, 0, none⟩) P P) P (c8 (depW ws)) ∧ Lies wr (w.heap.size + 1) 27 zs ∧ Below w.heap.size w wr)
     (fun _ c _ => 256 - (intOf c).toNat)
    case atStart => exact ⟨0, by omega, rfl, rfl, by rw [List.take_zero]; show Lies _ _ _ (c8 ([] ++ List.replicate 256 0)).toArray; rw [List.nil_append, ← HZL.out]; exact LL.out, HOB.out, L1B.out, HBB.out⟩
    case round =>
     clear LL HOB L1B HBB L0B
     obtain ⟨i, hi, rfl, rfl, ll, ho, l1, hb⟩ := hrel
     have LL := Lib.hid ll
     have HO := Lib.hid ho
     have L1 := Lib.hid l1
     have HB := Lib.hid hb
     clear ll ho l1 hb
     by_cases hlt : i < 256
     ·have hii : (i : Int) < 256 := by omega
      obtain ⟨m, hm, hml⟩ := H.out.get hlt
      have hix := HG.out i m hlt hm
      have hlp := lenP_take (ds := depW ws) hm
      have hls := lenP_snd (depW ws) _ (ws.take i) rfl
      have hlv := lvs_take hm
      have hmono := lvs_mono' ws (256 - (i + 1)) (i + 1)
      have ht256 : ws.take 256 = ws := List.take_of_length_le (by rw [H.out.1]; exact Nat.le_refl _)
      rw [show i + 1 + (256 - (i + 1)) = 256 by omega, ht256, ← HNN.out] at hmono
      clear ht256
      have hl1 := lenP_length (depW ws) i (ws.take i) (by rw [List.length_take, H.out.1]; omega)
      obtain ⟨D1, hD1⟩ : ∃ D1, D1 = lvs (ws.take i) := ⟨_, rfl⟩
      rw [← hD1] at hls hlv ⊢
      by_cases hm0 : 0 < m
      ·have e1 : decide ((0 : Int) < (m : Int)) = true := by simp; omega
       have e2 : decide (0 < m) = true := by simpa using hm0
       have hlv2 : lvs (ws.take (i + 1)) = D1 ++ [(m, D1.length)] := by rw [hlv]; unfold lvF; rw [if_pos hm0]
       have hdl : D1.length < n := by rw [hlv2, List.length_append] at hmono; simp at hmono; omega
       have hdep : (depW ws).length = P := by rw [HDW.out, depA_length, HPP.out]
       obtain ⟨x, hx⟩ : ∃ x, (depW ws)[D1.length]? = some x := ⟨_, List.getElem?_eq_getElem (by omega)⟩
       have cx := owns_cell HO.out (c8_get hx)
       have hset := LL.out.putL' i (.int .u8 (x : Int))
       have hnx : (c8 ((lenP (depW ws) (ws.take i)).1 ++ List.replicate (256 - i) 0)).set i (.int .u8 (x : Int)) = c8 ((lenP (depW ws) (ws.take (i + 1))).1 ++ List.replicate (256 - (i + 1)) 0) := by
        rw [c8_set, hlp]
        unfold lenF
        rw [if_pos hm0, hls, List.getD_eq_getElem?_getD, hx, List.set_append_right _ _ (by omega), hl1, Nat.sub_self, show 256 - i = 256 - (i + 1) + 1 by omega, List.replicate_succ, List.set_cons_zero, List.append_assoc]
        rfl
       rw [hnx] at hset
       have hcz : wr.cell? ⟨gl, i, none⟩ = some (.int .u8 0) := (LL.out.cell i).trans (by
        rw [List.getElem?_toArray]
        have e0 : (c8 ((lenP (depW ws) (ws.take i)).1 ++ List.replicate (256 - i) 0))[i]? = some (.int .u8 ((0 : Nat) : Int)) := c8_get (by rw [List.getElem?_append_right (by omega), hl1, Nat.sub_self, List.getElem?_replicate, if_pos (by omega)])
        exact e0)
       have hfz := LL.out.free i
       have HSET := Lib.hid hset
       have HOS := Lib.hid (owns_put HO.out LL.out (by decide) i (.int .u8 (x : Int)))
       have L1S := Lib.hid (L1.out.far (p := ⟨gl, i, none⟩) (by show w.heap.size + 1 ≠ gl; omega) (.int .u8 (x : Int)))
       have HBS := Lib.hid (HB.out.setCell (p := ⟨gl, i, none⟩) (by show w.heap.size ≤ gl; omega) (.int .u8 (x : Int)))
       obtain ⟨d, hd⟩ : ∃ d, d = D1.length := ⟨_, rfl⟩
       rw [← hd] at hdl cx hlv2 ⊢
       have hdP : (d : Int) < (P : Int) := by have := HPN.out; omega
       have hl2 : (lvs (ws.take (i + 1))).length = d + 1 := by rw [hlv2, List.length_append, ← hd]; rfl
       have HL2 := Lib.hid hl2
       clear hset hnx hm hx hlp hls hlv hmono hl1 hm0 hlv2 hd hdep hl2 hD1
       go_wp2_with fail
       go_roundw
       case rel => exact ⟨i + 1, by omega, by go_num, by rw [HL2.out]; go_num, HSET.out, HOS.out, L1S.out, HBS.out⟩
       case measure => simp [intOf]; omega
      ·have e1 : decide ((0 : Int) < (m : Int)) = false := by simp; omega
       have e2 : decide (0 < m) = false := by simpa using hm0
       have hlv2 : lvs (ws.take (i + 1)) = D1 := by rw [hlv]; unfold lvF; rw [if_neg hm0]
       have hnx : (lenP (depW ws) (ws.take i)).1 ++ List.replicate (256 - i) 0 = (lenP (depW ws) (ws.take (i + 1))).1 ++ List.replicate (256 - (i + 1)) 0 := by
        rw [hlp]
        unfold lenF
        rw [if_neg hm0, show 256 - i = 256 - (i + 1) + 1 by omega, List.replicate_succ, List.append_assoc]
        rfl
       have HNX := Lib.hid hnx
       have HL2 := Lib.hid hlv2
       clear hnx hm hlp hls hlv hmono hl1 hm0 hlv2
       obtain ⟨d, hd⟩ : ∃ d, d = D1.length := ⟨_, rfl⟩
       rw [← hd]
       have HDD := Lib.hid hd
       clear hd
       go_wp2_with fail
       go_roundw
       case rel => exact ⟨i + 1, by omega, by go_num, by rw [HL2.out, ← HDD.out], by rw [← HNX.out]; exact LL.out, HO.out, L1.out, HB.out⟩
       case measure => simp [intOf]; omega
     ·obtain rfl : i = 256 := by omega
      have LF := LL.out
      rw [Nat.sub_self, List.replicate_zero, List.append_nil, List.take_of_length_le (l := ws) (by rw [H.out.1]; exact Nat.le_refl _), ← HLW.out] at LF
      obtain ⟨T, hT⟩ : ∃ T, T = c8 (lensW ws) := ⟨_, rfl⟩
      have hTl : T.length = 256 := by rw [hT, c8_length, lensW_length _ H.out.1]
      have hone : T.toArray.all (·.oneCell') = true := by rw [hT]; exact c8_one _
      rw [← hT] at LF
      have HT := Lib.hid hT
      have hr := Lib.hid (arr_range LF)
      have ht := Lib.hid (arr_there L1.out (n := T.toArray.size) (HZN.out.trans (by rw [List.size_toArray, hTl])))
      have hst := Lib.hid (arr_store L1.out (L := T) (HZN.out.trans hTl.symm))
      have hi1 : (Try.prog.info? 27).map (·.size) = some T.length := by rw [hTl]; exact info8
      have hi2 : (Try.prog.info? 27).map (·.size) = some T.toArray.size := by rw [List.size_toArray, hTl]; exact info8
      have HI2 := Lib.hid hi1
      have HI3 := Lib.hid hi2
      have HONE := Lib.hid hone
      have hbz := Lib.hid (below_cellsA (Nat.le_succ w.heap.size) T 0 wr HB.out)
      clear hT hone hi1 hi2 LF
      go_wp2_with (first | refine wpList_load_mid rfl 27 _ rfl gl 0 rfl T _ hr.out under8 rfl HI2.out ?_ | refine wpList_store_mid rfl 27 _ _ rfl (w.heap.size + 1) 0 T.toArray rfl rfl ht.out HI3.out HONE.out ?_)
      refine bodyPost_ret (v := .agg T.toArray) (results_cell_arr Try.results12 _ _ (w.heap.size + 1) T _ rfl (arr_range hst.out) under8 rfl HI2.out) rfl ⟨by rw [HT.out], hbz.out⟩
   ·have e3 : ((n : Int) == 1) = false := by simp; omega
    have e4 : (n == 1) = false := by simpa using h1
    have hdw : depN (parW ws) k = depW ws := by rw [HDW.out, ← HNN.out]; unfold depA; rw [if_neg h1, ← HPP.out, HKP.out]
    have hset := HO.out
    rw [hdw] at hset
    have HOD := Lib.hid hset
    have LA0 := L0
    have LA1 := L1
    have HBA := HB
    have hqzA := hqz
    clear hset hdw h1 hkP HO HP L0 L1 HB hqz
    have hWz : (wr).heap.size = wr.heap.size := by simp
    have ll := Lies.made wr 27 zs
    have L0B := Lib.hid (LA0.out.alloc (.cells zs 27))
    have L1B := Lib.hid (LA1.out.alloc (.cells zs 27))
    have HOB := Lib.hid (HOD.out.alloc (.cells zs 27))
    have HBB := Lib.hid (HBA.out.alloc (by rw [hWz]; exact hbz) (.cells zs 27))
    have HR0 := Lib.hid (arr_range L0B.out)
    have hz8 := hz
    obtain ⟨gl, hgl⟩ : ∃ gl, gl = wr.heap.size := ⟨_, rfl⟩
    rw [hWz, ← hgl] at ll
    rw [← hgl] at hbz hqzA
    clear hWz
    have LL := Lib.hid ll
    have HGL := Lib.hid hgl
    clear ll
    go_wp2_with (refine wpList_load_mid rfl 25 _ rfl w.heap.size 0 rfl L _ HR0.out under64 rfl HI1.out ?_)
    rw [← HGL.out]
    clear HR0 hz8 HGL hgl
    generalize (wr).alloc (.cells zs 27) = wB at *
    go_loopw [8, 42] (fun nx c wr => ∃ i : Nat, i ≤ 256 ∧ c = .int .i64 i ∧ nx = .int .i64 ((lvs (ws.take i)).length : Nat) ∧ Lies wr gl 27 (c8 ((lenP (depW ws) (ws.take i)).1 ++ List.replicate (256 - i) 0)).toArray ∧
      wr.ownsRow q 5 1 (.slice (some ⟨q, 0, none⟩) P P) P (c8 (depW ws)) ∧ Lies wr (w.heap.size + 1) 27 zs ∧ Below w.heap.size w wr)
     (fun _ c _ => 256 - (intOf c).toNat)
    case atStart => exact ⟨0, by omega, rfl, rfl, by rw [List.take_zero]; show Lies _ _ _ (c8 ([] ++ List.replicate 256 0)).toArray; rw [List.nil_append, ← HZL.out]; exact LL.out, HOB.out, L1B.out, HBB.out⟩
    case round =>
     clear LL HOB L1B HBB L0B
     obtain ⟨i, hi, rfl, rfl, ll, ho, l1, hb⟩ := hrel
     have LL := Lib.hid ll
     have HO := Lib.hid ho
     have L1 := Lib.hid l1
     have HB := Lib.hid hb
     clear ll ho l1 hb
     by_cases hlt : i < 256
     ·have hii : (i : Int) < 256 := by omega
      obtain ⟨m, hm, hml⟩ := H.out.get hlt
      have hix := HG.out i m hlt hm
      have hlp := lenP_take (ds := depW ws) hm
      have hls := lenP_snd (depW ws) _ (ws.take i) rfl
      have hlv := lvs_take hm
      have hmono := lvs_mono' ws (256 - (i + 1)) (i + 1)
      have ht256 : ws.take 256 = ws := List.take_of_length_le (by rw [H.out.1]; exact Nat.le_refl _)
      rw [show i + 1 + (256 - (i + 1)) = 256 by omega, ht256, ← HNN.out] at hmono
      clear ht256
      have hl1 := lenP_length (depW ws) i (ws.take i) (by rw [List.length_take, H.out.1]; omega)
      obtain ⟨D1, hD1⟩ : ∃ D1, D1 = lvs (ws.take i) := ⟨_, rfl⟩
      rw [← hD1] at hls hlv ⊢
      by_cases hm0 : 0 < m
      ·have e1 : decide ((0 : Int) < (m : Int)) = true := by simp; omega
       have e2 : decide (0 < m) = true := by simpa using hm0
       have hlv2 : lvs (ws.take (i + 1)) = D1 ++ [(m, D1.length)] := by rw [hlv]; unfold lvF; rw [if_pos hm0]
       have hdl : D1.length < n := by rw [hlv2, List.length_append] at hmono; simp at hmono; omega
       have hdep : (depW ws).length = P := by rw [HDW.out, depA_length, HPP.out]
       obtain ⟨x, hx⟩ : ∃ x, (depW ws)[D1.length]? = some x := ⟨_, List.getElem?_eq_getElem (by omega)⟩
       have cx := owns_cell HO.out (c8_get hx)
       have hset := LL.out.putL' i (.int .u8 (x : Int))
       have hnx : (c8 ((lenP (depW ws) (ws.take i)).1 ++ List.replicate (256 - i) 0)).set i (.int .u8 (x : Int)) = c8 ((lenP (depW ws) (ws.take (i + 1))).1 ++ List.replicate (256 - (i + 1)) 0) := by
        rw [c8_set, hlp]
        unfold lenF
        rw [if_pos hm0, hls, List.getD_eq_getElem?_getD, hx, List.set_append_right _ _ (by omega), hl1, Nat.sub_self, show 256 - i = 256 - (i + 1) + 1 by omega, List.replicate_succ, List.set_cons_zero, List.append_assoc]
        rfl
       rw [hnx] at hset
       have hcz : wr.cell? ⟨gl, i, none⟩ = some (.int .u8 0) := (LL.out.cell i).trans (by
        rw [List.getElem?_toArray]
        have e0 : (c8 ((lenP (depW ws) (ws.take i)).1 ++ List.replicate (256 - i) 0))[i]? = some (.int .u8 ((0 : Nat) : Int)) := c8_get (by rw [List.getElem?_append_right (by omega), hl1, Nat.sub_self, List.getElem?_replicate, if_pos (by omega)])
        exact e0)
       have hfz := LL.out.free i
       have HSET := Lib.hid hset
       have HOS := Lib.hid (owns_put HO.out LL.out (by decide) i (.int .u8 (x : Int)))
       have L1S := Lib.hid (L1.out.far (p := ⟨gl, i, none⟩) (by show w.heap.size + 1 ≠ gl; omega) (.int .u8 (x : Int)))
       have HBS := Lib.hid (HB.out.setCell (p := ⟨gl, i, none⟩) (by show w.heap.size ≤ gl; omega) (.int .u8 (x : Int)))
       obtain ⟨d, hd⟩ : ∃ d, d = D1.length := ⟨_, rfl⟩
       rw [← hd] at hdl cx hlv2 ⊢
       have hdP : (d : Int) < (P : Int) := by have := HPN.out; omega
       have hl2 : (lvs (ws.take (i + 1))).length = d + 1 := by rw [hlv2, List.length_append, ← hd]; rfl
       have HL2 := Lib.hid hl2
       clear hset hnx hm hx hlp hls hlv hmono hl1 hm0 hlv2 hd hdep hl2 hD1
       go_wp2_with fail
       go_roundw
       case rel => exact ⟨i + 1, by omega, by go_num, by rw [HL2.out]; go_num, HSET.out, HOS.out, L1S.out, HBS.out⟩
       case measure => simp [intOf]; omega
      ·have e1 : decide ((0 : Int) < (m : Int)) = false := by simp; omega
       have e2 : decide (0 < m) = false := by simpa using hm0
       have hlv2 : lvs (ws.take (i + 1)) = D1 := by rw [hlv]; unfold lvF; rw [if_neg hm0]
       have hnx : (lenP (depW ws) (ws.take i)).1 ++ List.replicate (256 - i) 0 = (lenP (depW ws) (ws.take (i + 1))).1 ++ List.replicate (256 - (i + 1)) 0 := by
        rw [hlp]
        unfold lenF
        rw [if_neg hm0, show 256 - i = 256 - (i + 1) + 1 by omega, List.replicate_succ, List.append_assoc]
        rfl
       have HNX := Lib.hid hnx
       have HL2 := Lib.hid hlv2
       clear hnx hm hlp hls hlv hmono hl1 hm0 hlv2
       obtain ⟨d, hd⟩ : ∃ d, d = D1.length := ⟨_, rfl⟩
       rw [← hd]
       have HDD := Lib.hid hd
       clear hd
       go_wp2_with fail
       go_roundw
       case rel => exact ⟨i + 1, by omega, by go_num, by rw [HL2.out, ← HDD.out], by rw [← HNX.out]; exact LL.out, HO.out, L1.out, HB.out⟩
       case measure => simp [intOf]; omega
     ·obtain rfl : i = 256 := by omega
      have LF := LL.out
      rw [Nat.sub_self, List.replicate_zero, List.append_nil, List.take_of_length_le (l := ws) (by rw [H.out.1]; exact Nat.le_refl _), ← HLW.out] at LF
      obtain ⟨T, hT⟩ : ∃ T, T = c8 (lensW ws) := ⟨_, rfl⟩
      have hTl : T.length = 256 := by rw [hT, c8_length, lensW_length _ H.out.1]
      have hone : T.toArray.all (·.oneCell') = true := by rw [hT]; exact c8_one _
      rw [← hT] at LF
      have HT := Lib.hid hT
      have hr := Lib.hid (arr_range LF)
      have ht := Lib.hid (arr_there L1.out (n := T.toArray.size) (HZN.out.trans (by rw [List.size_toArray, hTl])))
      have hst := Lib.hid (arr_store L1.out (L := T) (HZN.out.trans hTl.symm))
      have hi1 : (Try.prog.info? 27).map (·.size) = some T.length := by rw [hTl]; exact info8
      have hi2 : (Try.prog.info? 27).map (·.size) = some T.toArray.size := by rw [List.size_toArray, hTl]; exact info8
      have HI2 := Lib.hid hi1
      have HI3 := Lib.hid hi2
      have HONE := Lib.hid hone
      have hbz := Lib.hid (below_cellsA (Nat.le_succ w.heap.size) T 0 wr HB.out)
      clear hT hone hi1 hi2 LF
      go_wp2_with (first | refine wpList_load_mid rfl 27 _ rfl gl 0 rfl T _ hr.out under8 rfl HI2.out ?_ | refine wpList_store_mid rfl 27 _ _ rfl (w.heap.size + 1) 0 T.toArray rfl rfl ht.out HI3.out HONE.out ?_)
      refine bodyPost_ret (v := .agg T.toArray) (results_cell_arr Try.results12 _ _ (w.heap.size + 1) T _ rfl (arr_range hst.out) under8 rfl HI2.out) rfl ⟨by rw [HT.out], hbz.out⟩
theorem zeroBk : ∀ w : World, (zeroValue 58).run Try.prog w = .ok (.agg (Array.replicate 57 (.int .i64 0) ++ #[.slice none 0 0])) w := fun w => by kernel_rfl
theorem infoBk : (Try.prog.info? 58).map (·.size) = some 58 := by kernel_rfl
def bkC (cs : List Nat) (v : Value) : List Value := cI cs ++ [v]
theorem cI_set (l : List Nat) (i n : Nat) : (cI l).set i (.int .i64 (n : Int)) = cI (l.set i n) := by simp [cI, List.map_set]
theorem bkC_get {cs : List Nat} {v : Value} {k n : Nat} (h : cs[k]? = some n) : (bkC cs v)[k]? = some (.int .i64 (n : Int)) := by
 unfold bkC; rw [List.getElem?_append_left (by rw [cI_length]; exact (List.getElem?_eq_some_iff.1 h).1), cI_get h]
theorem bkC_set {cs : List Nat} {v : Value} {k n : Nat} (h : k < cs.length) : (bkC cs v).set k (.int .i64 (n : Int)) = bkC (cs.set k n) v := by
 unfold bkC; rw [List.set_append_left _ _ (by rw [cI_length]; exact h), cI_set]
theorem bkC_last {cs : List Nat} {v : Value} (h : cs.length = 57) : (bkC cs v)[57]? = some v := by
 unfold bkC; rw [List.getElem?_append_right (by rw [cI_length]; omega), cI_length, h]; rfl
theorem bkC_setv {cs : List Nat} {v u : Value} (h : cs.length = 57) : (bkC cs v).set 57 u = bkC cs u := by
 unfold bkC; rw [List.set_append_right _ _ (by rw [cI_length]; omega), cI_length, h]; rfl
theorem bkC_length {cs : List Nat} {v : Value} (h : cs.length = 57) : (bkC cs v).length = 58 := by unfold bkC; rw [List.length_append, cI_length, h]; rfl
theorem cnA_length (ls : List Nat) (b : Nat) : (cnA ls b).length = 57 := by simp [cnA]
theorem cnA_zero (ls : List Nat) : cnA ls 0 = List.replicate 57 0 := by
 have : cnA ls 0 = (List.range 57).map fun _ => 0 := mapR_ext fun i _ => by rw [ct_zero]; split <;> rfl
 rw [this, List.map_const', List.length_range]
theorem nxB_zero (ls : List Nat) : nxB ls 1 = List.replicate 57 0 := by
 have : nxB ls 1 = (List.range 57).map fun _ => 0 := mapR_ext fun i _ => by
  by_cases h : i ≤ 1
  ·rw [if_pos h]
   have : i = 0 ∨ i = 1 := by omega
   rcases this with rfl | rfl <;> rfl
  ·rw [if_neg h]
 rw [this, List.map_const', List.length_range]
theorem ls_cnt (ls : List Nat) (hl : ls.length = 256) (k : Nat) : ls.count k ≤ 256 := by rw [← hl]; exact List.count_le_length
theorem pre_le_all {ls : List Nat} (h : LOk ls) {k : Nat} (hk : k ≤ 57) : pre ls k ≤ 256 := by
 have h1 := sum_counts ls 57 (fun x hx => by have := h.2 x hx; omega)
 have h2 := pre_le ls hk
 have := h.1
 omega
theorem kept_cellsH {g : Nat} : ∀ (vs : List Value) (o : Nat) (w : World), Kept (oneRow g) w (w.setCells g o vs)
 | [], o, w => Kept.refl _ _
 | v :: vs, o, w => (Kept.put w g o v).trans (kept_cellsH vs (o + 1) _) (fun _ _ h => h)
set_option maxHeartbeats 2000000 in
set_option maxRecDepth 100000 in
theorem huffNewBook (ls : List Nat) (w : World) (h : LOk ls) :
  Calls Try.prog 27 #[.agg (c8 ls).toArray] w fun e w' => ∃ v bs, e = .returned (.agg (bkC (cnA ls 256) v).toArray) ∧ w'.ownsRow w.heap.size 5 1 v bs.length (c8 bs) ∧ BkOk ls bs 256 ∧ Below w.heap.size w w' := by
 have hg := ix8 ls .i64
 have hlen : (c8 ls).length = 256 := by rw [c8_length]; exact h.1
 obtain ⟨L, hL⟩ : ∃ L, L = c8 ls := ⟨_, rfl⟩
 rw [← hL] at hg hlen ⊢
 have hi1 : (Try.prog.info? 27).map (·.size) = some L.length := by rw [hlen]; exact info8
 have HG := Lib.hid hg
 have H := Lib.hid h
 have HI1 := Lib.hid hi1
 obtain ⟨zb, hzb⟩ : ∃ zb : Array Value, zb = Array.replicate 57 (.int .i64 0) ++ #[.slice none 0 0] := ⟨_, rfl⟩
 have hz := zeroBk
 rw [← hzb] at hz
 have hzl : zb = (bkC (cnA ls 0) (.slice none 0 0)).toArray := by
  rw [hzb, cnA_zero]; unfold bkC cI; rw [List.map_replicate, ← List.toArray_replicate, ← List.toArray_appendList]; rfl
 obtain ⟨zi, hzi⟩ : ∃ zi : Array Value, zi = Array.replicate 57 (.int .i64 0) := ⟨_, rfl⟩
 have hy := zeroI
 rw [← hzi] at hy
 have hyl : zi = (cI (nxB ls 1)).toArray := by rw [hzi, nxB_zero]; unfold cI; rw [List.map_replicate]; exact (List.toArray_replicate 57 _).symm
 have HZL := Lib.hid hzl
 have HYL := Lib.hid hyl
 clear hg h hL hi1 hzb hzl hzi hyl
 have l0 := ((Lies.made w 27 L.toArray).alloc (.cells zb 58)).alloc (.cells zb 58)
 have l1 := (Lies.made (w.alloc (.cells L.toArray 27)) 58 zb).alloc (.cells zb 58)
 have l2 := Lies.made ((w.alloc (.cells L.toArray 27)).alloc (.cells zb 58)) 58 zb
 rw [show (w.alloc (.cells L.toArray 27)).heap.size = w.heap.size + 1 by simp] at l1
 rw [show ((w.alloc (.cells L.toArray 27)).alloc (.cells zb 58)).heap.size = w.heap.size + 1 + 1 by simp] at l2
 have hb1 := (((Below.refl w.heap.size w).alloc (Nat.le_refl _) (.cells L.toArray 27)).alloc (by simp) (.cells zb 58)).alloc (by simp; omega) (.cells zb 58)
 have hsz : (((w.alloc (.cells L.toArray 27)).alloc (.cells zb 58)).alloc (.cells zb 58)).heap.size = w.heap.size + 3 := by simp
 have L0 := Lib.hid l0
 have L1 := Lib.hid l1
 have L2 := Lib.hid l2
 have HB1 := Lib.hid hb1
 have HR0 := Lib.hid (arr_range l0)
 have HSZ := Lib.hid hsz
 clear l0 l1 l2 hb1 hsz
 go_enter Try.func27, Try.ntmps27
 go_wp2_with (refine wpList_load_mid rfl 27 _ rfl w.heap.size 0 rfl L _ HR0.out under8 rfl HI1.out ?_)
 clear HR0
 generalize ((w.alloc (.cells L.toArray 27)).alloc (.cells zb 58)).alloc (.cells zb 58) = w1 at *
 go_loopw [4, 12] (fun co c wr => ∃ i : Nat, i ≤ 256 ∧ c = .int .i64 i ∧ co = .int .i64 (cod ls i : Nat) ∧ Lies wr (w.heap.size + 1 + 1) 58 (bkC (cnA ls i) (.slice none 0 0)).toArray ∧ Kept (oneRow (w.heap.size + 1 + 1)) w1 wr)
  (fun _ c _ => 256 - (intOf c).toNat)
 case atStart => exact ⟨0, by omega, rfl, rfl, by rw [← HZL.out]; exact L2.out, Kept.refl _ _⟩
 case round =>
  obtain ⟨i, hi, rfl, rfl, lb, hk⟩ := hrel
  have hc0 := ct_le_b ls 0 i
  have LB := Lib.hid lb
  have HK := Lib.hid hk
  clear lb hk
  by_cases hlt : i < 256
  ·have hii : (i : Int) < 256 := by omega
   obtain ⟨n, hn, hn56⟩ := H.out.get hlt
   have hix := HG.out i n hlt hn
   have HC : Hid (cod ls (i + 1) = cod ls i + if n = 0 then 0 else 1) := cod_step hn hc0
   have hcl : cod ls i ≤ 256 := by unfold cod; omega
   generalize cod ls i = co at *
   by_cases h0 : n = 0
   ·subst h0
    have HC2 : Hid (cod ls (i + 1) = co) := by show _ = _; rw [HC.out, if_pos rfl]; rfl
    have HCN := Lib.hid (cnA_same hn)
    clear HC hn
    go_wp2_with fail
    go_roundw
    case rel => exact ⟨i + 1, by omega, by go_num, by rw [HC2.out], by rw [HCN.out]; exact LB.out, HK.out⟩
    case measure => simp [intOf]; omega
   ·have e1 : decide ((0 : Int) < (n : Int)) = true := by simp; omega
    have e2 : decide (0 < n) = true := by simp; omega
    have HC2 : Hid (cod ls (i + 1) = co + 1) := by show _ = _; rw [HC.out, if_neg h0]
    have hgc : (cnA ls i)[n]? = some (ct ls n i) := by
     have := mapR_get (n := 57) (fun k => if k = 0 then 0 else ct ls k i) (i := n) (by omega)
     rw [if_neg h0] at this
     exact this
    have hctl := ct_le_b ls n i
    have hcell : wr.cell? ⟨w.heap.size + 1 + 1, n, none⟩ = some (.int .i64 ((ct ls n i : Nat) : Int)) := (LB.out.cell n).trans (by rw [List.getElem?_toArray]; exact bkC_get hgc)
    have hfree := LB.out.free n
    have hput := LB.out.putL' n (.int .i64 ((ct ls n i + 1 : Nat) : Int))
    rw [bkC_set (by rw [cnA_length]; omega), cnA_step hn (by omega) hn56] at hput
    have HPUT := Lib.hid hput
    have HKP := Lib.hid (HK.out.trans (Kept.put wr (w.heap.size + 1 + 1) n (.int .i64 ((ct ls n i + 1 : Nat) : Int))) (fun _ _ h => h))
    have hni : (n : Int) < 57 := by omega
    clear HC hn hput hgc h0
    generalize ct ls n i = m at *
    go_wp2_with fail
    go_roundw
    case rel => exact ⟨i + 1, by omega, by go_num, by rw [HC2.out]; go_num, HPUT.out, HKP.out⟩
    case measure => simp [intOf]; omega
  ·obtain rfl : i = 256 := by omega
   have hwz : w.heap.size + 3 ≤ wr.heap.size := by have := HK.out.size; rw [HSZ.out] at this; exact this
   have L0B := Lib.hid ((L0.out.kept HK.out (fun e => by have h1 : w.heap.size = w.heap.size + 1 + 1 := e; omega)).alloc (.cells zi 56))
   have L1B := Lib.hid ((L1.out.kept HK.out (fun e => by have h1 : w.heap.size + 1 = w.heap.size + 1 + 1 := e; omega)).alloc (.cells zi 56))
   have L2B := Lib.hid (LB.out.alloc (.cells zi 56))
   have LNB := Lib.hid (Lies.made wr 56 zi)
   have hbB := HB1.out.trans (HK.out.below (B := w.heap.size) (by rw [HSZ.out]; omega) (fun k hk e => by have h1 : k = w.heap.size + 1 + 1 := e; omega))
   have HBB := Lib.hid (hbB.alloc (by omega) (.cells zi 56))
   have hsB : (wr.alloc (.cells zi 56)).heap.size = wr.heap.size + 1 := by simp
   obtain ⟨gn, hgn⟩ : ∃ gn, gn = wr.heap.size := ⟨_, rfl⟩
   rw [← hgn] at LNB hsB hwz
   have hcl : cod ls 256 ≤ 256 := by unfold cod; omega
   clear hbB LB HK L0 L1 L2 HB1 HSZ hc0
   have hgn2 := hgn
   go_wp2_with fail
   rw [← hgn2]
   clear hgn hgn2
   generalize wr.alloc (.cells zi 56) = wB at *
   go_loopw [8] (fun t wr => ∃ m : Nat, 1 ≤ m ∧ m ≤ 56 ∧ t = .int .i64 m ∧ Lies wr gn 56 (cI (nxB ls m)).toArray ∧ Kept (oneRow gn) wB wr)
    (fun t _ => 56 - (intOf t).toNat)
   case atStart => exact ⟨1, by omega, by omega, rfl, by rw [← HYL.out]; exact LNB.out, Kept.refl _ _⟩
   case round =>
    clear LNB
    obtain ⟨m, hm1, hm, rfl, ln, hk⟩ := hrel
    have LN := Lib.hid ln
    have HK := Lib.hid hk
    have l2 := L2B.out.kept hk (fun e => by have h1 : w.heap.size + 1 + 1 = gn := e; omega)
    have L2 := Lib.hid l2
    clear ln hk l2
    by_cases hlt : m < 56
    ·have hmi : (m : Int) < 56 := by omega
     have hp1 := pre_le_all H.out (k := m) (by omega)
     have hct := ls_cnt ls H.out.1 m
     have hnx1 : (nxB ls m)[m]? = some (pre ls m) := by
      have := mapR_get (n := 57) (fun k => if k ≤ m then pre ls k else 0) (i := m) (by omega)
      rw [if_pos (Nat.le_refl _)] at this
      exact this
     have hnx2 : (nxB ls m)[m + 1]? = some 0 := by
      have := mapR_get (n := 57) (fun k => if k ≤ m then pre ls k else 0) (i := m + 1) (by omega)
      rw [if_neg (by omega)] at this
      exact this
     have hcn : (cnA ls 256)[m]? = some (ls.count m) := by
      have := mapR_get (n := 57) (fun k => if k = 0 then 0 else ct ls k 256) (i := m) (by omega)
      rw [if_neg (by omega), ct_all ls m 256 (by rw [H.out.1]; exact Nat.le_refl _)] at this
      exact this
     have k1 : wr.cell? ⟨gn, m, none⟩ = some (.int .i64 ((pre ls m : Nat) : Int)) := (LN.out.cell m).trans (by rw [List.getElem?_toArray]; exact cI_get hnx1)
     have k2 : wr.cell? ⟨gn, m + 1, none⟩ = some (.int .i64 ((0 : Nat) : Int)) := (LN.out.cell (m + 1)).trans (by rw [List.getElem?_toArray]; exact cI_get hnx2)
     have k3 : wr.cell? ⟨w.heap.size + 1 + 1, m, none⟩ = some (.int .i64 ((ls.count m : Nat) : Int)) := (L2.out.cell m).trans (by rw [List.getElem?_toArray]; exact bkC_get hcn)
     have hfree := LN.out.free (m + 1)
     have hput := LN.out.putL' (m + 1) (.int .i64 ((pre ls m + ls.count m : Nat) : Int))
     have hpr : pre ls (m + 1) = pre ls m + ls.count m := by rw [pre, if_neg (by omega)]
     rw [cI_set, ← hpr, nxB_step ls m (by omega), hpr] at hput
     have HPUT := Lib.hid hput
     have HKP := Lib.hid (HK.out.trans (Kept.put wr gn (m + 1) (.int .i64 ((pre ls m + ls.count m : Nat) : Int))) (fun _ _ h => h))
     have hmi2 : (m : Int) < 57 := by omega
     have hmi3 : (m : Int) + 1 < 57 := by omega
     clear hput hpr hnx1 hnx2 hcn
     generalize pre ls m = p at *
     generalize ls.count m = q at *
     go_wp2_with fail
     go_region
     all_goals (
      go_wp2_with fail
      go_roundw
      case rel => exact ⟨m + 1, by omega, by omega, by go_num, HPUT.out, HKP.out.trans (Kept.drewN (oneRow gn) _ 1) (fun _ _ h => h)⟩
      case measure => simp [intOf]; omega)
    ·obtain rfl : m = 56 := by omega
     have hln := LN.out
     rw [nxB_end] at hln
     have hwz2 : wB.heap.size ≤ wr.heap.size := HK.out.size
     have L0 := Lib.hid (L0B.out.kept HK.out (fun e => by have h1 : w.heap.size = gn := e; omega))
     have L1 := Lib.hid (L1B.out.kept HK.out (fun e => by have h1 : w.heap.size + 1 = gn := e; omega))
     have hbr := HBB.out.trans (HK.out.below (B := w.heap.size) (by omega) (fun k hk e => by have h1 : k = gn := e; omega))
     obtain ⟨C, hC⟩ : ∃ C, C = cod ls 256 := ⟨_, rfl⟩
     rw [← hC] at hcl ⊢
     have HCC := Lib.hid hC
     have hmk := run_make_row' (P := Try.prog) 30 5 (.int .u8 0) 1 Try.underlying30 Try.infoU8 rfl .i64 .i64 C (by omega) (by omega) wr
     have ho := owned_made wr 5 (.int .u8 0) rfl C (by unfold maxLen; omega)
     obtain ⟨gb, hgb⟩ : ∃ gb, gb = wr.heap.size := ⟨_, rfl⟩
     rw [← hgb] at hmk ho hwz2
     have hsz5 : (wr.alloc (.cells (madeCells #[Value.int .u8 0] C) 5)).heap.size = gb + 1 := by simp [hgb]
     have LN5 := Lib.hid (hln.alloc (.cells (madeCells #[Value.int .u8 0] C) 5))
     have L05 := Lib.hid (L0.out.alloc (.cells (madeCells #[Value.int .u8 0] C) 5))
     have L15 := Lib.hid (L1.out.alloc (.cells (madeCells #[Value.int .u8 0] C) 5))
     have l25 := L2.out.alloc (.cells (madeCells #[Value.int .u8 0] C) 5)
     have HB5 := Lib.hid (hbr.alloc (by omega) (.cells (madeCells #[Value.int .u8 0] C) 5))
     have hO0 : List.replicate C (Value.int .u8 0) = c8 (List.replicate C 0) := by unfold c8; rw [List.map_replicate]; rfl
     rw [hO0] at ho
     have HO5 := Lib.hid ho
     have k57 : (wr.alloc (.cells (madeCells #[Value.int .u8 0] C) 5)).cell? ⟨w.heap.size + 1 + 1, 57, none⟩ = some (.slice none 0 0) := (l25.cell 57).trans (by rw [List.getElem?_toArray]; exact bkC_last (cnA_length ls 256))
     have f57 := l25.free 57
     have L25 := Lib.hid l25
     have hv57 := l25.putL' 57 (.slice (some ⟨gb, 0, none⟩) C C)
     rw [bkC_setv (cnA_length ls 256)] at hv57
     have L26 := Lib.hid hv57
     clear hln hbr hC ho hO0 l25 L0 L1 L2 LN HK hgb L0B L1B L2B HBB hz hy
     clear hv57
     have L06 := Lib.hid (L05.out.far (p := ⟨w.heap.size + 1 + 1, 57, none⟩) (by show w.heap.size ≠ w.heap.size + 1 + 1; omega) (.slice (some ⟨gb, 0, none⟩) C C))
     have L16 := Lib.hid (L15.out.far (p := ⟨w.heap.size + 1 + 1, 57, none⟩) (by show w.heap.size + 1 ≠ w.heap.size + 1 + 1; omega) (.slice (some ⟨gb, 0, none⟩) C C))
     have LN6 := Lib.hid (LN5.out.far (p := ⟨w.heap.size + 1 + 1, 57, none⟩) (by show gn ≠ w.heap.size + 1 + 1; omega) (.slice (some ⟨gb, 0, none⟩) C C))
     have HO6 := Lib.hid (owns_put HO5.out L25.out (by decide) 57 (.slice (some ⟨gb, 0, none⟩) C C))
     have HB6 := Lib.hid (HB5.out.setCell (p := ⟨w.heap.size + 1 + 1, 57, none⟩) (by show w.heap.size ≤ w.heap.size + 1 + 1; omega) (.slice (some ⟨gb, 0, none⟩) C C))
     have HR6 := Lib.hid (arr_range L06.out)
     clear L05 L15 LN5 HO5 HB5 L25
     go_wp2_with (refine wpList_load_mid rfl 27 _ rfl w.heap.size 0 rfl L _ HR6.out under8 rfl HI1.out ?_)
     clear HR6 k57 f57 hmk
     generalize (wr.alloc (.cells (madeCells #[Value.int .u8 0] C) 5)).setCell ⟨w.heap.size + 1 + 1, 57, none⟩ (Value.slice (some ⟨gb, 0, none⟩) C C) = w6 at *
     have HBK0 : Hid (BkOk ls (List.replicate C 0) 0) := ⟨by rw [List.length_replicate, HCC.out], fun i k hi => by omega⟩
     go_loopw [46] (fun c wr => ∃ (i : Nat) (bs : List Nat), i ≤ 256 ∧ c = .int .i64 i ∧ BkOk ls bs i ∧ wr.ownsRow gb 5 1 (.slice (some ⟨gb, 0, none⟩) C C) C (c8 bs) ∧ Lies wr gn 56 (cI (nxA ls i)).toArray ∧
       Lies wr (w.heap.size + 1 + 1) 58 (bkC (cnA ls 256) (.slice (some ⟨gb, 0, none⟩) C C)).toArray ∧ Lies wr (w.heap.size + 1) 58 zb ∧ Below w.heap.size w wr)
      (fun c _ => 256 - (intOf c).toNat)
     case atStart => exact ⟨0, _, by omega, rfl, HBK0.out, HO6.out, LN6.out, L26.out, L16.out, HB6.out⟩
     case round =>
      clear HO6 LN6 L26 L16 HB6 L06 HBK0
      obtain ⟨i, bs, hi, rfl, hbk, ho, ln, l2, l1, hb⟩ := hrel
      have HBK := Lib.hid hbk
      have HO := Lib.hid ho
      have LN := Lib.hid ln
      have L2 := Lib.hid l2
      have L1 := Lib.hid l1
      have HB := Lib.hid hb
      clear hbk ho ln l2 l1 hb
      by_cases hlt : i < 256
      ·have hii : (i : Int) < 256 := by omega
       obtain ⟨n, hn, hn56⟩ := H.out.get hlt
       have hix := HG.out i n hlt hn
       by_cases h0 : n = 0
       ·subst h0
        have HNX := Lib.hid (nxA_same hn)
        have HBK2 := Lib.hid (bkOk_same HBK.out hn)
        clear hn
        go_wp2_with fail
        go_roundw
        case rel => exact ⟨i + 1, _, by omega, by go_num, HBK2.out, HO.out, by rw [HNX.out]; exact LN.out, L2.out, L1.out, HB.out⟩
        case measure => simp [intOf]; omega
       ·have e1 : decide ((0 : Int) < (n : Int)) = true := by simp; omega
        have e2 : decide (0 < n) = true := by simp; omega
        have hroom := pre_room H.out.1 H.out.2 (show 0 < n by omega) hn
        rw [← HCC.out] at hroom
        have hgx : (nxA ls i)[n]? = some (pre ls n + ct ls n i) := by
         have := mapR_get (n := 57) (fun k => if k = 0 then 0 else pre ls k + ct ls k i) (i := n) (by omega)
         rw [if_neg h0] at this
         exact this
        have hbl : bs.length = C := by rw [HBK.out.1, HCC.out]
        have hst1 := bkOk_step HBK.out hn (by omega) (by rw [← HCC.out]; exact hroom)
        have hnx := nxA_step hn (by omega) hn56
        obtain ⟨d, hd⟩ : ∃ d, d = pre ls n + ct ls n i := ⟨_, rfl⟩
        rw [← hd] at hroom hgx hst1 hnx
        obtain ⟨z, hz⟩ : ∃ z, bs[d]? = some z := ⟨_, List.getElem?_eq_getElem (by omega)⟩
        have cn : wr.cell? ⟨gn, n, none⟩ = some (.int .i64 (d : Int)) := (LN.out.cell n).trans (by rw [List.getElem?_toArray]; exact cI_get hgx)
        have fn := LN.out.free n
        have cz := owns_cell HO.out (c8_get hz)
        have fz := owns_free HO.out (k := d) hroom
        have c57 : wr.cell? ⟨w.heap.size + 1 + 1, 57, none⟩ = some (.slice (some ⟨gb, 0, none⟩) C C) := (L2.out.cell 57).trans (by rw [List.getElem?_toArray]; exact bkC_last (cnA_length ls 256))
        have hset := owns_set (u := .int .u8 (i : Int)) HO.out (k := d) hroom
        rw [c8_set] at hset
        have LNa := lies_far (i := d) (u := .int .u8 (i : Int)) LN.out HO.out (by decide)
        have L2a := lies_far (i := d) (u := .int .u8 (i : Int)) L2.out HO.out (by decide)
        have L1a := lies_far (i := d) (u := .int .u8 (i : Int)) L1.out HO.out (by decide)
        have hba := HB.out.setCell (p := ⟨gb, d, none⟩) (by show w.heap.size ≤ gb; omega) (.int .u8 (i : Int))
        have HSA := Lib.hid hset
        have LNA := Lib.hid LNa
        have L2A := Lib.hid L2a
        have L1A := Lib.hid L1a
        have HBA := Lib.hid hba
        have HST1 := Lib.hid hst1
        have HNX := Lib.hid hnx
        have HGX := Lib.hid hgx
        have ei : IntKind.u8.wrap (i : Int) = (i : Int) := by rw [IntKind.wrap_u8]; omega
        have hdi : (d : Int) < (C : Int) := by omega
        have hni : (n : Int) < 57 := by omega
        clear hn hset LNa L2a L1a hba hst1 hnx hz hgx hd hbl h0
        go_wp2_with fail
        go_region
        all_goals (
         change Exit.then _ _ _ _ ((wr.setCell ⟨gb, d, none⟩ (.int .u8 (i : Int))).drewN 1)
         have c2 : ((wr.setCell ⟨gb, d, none⟩ (.int .u8 (i : Int))).drewN 1).cell? ⟨gn, n, none⟩ = some (.int .i64 (d : Int)) := (LNA.out.cell n).trans (by rw [List.getElem?_toArray]; exact cI_get HGX.out)
         have f2 : ((wr.setCell ⟨gb, d, none⟩ (.int .u8 (i : Int))).drewN 1).frozen? ⟨gn, n, none⟩ = false := LNA.out.free n
         have hput := LNA.out.putL' n (.int .i64 ((d + 1 : Nat) : Int))
         rw [cI_set, HNX.out] at hput
         have L2P := Lib.hid (L2A.out.far (p := ⟨gn, n, none⟩) (by show w.heap.size + 1 + 1 ≠ gn; omega) (.int .i64 ((d + 1 : Nat) : Int)))
         have L1P := Lib.hid (L1A.out.far (p := ⟨gn, n, none⟩) (by show w.heap.size + 1 ≠ gn; omega) (.int .i64 ((d + 1 : Nat) : Int)))
         have HOP := Lib.hid (owns_put HSA.out LNA.out (by decide) n (.int .i64 ((d + 1 : Nat) : Int)))
         have HBP := Lib.hid ((below_drewN HBA.out 1).setCell (p := ⟨gn, n, none⟩) (by show w.heap.size ≤ gn; omega) (.int .i64 ((d + 1 : Nat) : Int)))
         have LNP := Lib.hid hput
         change Hid (Lies (((wr.setCell ⟨gb, d, none⟩ (.int .u8 (i : Int))).drewN 1).setCell _ _) _ _ _) at LNP
         change Hid (Lies (((wr.setCell ⟨gb, d, none⟩ (.int .u8 (i : Int))).drewN 1).setCell _ _) _ _ _) at L2P
         change Hid (Lies (((wr.setCell ⟨gb, d, none⟩ (.int .u8 (i : Int))).drewN 1).setCell _ _) _ _ _) at L1P
         change Hid (World.ownsRow (((wr.setCell ⟨gb, d, none⟩ (.int .u8 (i : Int))).drewN 1).setCell _ _) _ _ _ _ _ _) at HOP
         clear LNA L2A L1A HSA HBA hput HGX HNX cn fn cz fz c57
         generalize (wr.setCell ⟨gb, d, none⟩ (.int .u8 (i : Int))).drewN 1 = wA at *
         go_wp2_with fail
         go_roundw
         case rel => exact ⟨i + 1, _, by omega, by go_num, HST1.out, HOP.out, LNP.out, L2P.out, L1P.out, HBP.out⟩
         case measure => simp [intOf]; omega)
      ·obtain rfl : i = 256 := by omega
       obtain ⟨T, hT⟩ : ∃ T, T = bkC (cnA ls 256) (.slice (some ⟨gb, 0, none⟩) C C) := ⟨_, rfl⟩
       have hTl : T.length = 58 := by rw [hT, bkC_length (cnA_length ls 256)]
       have hone : T.toArray.all (·.oneCell') = true := by
        rw [hT]
        refine all_oneCell_toArray (fun v hv => ?_)
        unfold bkC at hv
        rcases List.mem_append.1 hv with hv | hv
        ·obtain ⟨i, _, rfl⟩ := List.mem_map.1 hv; rfl
        ·rw [List.mem_singleton.1 hv]; rfl
       have l2 := L2.out
       rw [← hT] at l2
       have HT := Lib.hid hT
       have hzn : zb.size = 58 := by rw [HZL.out, List.size_toArray, bkC_length (cnA_length ls 0)]
       have hr := Lib.hid (arr_range l2)
       have ht := Lib.hid (arr_there L1.out (n := T.toArray.size) (hzn.trans (by rw [List.size_toArray, hTl])))
       have hst := Lib.hid (arr_store L1.out (L := T) (hzn.trans hTl.symm))
       have hks := Lib.hid (owns_kept HO.out (kept_cellsH T 0 wr (g := w.heap.size + 1)) (fun q cur hq _ hs => by
        have h1 : some gb = some q := hq
        have h2 : q = w.heap.size + 1 := hs
        have := Option.some.inj h1
        omega))
       have hi1 : (Try.prog.info? 58).map (·.size) = some T.length := by rw [hTl]; exact infoBk
       have hi2 : (Try.prog.info? 58).map (·.size) = some T.toArray.size := by rw [List.size_toArray, hTl]; exact infoBk
       have HI2 := Lib.hid hi1
       have HI3 := Lib.hid hi2
       have HONE := Lib.hid hone
       have hbz := Lib.hid (below_cellsA (Nat.le_succ w.heap.size) T 0 wr HB.out)
       clear hT hone hi1 hi2 l2
       go_wp2_with (first | refine wpList_load_mid rfl 58 _ rfl (w.heap.size + 1 + 1) 0 rfl T _ hr.out Try.underlying58 rfl HI2.out ?_ | refine wpList_store_mid rfl 58 _ _ rfl (w.heap.size + 1) 0 T.toArray rfl rfl ht.out HI3.out HONE.out ?_)
       refine bodyPost_ret (v := .agg T.toArray) (results_cell_arr Try.results27 _ _ (w.heap.size + 1) T _ rfl (arr_range hst.out) Try.underlying58 rfl HI2.out) rfl ⟨_, bs, by rw [HT.out], ?_, HBK.out, hbz.out⟩
       rw [HBK.out.1, ← HCC.out]
       exact owns_base hks.out (by omega)
end Go.Proofs.Ytakdpnlohknniaa
