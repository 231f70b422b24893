import Derived.Test.YtmadgdmiipgjoaaGreatZz3
namespace Go.Proofs.YtmadgdmiipgjoaaGreat
open Go.RowKit
set_option linter.unusedVariables false
set_option linter.unusedSimpArgs false
def depN (ps : List Nat) : Nat → List Nat
 | 0 => List.replicate ps.length 0
 | t + 1 => (depN ps t).set (ps.length - 2 - t) (((depN ps t).getD (ps.getD (ps.length - 2 - t) 0) 0 + 1) % 256)
theorem depN_length (ps : List Nat) : ∀ t, (depN ps t).length = ps.length
 | 0 => by simp [depN]
 | t + 1 => by rw [depN, List.length_set, depN_length ps t]
theorem depN_lt (ps : List Nat) : ∀ t, ∀ x ∈ depN ps t, x < 256
 | 0 => fun x hx => by rw [depN] at hx; have := List.eq_of_mem_replicate hx; omega
 | t + 1 => fun x hx => by
  rw [depN] at hx
  rcases List.mem_or_eq_of_mem_set hx with h | rfl
  ·exact depN_lt ps t x h
  ·exact Nat.mod_lt _ (by decide)
def depA (n : Nat) (ps : List Nat) : List Nat := if n = 1 then (depN ps (ps.length - 1)).set 0 1 else depN ps (ps.length - 1)
theorem depA_length (n : Nat) (ps : List Nat) : (depA n ps).length = ps.length := by unfold depA; split <;> simp [depN_length]
theorem depA_lt (n : Nat) (ps : List Nat) : ∀ x ∈ depA n ps, x < 256 := by
 unfold depA
 split
 ·intro x hx
  rcases List.mem_or_eq_of_mem_set hx with h | rfl
  ·exact depN_lt ps _ x h
  ·decide
 ·exact depN_lt ps _
def lenF (ds : List Nat) (acc : List Nat × Nat) (n : Nat) : List Nat × Nat := if 0 < n then (acc.1 ++ [ds.getD acc.2 0], acc.2 + 1) else (acc.1 ++ [0], acc.2)
def lenP (ds : List Nat) (ws : List Nat) : List Nat × Nat := ws.foldl (lenF ds) ([], 0)
theorem lenP_take {ds ws : List Nat} {i n : Nat} (h : ws[i]? = some n) : lenP ds (ws.take (i + 1)) = lenF ds (lenP ds (ws.take i)) n := by
 unfold lenP; rw [List.take_add_one, h, List.foldl_append]; rfl
theorem lenP_length (ds : List Nat) (n : Nat) : ∀ ws : List Nat, ws.length = n → (lenP ds ws).1.length = n := by
 induction n with
 | zero => intro ws h; rw [List.length_eq_zero_iff.1 h]; rfl
 | succ n ih =>
  intro ws h
  obtain ⟨ws', b, rfl⟩ : ∃ l b, ws = l ++ [b] := ⟨ws.dropLast, ws.getLast (by intro e; rw [e] at h; simp at h), (List.dropLast_concat_getLast _).symm⟩
  have h' : ws'.length = n := by simpa using h
  have := ih ws' h'
  unfold lenP at *
  rw [List.foldl_append]
  simp only [List.foldl_cons, List.foldl_nil, lenF]
  split <;> simp [this]
def Onward (ps : List Nat) (live : List N2) : Prop := ∀ i, i < ps.length → (∀ p ∈ live, p.2 ≠ i) → i < ps.getD i 0 ∧ ps.getD i 0 < ps.length
theorem getD_set (l : List Nat) (i k x : Nat) (hi : i < l.length) : (l.set i x).getD k 0 = if i = k then x else l.getD k 0 := by
 rw [List.getD_eq_getElem?_getD, List.getD_eq_getElem?_getD, List.getElem?_set]
 by_cases h : i = k
 ·subst h; simp [hi]
 ·simp [h]
theorem getD_append (l m : List Nat) (k : Nat) (h : k < l.length) : (l ++ m).getD k 0 = l.getD k 0 := by
 rw [List.getD_eq_getElem?_getD, List.getD_eq_getElem?_getD, List.getElem?_append_left h]
theorem getD_ps2 (ps : List Nat) (a b : N2) (ha : a.2 < ps.length) (hb : b.2 < ps.length) (k : Nat) (hk : k < ps.length) : (ps2 ps a b).getD k 0 = if b.2 = k then ps.length else if a.2 = k then ps.length else ps.getD k 0 := by
 unfold ps2
 rw [getD_append _ _ _ (by simp; omega), getD_set _ _ _ _ (by simp; omega), getD_set _ _ _ _ ha]
theorem onward_step {ps : List Nat} {a b : N2} {r : List N2} (h : Onward ps (a :: b :: r)) (ha : a.2 < ps.length) (hb : b.2 < ps.length) (x : Nat) : Onward (ps2 ps a b) (insL (x, ps.length) r) := by
 intro i hi hl
 rw [ps2_length] at hi ⊢
 have hne : i ≠ ps.length := fun e => hl (x, ps.length) ((insL_perm _ _).mem_iff.2 (by simp)) e.symm
 rw [getD_ps2 ps a b ha hb i (by omega)]
 by_cases h1 : b.2 = i
 ·rw [if_pos h1]; omega
 ·rw [if_neg h1]
  by_cases h2 : a.2 = i
  ·rw [if_pos h2]; omega
  ·rw [if_neg h2]
   have := h i (by omega) (fun p hp => by
    rcases List.mem_cons.1 hp with rfl | hp
    ·exact h2
    ·rcases List.mem_cons.1 hp with rfl | hp
     ·exact h1
     ·exact hl p ((insL_perm _ _).mem_iff.2 (List.mem_cons_of_mem _ hp)))
   omega
theorem mrgP_onward : ∀ (n : Nat) (s : List N2) (ps : List Nat), s.length = n → (∀ p ∈ s, p.2 < ps.length) → Onward ps s →
  ∀ i, i + 1 < (mrgP s ps).length ∨ (i < (mrgP s ps).length ∧ (s.length = 0)) → (∀ p ∈ s, s.length = 1 → p.2 + 1 = ps.length) → i < (mrgP s ps).getD i 0 ∧ (mrgP s ps).getD i 0 < (mrgP s ps).length
 | 0, s, ps, h, hn, ho, i, hi, _ => by
  rw [mrgP_end _ _ (by omega)] at hi ⊢
  have hs : s = [] := List.length_eq_zero_iff.1 h
  subst hs
  exact ho i (by omega) (fun p hp => by cases hp)
 | 1, s, ps, h, hn, ho, i, hi, h1 => by
  rw [mrgP_end _ _ (by omega)] at hi ⊢
  refine ho i (by omega) (fun p hp e => ?_)
  have := h1 p hp h
  omega
 | n + 2, s, ps, h, hn, ho, i, hi, h1 => by
  match s, h with
  | a :: b :: r, h =>
   rw [mrgP_step] at hi ⊢
   have hlen : (insL (sumW a.1 b.1, ps.length) r).length = n + 1 := by rw [insL_length]; simp at h; omega
   refine mrgP_onward (n + 1) _ _ hlen (fun p hp => ?_) (onward_step ho (hn a (by simp)) (hn b (by simp)) _) i ?_ (fun p hp e => ?_)
   ·rw [ps2_length]
    rcases List.mem_cons.1 ((insL_perm _ _).mem_iff.1 hp) with rfl | hp
    ·show ps.length < ps.length + 1; omega
    ·have := hn p (by simp [hp]); omega
   ·rcases hi with hi | ⟨_, hi⟩
    ·exact .inl hi
    ·simp at hi
   ·rw [ps2_length]
    have hr : r = [] := by
     rw [insL_length] at e
     exact List.length_eq_zero_iff.1 (by omega)
    subst hr
    simp [insL] at hp
    rw [hp]
def cntF (c : List Nat) (b : UInt8) : List Nat := c.set b.toNat (c.getD b.toNat 0 + 1)
def cntL (bs : List UInt8) : List Nat := bs.foldl cntF (List.replicate 256 0)
theorem cntF_length (c : List Nat) (b : UInt8) : (cntF c b).length = c.length := by simp [cntF]
theorem cntL_nil : cntL [] = List.replicate 256 0 := rfl
theorem cntL_snoc (bs : List UInt8) (b : UInt8) : cntL (bs ++ [b]) = cntF (cntL bs) b := by unfold cntL; rw [List.foldl_append]; rfl
theorem cntL_take {bs : List UInt8} {i : Nat} {b : UInt8} (h : bs[i]? = some b) : cntL (bs.take (i + 1)) = cntF (cntL (bs.take i)) b := by
 rw [List.take_add_one, h]; exact cntL_snoc _ b
theorem cntL_all (n : Nat) : ∀ (bs : List UInt8), bs.length = n → (cntL bs).length = 256 ∧ ∀ x ∈ cntL bs, x ≤ n := by
 induction n with
 | zero =>
  intro bs h
  rw [List.length_eq_zero_iff.1 h]
  exact ⟨by rw [cntL_nil, List.length_replicate], fun x hx => by rw [cntL_nil] at hx; exact Nat.le_of_eq (List.eq_of_mem_replicate hx)⟩
 | succ n ih =>
  intro bs h
  obtain ⟨bs', b, rfl⟩ : ∃ l b, bs = l ++ [b] := ⟨bs.dropLast, bs.getLast (by intro e; rw [e] at h; simp at h), (List.dropLast_concat_getLast _).symm⟩
  have h' : bs'.length = n := by simpa using h
  obtain ⟨h1, h2⟩ := ih bs' h'
  rw [cntL_snoc]
  refine ⟨by rw [cntF_length, h1], fun x hx => ?_⟩
  unfold cntF at hx
  rcases List.mem_or_eq_of_mem_set hx with hx | rfl
  ·have := h2 x hx; omega
  ·have hg : (cntL bs').getD b.toNat 0 ∈ cntL bs' := by
    rw [List.getD_eq_getElem?_getD, List.getElem?_eq_getElem (by rw [h1]; exact b.toNat_lt)]
    exact List.getElem_mem _
   have := h2 _ hg; omega
theorem cntL_length (bs : List UInt8) : (cntL bs).length = 256 := (cntL_all _ bs rfl).1
theorem cntL_le (bs : List UInt8) : ∀ x ∈ cntL bs, x ≤ bs.length := (cntL_all _ bs rfl).2
theorem c64_set (l : List Nat) (i n : Nat) : (cells64 l).toArray.setIfInBounds i (.int .u64 (n : Int)) = (cells64 (l.set i n)).toArray := by
 rw [List.setIfInBounds_toArray]; congr 1; simp [cells64, List.map_set]
theorem c64_one (l : List Nat) : (cells64 l).toArray.all (·.oneCell') = true := all_oneCell_toArray (fun v hv => by obtain ⟨i, _, rfl⟩ := List.mem_map.1 hv; rfl)
theorem results_cell_arr {P : Program} {fn : Func} {p : Tmp} {ty : TypeId} (h : fn.results = #[.cell p ty]) (tmps : Array Value) (w : World) (g : Nat) (cs : List Value) (d : TypeDesc)
  (hp : tmps.getD p undef = .pointer (some ⟨g, 0, none⟩)) (hc : w.rangeAt g 0 cs) (hu : P.underlying ty = some d) (hd : d.isRow = true) (hi : (P.info? ty).map (·.size) = some cs.length) :
  (results fn tmps).run P w = .ok (.agg cs.toArray) w := by
 have hp' : tmps[p]?.getD undef = .pointer (some ⟨g, 0, none⟩) := by simpa using hp
 simp [results, h, hp', asAddr, run_loadVar_mid w g 0 ty cs d hc hu hd hi]
theorem below_cellsA {B b : Nat} {a : World} (hb : B ≤ b) : ∀ (vs : List Value) (o : Nat) (w : World), Below B a w → Below B a (w.setCells b o vs) := by
 intro vs
 induction vs with
 | nil => intro o w h; exact h
 | cons v vs ih => intro o w h; exact ih _ _ (h.setCell (p := ⟨b, o, none⟩) hb v)
set_option maxHeartbeats 1000000 in
set_option maxRecDepth 100000 in
theorem huffCount (s : ByteArray) (w : World) (hs : s.size ≤ 1099511627776) :
  Calls Tryz.prog 41 #[.string s] w fun e w' => e = .returned (.agg (cells64 (cntL s.data.toList)).toArray) ∧ Below w.heap.size w w' := by
 obtain ⟨zs, hzs⟩ : ∃ zs : Array Value, zs = Array.replicate 256 (.int .u64 0) := ⟨_, rfl⟩
 have hz := zero64
 rw [← hzs] at hz
 have hzl : zs = (cells64 (cntL [])).toArray := by
  rw [hzs, cntL_nil]
  unfold cells64
  rw [List.map_replicate]
  exact (List.toArray_replicate 256 _).symm
 have hzn : zs.size = 256 := by rw [hzs, Array.size_replicate]
 have HZL := Lib.hid hzl
 have HZN := Lib.hid hzn
 clear hzs hzl hzn
 go_enter Tryz.func41, Tryz.ntmps41
 have l0 := (Lies.made w 80 zs).alloc (.cells zs 80)
 have l1 := Lies.made (w.alloc (.cells zs 80)) 80 zs
 have hb1 : Below w.heap.size w ((w.alloc (.cells zs 80)).alloc (.cells zs 80)) := ((Below.refl _ _).alloc (Nat.le_refl _) _).alloc (by simp) _
 have hgs : (w.alloc (.cells zs 80)).heap.size = w.heap.size + 1 := by simp
 rw [hgs] at l1
 have H0 := Lib.hid l0
 have H1 := Lib.hid l1
 have HB := Lib.hid hb1
 clear l0 l1 hb1
 go_wp2_with fail
 clear hz hgs
 generalize (w.alloc (.cells zs 80)).alloc (.cells zs 80) = w1 at *
 go_loopw [7] (fun c wr => ∃ i : Nat, i ≤ s.size ∧ c = .int .i64 i ∧ Lies wr w.heap.size 80 zs ∧ Lies wr (w.heap.size + 1) 80 (cells64 (cntL (s.data.toList.take i))).toArray ∧ Below w.heap.size w wr)
  (fun c _ => s.size - (intOf c).toNat)
 case atStart => exact ⟨0, by omega, rfl, H0.out, by rw [List.take_zero, ← HZL.out]; exact H1.out, HB.out⟩
 case round =>
  clear H0 H1 HB
  obtain ⟨i, hi, rfl, l0, l1, hb⟩ := hrel
  have L0 := Lib.hid l0
  have L1 := Lib.hid l1
  have HB := Lib.hid hb
  clear l0 l1 hb
  by_cases hlt : i < s.size
  ·have hii : (i : Int) < (s.size : Int) := by omega
   have hby := byte_of s i hlt
   have hst := cntL_take hby
   have hln := cntL_length (s.data.toList.take i)
   have hle := cntL_le (s.data.toList.take i)
   have hblt := (s[i]'hlt).toNat_lt
   have HST := Lib.hid hst
   generalize hc : cntL (s.data.toList.take i) = c at *
   have hcg : c[(s[i]'hlt).toNat]? = some (c.getD (s[i]'hlt).toNat 0) := by
    rw [List.getD_eq_getElem?_getD, List.getElem?_eq_getElem (by omega)]; rfl
   have hcn : c.getD (s[i]'hlt).toNat 0 ≤ 1099511627776 := by
    have := hle _ (List.mem_of_getElem? hcg)
    rw [List.length_take] at this
    have e : s.data.toList.length = s.size := by simp
    omega
   have hcell : wr.cell? ⟨w.heap.size + 1, (s[i]'hlt).toNat, none⟩ = some (.int .u64 ((c.getD (s[i]'hlt).toNat 0 : Nat) : Int)) := (L1.out.cell _).trans (by rw [List.getElem?_toArray]; unfold cells64; rw [List.getElem?_map, hcg]; rfl)
   have hfree := L1.out.free (s[i]'hlt).toNat
   have hput := L1.out.put (s[i]'hlt).toNat (.int .u64 ((c.getD (s[i]'hlt).toNat 0 + 1 : Nat) : Int))
   rw [c64_set] at hput
   have hput2 : Hid (Lies (wr.setCell ⟨w.heap.size + 1, (s[i]'hlt).toNat, none⟩ (.int .u64 ((c.getD (s[i]'hlt).toNat 0 + 1 : Nat) : Int))) (w.heap.size + 1) 80 (cells64 (cntL (s.data.toList.take (i + 1)))).toArray) := by
    show Lies _ _ _ _
    rw [HST.out]; exact hput
   have hfar := Lib.hid (L0.out.far (p := ⟨w.heap.size + 1, (s[i]'hlt).toNat, none⟩) (by show w.heap.size ≠ w.heap.size + 1; omega) (.int .u64 ((c.getD (s[i]'hlt).toNat 0 + 1 : Nat) : Int)))
   have hbn := Lib.hid (HB.out.setCell (p := ⟨w.heap.size + 1, (s[i]'hlt).toNat, none⟩) (by show w.heap.size ≤ w.heap.size + 1; omega) (.int .u64 ((c.getD (s[i]'hlt).toNat 0 + 1 : Nat) : Int)))
   clear hput hst hle hcg hby hc HST
   generalize c.getD (s[i]'hlt).toNat 0 = m at *
   have hbi : ((s[i]'hlt).toNat : Int) < 256 := by omega
   go_wp2_with fail
   go_roundw
   case rel => exact ⟨i + 1, by omega, by go_num, hfar.out, hput2.out, hbn.out⟩
   case measure => simp [intOf]; omega
  ·have hl : s.data.toList.length = s.size := by simp
   obtain rfl : i = s.size := by omega
   rw [List.take_of_length_le (by omega)] at L1
   obtain ⟨T, hT⟩ : ∃ T, T = cells64 (cntL s.data.toList) := ⟨_, rfl⟩
   have hTl : T.length = 256 := by rw [hT, c64_length, cntL_length]
   have hone : T.toArray.all (·.oneCell') = true := by rw [hT]; exact c64_one _
   rw [← hT] at L1
   have HT := Lib.hid hT
   have hr := Lib.hid (arr_range L1.out)
   have ht := Lib.hid (arr_there L0.out (n := T.toArray.size) (HZN.out.trans (by rw [List.size_toArray, hTl])))
   have hst := Lib.hid (arr_store L0.out (L := T) (HZN.out.trans hTl.symm))
   have hi1 : (Tryz.prog.info? 80).map (·.size) = some T.length := by rw [hTl]; exact info64
   have hi2 : (Tryz.prog.info? 80).map (·.size) = some T.toArray.size := by rw [List.size_toArray, hTl]; exact info64
   have HI1 := Lib.hid hi1
   have HI2 := Lib.hid hi2
   have HONE := Lib.hid hone
   have hbz := Lib.hid (below_cellsA (Nat.le_refl w.heap.size) T 0 wr HB.out)
   clear hT hone hi1 hi2
   go_wp2_with (first | refine wpList_load_mid rfl 80 _ rfl (w.heap.size + 1) 0 rfl T _ hr.out under64 rfl HI1.out ?_ | refine wpList_store_mid rfl 80 _ _ rfl w.heap.size 0 T.toArray rfl rfl ht.out HI2.out HONE.out ?_)
   refine bodyPost_ret (v := .agg T.toArray) (results_cell_arr Tryz.results41 _ _ w.heap.size T _ rfl (arr_range hst.out) under64 rfl HI1.out) rfl ⟨by rw [HT.out], hbz.out⟩
theorem lvs_snoc (ws : List Nat) (n : Nat) : lvs (ws ++ [n]) = lvF (lvs ws) n := by unfold lvs; rw [List.foldl_append]; rfl
theorem lvs_num (n : Nat) : ∀ ws : List Nat, ws.length = n → ∀ (i : Nat) (p : N2), (lvs ws)[i]? = some p → p.2 = i ∧ p.1 ∈ ws := by
 induction n with
 | zero => intro ws h i p hp; rw [List.length_eq_zero_iff.1 h] at hp; simp [lvs] at hp
 | succ n ih =>
  intro ws h i p hp
  obtain ⟨ws', b, rfl⟩ : ∃ l b, ws = l ++ [b] := ⟨ws.dropLast, ws.getLast (by intro e; rw [e] at h; simp at h), (List.dropLast_concat_getLast _).symm⟩
  have h' : ws'.length = n := by simpa using h
  rw [lvs_snoc] at hp
  unfold lvF at hp
  split at hp
  ·by_cases hi : i < (lvs ws').length
   ·rw [List.getElem?_append_left hi] at hp
    have := ih ws' h' i p hp
    exact ⟨this.1, by simp [this.2]⟩
   ·rw [List.getElem?_append_right (by omega)] at hp
    have h0 : i - (lvs ws').length = 0 := by
     rcases Nat.eq_zero_or_pos (i - (lvs ws').length) with h0 | h0
     ·exact h0
     ·rw [List.getElem?_eq_none (by simp; omega)] at hp; cases hp
    rw [h0] at hp
    simp at hp
    subst hp
    exact ⟨by show (lvs ws').length = i; omega, by simp⟩
  ·have := ih ws' h' i p hp
   exact ⟨this.1, by simp [this.2]⟩
theorem lvs_mono (ws : List Nat) (i : Nat) : (lvs (ws.take i)).length ≤ (lvs (ws.take (i + 1))).length := by
 rcases h : ws[i]? with _ | n
 ·rw [List.take_add_one, h]; simp
 ·rw [lvs_take h]; unfold lvF; split <;> simp
theorem lvs_mono' (ws : List Nat) : ∀ k i, (lvs (ws.take i)).length ≤ (lvs (ws.take (i + k))).length
 | 0, i => Nat.le_refl _
 | k + 1, i => Nat.le_trans (lvs_mono' ws k i) (by rw [← Nat.add_assoc]; exact lvs_mono ws (i + k))
theorem lenP_snd (ds : List Nat) (n : Nat) : ∀ ws : List Nat, ws.length = n → (lenP ds ws).2 = (lvs ws).length := by
 induction n with
 | zero => intro ws h; rw [List.length_eq_zero_iff.1 h]; rfl
 | succ n ih =>
  intro ws h
  obtain ⟨ws', b, rfl⟩ : ∃ l b, ws = l ++ [b] := ⟨ws.dropLast, ws.getLast (by intro e; rw [e] at h; simp at h), (List.dropLast_concat_getLast _).symm⟩
  have h' : ws'.length = n := by simpa using h
  have := ih ws' h'
  rw [lvs_snoc]
  unfold lenP at *
  rw [List.foldl_append]
  simp only [List.foldl_cons, List.foldl_nil, lenF, lvF]
  split <;> simp [this]
def parW (ws : List Nat) : List Nat := mrgP (sortL (lvs ws)) (List.replicate (lvs ws).length 0)
def depW (ws : List Nat) : List Nat := depA (lvs ws).length (parW ws)
def lensW (ws : List Nat) : List Nat := (lenP (depW ws) ws).1
theorem sortL_length (l : List N2) : (sortL l).length = l.length := (sortL_perm l).length_eq
theorem parW_length (ws : List Nat) : (parW ws).length = (lvs ws).length + ((lvs ws).length - 1) := by
 unfold parW; rw [mrgP_length _ _ _ rfl, sortL_length, List.length_replicate]
theorem lvs_lt (ws : List Nat) : ∀ p ∈ lvs ws, p.2 < (lvs ws).length := fun p hp => by
 obtain ⟨i, hi, he⟩ := List.getElem_of_mem hp
 have := (lvs_num _ ws rfl i p (by rw [List.getElem?_eq_getElem hi, he])).1
 omega
theorem parW_on (ws : List Nat) (i : Nat) (hi : i + 1 < (parW ws).length) : i < (parW ws).getD i 0 ∧ (parW ws).getD i 0 < (parW ws).length := by
 refine mrgP_onward _ _ _ rfl (fun p hp => ?_) (fun k hk hl => ?_) i (.inl hi) (fun p hp e => ?_)
 ·rw [List.length_replicate]; exact lvs_lt ws p ((sortL_perm _).mem_iff.1 hp)
 ·rw [List.length_replicate] at hk
  have hg := List.getElem?_eq_getElem hk
  have := (lvs_num _ ws rfl k _ hg).1
  exact absurd this (hl _ ((sortL_perm _).mem_iff.2 (List.getElem_mem hk)))
 ·rw [List.length_replicate]
  rw [sortL_length] at e
  have := lvs_lt ws p ((sortL_perm _).mem_iff.1 hp)
  omega
theorem lensW_length (ws : List Nat) (h : ws.length = 256) : (lensW ws).length = 256 := by unfold lensW; rw [lenP_length _ _ _ rfl, h]
theorem lenP_lt (ds : List Nat) (hd : ∀ x ∈ ds, x < 256) (n : Nat) : ∀ ws : List Nat, ws.length = n → ∀ x ∈ (lenP ds ws).1, x < 256 := by
 induction n with
 | zero => intro ws h x hx; rw [List.length_eq_zero_iff.1 h] at hx; simp [lenP] at hx
 | succ n ih =>
  intro ws h x hx
  obtain ⟨ws', b, rfl⟩ : ∃ l b, ws = l ++ [b] := ⟨ws.dropLast, ws.getLast (by intro e; rw [e] at h; simp at h), (List.dropLast_concat_getLast _).symm⟩
  have h' : ws'.length = n := by simpa using h
  have := ih ws' h'
  unfold lenP at *
  rw [List.foldl_append] at hx
  simp only [List.foldl_cons, List.foldl_nil, lenF] at hx
  split at hx
  ·rcases List.mem_append.1 hx with hx | hx
   ·exact this x hx
   ·simp only [List.mem_singleton] at hx
    rw [hx, List.getD_eq_getElem?_getD]
    rcases hq : ds[(List.foldl (lenF ds) ([], 0) ws').2]? with _ | q
    ·decide
    ·exact hd q (List.mem_of_getElem? hq)
  ·rcases List.mem_append.1 hx with hx | hx
   ·exact this x hx
   ·simp at hx; omega
theorem lensW_lt (ws : List Nat) : ∀ x ∈ lensW ws, x < 256 := lenP_lt _ (depA_lt _ _) _ _ rfl
theorem c8_get {l : List Nat} {i n : Nat} (h : l[i]? = some n) : (c8 l)[i]? = some (.int .u8 (n : Int)) := by simp [c8, h]
theorem cI_get {l : List Nat} {i n : Nat} (h : l[i]? = some n) : (cI l)[i]? = some (.int .i64 (n : Int)) := by simp [cI, h]
theorem c8_set (l : List Nat) (i n : Nat) : (c8 l).set i (.int .u8 (n : Int)) = c8 (l.set i n) := by simp [c8, List.map_set]
theorem c8_one (l : List Nat) : (c8 l).toArray.all (·.oneCell') = true := all_oneCell_toArray (fun v hv => by obtain ⟨i, _, rfl⟩ := List.mem_map.1 hv; rfl)
theorem own_far {w : World} {B B' n n' sz r cap i : Nat} {e e' : TypeId} {v : Value} {xs xs' : List Value} {u : Value} (h : w.ownsRow B e sz v n xs) (h' : w.ownsRow B' e' 1 (.slice (some ⟨r, 0, none⟩) n' cap) n' xs') (hne : e ≠ e') : (w.setCell ⟨r, i, none⟩ u).ownsRow B e sz v n xs := by
 rcases owns_row h' with ⟨h1, _⟩ | ⟨r', _, cur, h1, _, h2, _⟩
 ·cases h1
 ·simp only [Value.slice.injEq, Option.some.injEq, Addr.mk.injEq] at h1
  obtain ⟨⟨rfl, _⟩, _⟩ := h1
  exact owns_put h h2 hne i u
theorem lies_far {w : World} {B' n' r cap i g : Nat} {t e' : TypeId} {cs : Array Value} {xs' : List Value} {u : Value} (h : Lies w g t cs) (h' : w.ownsRow B' e' 1 (.slice (some ⟨r, 0, none⟩) n' cap) n' xs') (hne : t ≠ e') : Lies (w.setCell ⟨r, i, none⟩ u) g t cs := by
 refine h.far (fun e => ?_) u
 have e2 : g = r := e
 exact own_ne h' h (fun e => hne e.symm) (by rw [e2]; rfl)
set_option maxHeartbeats 2000000 in
set_option maxRecDepth 100000 in
theorem huffLengths (ws : List Nat) (w : World) (h : WOk ws) :
  Calls Tryz.prog 40 #[.agg (cells64 ws).toArray] w fun e w' => e = .returned (.agg (c8 (lensW ws)).toArray) ∧ Below w.heap.size w w' := by
 have hg := fun (i n : Nat) (hi : i < 256) (hn : ws[i]? = some n) (w : World) => run_index_arr (P := Tryz.prog) 80 34 256 (cells64 ws).toArray .i64 i _ under64 isAgg64 sizeOf64 hi (c64_get hn) w
 have hlen : (cells64 ws).length = 256 := by rw [c64_length]; exact h.1
 have hlv := fun w => huffLeaves ws w h
 have hok : NdOk (lvs ws) := fun p hp => by
  obtain ⟨i, hi, he⟩ := List.getElem_of_mem hp
  have h1 := lvs_num _ ws rfl i p (by rw [List.getElem?_eq_getElem hi, he])
  have h2 := lvs_length ws 256
  rw [List.take_of_length_le (by rw [h.1]; exact Nat.le_refl _)] at h2
  exact ⟨h.2 _ h1.2, by omega⟩
 have hll : (lvs ws).length ≤ 256 := by
  have h2 := lvs_length ws 256
  rwa [List.take_of_length_le (by rw [h.1]; exact Nat.le_refl _)] at h2
 have hmg := fun v w hs => huffMerge v (lvs ws).length (lvs ws) w hs hok hll (lvs_lt ws)
 have HG := Lib.hid hg
 have H := Lib.hid h
 have HLV := Lib.hid hlv
 have HMG := Lib.hid hmg
 have hpl := parW_length ws
 have hon := parW_on ws
 obtain ⟨L, hL⟩ : ∃ L, L = cells64 ws := ⟨_, rfl⟩
 rw [← hL] at HG hlen HLV ⊢
 have hi1 : (Tryz.prog.info? 80).map (·.size) = some L.length := by rw [hlen]; exact info64
 have HI1 := Lib.hid hi1
 obtain ⟨zs, hzs⟩ : ∃ zs : Array Value, zs = Array.replicate 256 (.int .u8 0) := ⟨_, rfl⟩
 have hz := zero8
 rw [← hzs] at hz
 have hzn : zs.size = 256 := by rw [hzs, Array.size_replicate]
 have hzl : zs = (c8 (List.replicate 256 0)).toArray := by rw [hzs]; unfold c8; rw [List.map_replicate]; exact (List.toArray_replicate 256 _).symm
 have HZN := Lib.hid hzn
 have HZL := Lib.hid hzl
 have HON := Lib.hid hon
 have HPL := Lib.hid hpl
 have HDW : Hid (depW ws = depA (lvs ws).length (parW ws)) := rfl
 have HLW : Hid (lensW ws = (lenP (depW ws) ws).1) := rfl
 have HPW : Hid (parW ws = mrgP (sortL (lvs ws)) (List.replicate (lvs ws).length 0)) := rfl
 clear hg h hL hi1 hlv hmg hzs hzn hzl hok hpl hon
 have l0 := (Lies.made w 80 L.toArray).alloc (.cells zs 78)
 have l1 := Lies.made (w.alloc (.cells L.toArray 80)) 78 zs
 rw [show (w.alloc (.cells L.toArray 80)).heap.size = w.heap.size + 1 by simp] at l1
 have hb1 := ((Below.refl w.heap.size w).alloc (Nat.le_refl _) (.cells L.toArray 80)).alloc (by simp) (.cells zs 78)
 have hsz : ((w.alloc (.cells L.toArray 80)).alloc (.cells zs 78)).heap.size = w.heap.size + 2 := by simp
 have L0 := Lib.hid l0
 have L1 := Lib.hid l1
 have HB1 := Lib.hid hb1
 have HR0 := Lib.hid (arr_range l0)
 have HSZ := Lib.hid hsz
 clear l0 l1 hb1 hsz
 go_enter Tryz.func40, Tryz.ntmps40
 go_wp2_with (refine wpList_load_mid rfl 80 _ rfl w.heap.size 0 rfl L _ HR0.out under64 rfl HI1.out ?_)
 clear HR0
 generalize (w.alloc (.cells L.toArray 80)).alloc (.cells zs 78) = w1 at *
 refine (HLV.out w1).mono ?_
 rintro e w2 ⟨v2, rfl, ho2, hb2⟩
 have L02 := Lib.hid (L0.out.below hb2 (by rw [HSZ.out]; omega))
 have L12 := Lib.hid (L1.out.below hb2 (by rw [HSZ.out]; omega))
 have HB2 := Lib.hid (HB1.out.trans (hb2.mono (by rw [HSZ.out]; omega)))
 have hz2 : w.heap.size + 2 ≤ w2.heap.size := by have := hb2.size; rw [HSZ.out] at this; exact this
 obtain ⟨A2, cp2, rfl, hq1, hq2, _⟩ := (SeqS.of_owns ho2).form
 have HS2 := Lib.hid (SeqS.of_owns ho2)
 unfold maxLen at hq2
 clear ho2 hb2 HLV L0 L1 HB1 HSZ
 obtain ⟨n, hn⟩ : ∃ n, n = (lvs ws).length := ⟨_, rfl⟩
 have HNN := Lib.hid hn
 rw [← hn] at HS2 hq1 hll ⊢
 rw [← hn] at HMG
 clear hn
 go_wp2_with fail
 refine (HMG.out _ w2 HS2.out).mono ?_
 rintro e w3 ⟨v3, rfl, ho3, hb3⟩
 rw [HNN.out, ← HPW.out] at ho3
 have HP3 := Lib.hid ho3
 have L03 := Lib.hid (L02.out.below hb3 (by omega))
 have L13 := Lib.hid (L12.out.below hb3 (by omega))
 have HB3 := Lib.hid (HB2.out.trans (hb3.mono (by omega)))
 have hz3 : w.heap.size + 2 ≤ w3.heap.size := by have := hb3.size; omega
 obtain ⟨A3, cp3, rfl, hr1, hr2, _⟩ := (SeqS.of_owns ho3).form
 unfold maxLen at hr2
 have hpn := HPL.out
 rw [← HNN.out] at hpn
 obtain ⟨P, hP⟩ : ∃ P, P = (parW ws).length := ⟨_, rfl⟩
 have HPP := Lib.hid hP
 rw [← hP] at hr1 hpn ⊢
 have hPb : P ≤ 511 := by omega
 have HPN := Lib.hid hpn
 clear hpn
 have hp3 := HP3.out
 rw [← hP] at hp3
 have HP3' := Lib.hid hp3
 clear HP3 hp3 ho3 hb3 L02 L12 HB2 HMG hP
 have hmk := run_make_row' (P := Tryz.prog) 43 5 (.int .u8 0) 1 Tryz.underlying43 Tryz.infoU8 rfl .i64 .i64 P (by omega) (by omega) w3
 have ho4 := owned_made w3 5 (.int .u8 0) rfl P (by unfold maxLen; omega)
 have hc8 : List.replicate P (Value.int .u8 0) = c8 (depN (parW ws) 0) := by rw [depN, ← HPP.out]; unfold c8; rw [List.map_replicate]; rfl
 rw [hc8] at ho4
 have HO4 := Lib.hid ho4
 have HP4 := Lib.hid (HP3'.out.alloc (.cells (madeCells #[Value.int .u8 0] P) 5))
 have L04 := Lib.hid (L03.out.alloc (.cells (madeCells #[Value.int .u8 0] P) 5))
 have L14 := Lib.hid (L13.out.alloc (.cells (madeCells #[Value.int .u8 0] P) 5))
 have HB4 := Lib.hid (HB3.out.alloc (by omega) (.cells (madeCells #[Value.int .u8 0] P) 5))
 obtain ⟨q, hq⟩ : ∃ q, q = w3.heap.size := ⟨_, rfl⟩
 have hqz : q < (w3.alloc (.cells (madeCells #[Value.int .u8 0] P) 5)).heap.size := by simp; omega
 rw [← hq] at hmk HO4
 have hBq : w.heap.size + 2 ≤ q := by omega
 clear ho4 hc8 HP3' L03 L13 HB3 hq
 go_wp2_with fail
 clear hmk
 generalize w3.alloc (.cells (madeCells #[Value.int .u8 0] P) 5) = w4 at *
 go_loopw [6] (fun t wr => ∃ k : Nat, k ≤ P - 1 ∧ t = .int .i64 ((P : Int) - 2 - k) ∧ wr.ownsRow q 5 1 (.slice (some ⟨q, 0, none⟩) P P) P (c8 (depN (parW ws) k)) ∧ wr.ownsRow w2.heap.size 3 1 (.slice A3 P cp3) P (cI (parW ws)) ∧
   Lies wr w.heap.size 80 L.toArray ∧ Lies wr (w.heap.size + 1) 78 zs ∧ Below w.heap.size w wr ∧ q < wr.heap.size)
  (fun t _ => (intOf t + 2).toNat)
 case atStart => exact ⟨0, by omega, by go_num, owns_base HO4.out (by omega), HP4.out, L04.out, L14.out, HB4.out, hqz⟩
 case round =>
  clear HO4 HP4 L04 L14 HB4 hqz
  obtain ⟨k, hk, rfl, ho, hp, l0, l1, hb, hqz⟩ := hrel
  have HO := Lib.hid ho
  have HP := Lib.hid hp
  have L0 := Lib.hid l0
  have L1 := Lib.hid l1
  have HB := Lib.hid hb
  clear ho hp l0 l1 hb
  by_cases hlt : k + 1 < P
  ·obtain ⟨i, hi⟩ : ∃ i, i = P - 2 - k := ⟨_, rfl⟩
   have hii : (P : Int) - 2 - (k : Int) = (i : Int) := by omega
   have hon := HON.out i (by rw [← HPP.out]; omega)
   rw [← HPP.out] at hon
   obtain ⟨y, hy⟩ : ∃ y, y = (parW ws).getD i 0 := ⟨_, rfl⟩
   rw [← hy] at hon
   have hpy : (parW ws)[i]? = some y := by rw [hy, List.getD_eq_getElem?_getD, List.getElem?_eq_getElem (by rw [← HPP.out]; omega)]; rfl
   obtain ⟨p3, cp5, hv3, hBp, _, _, _⟩ := owns_openS HP.out (by omega)
   have hv4 : A3 = some ⟨p3, 0, none⟩ := by
    simp only [Value.slice.injEq] at hv3
    exact hv3.1
   subst hv4
   have cy := owns_cell HP.out (cI_get hpy)
   have hdl : (depN (parW ws) k).length = P := by rw [depN_length, HPP.out]
   obtain ⟨x, hx⟩ : ∃ x, x = (depN (parW ws) k).getD y 0 := ⟨_, rfl⟩
   have hdx : (depN (parW ws) k)[y]? = some x := by rw [hx, List.getD_eq_getElem?_getD, List.getElem?_eq_getElem (by omega)]; rfl
   have hxl := depN_lt _ _ x (List.mem_of_getElem? hdx)
   have cx := owns_cell HO.out (c8_get hdx)
   obtain ⟨z, hz⟩ : ∃ z, (depN (parW ws) k)[i]? = some z := ⟨_, List.getElem?_eq_getElem (by omega)⟩
   have cz := owns_cell HO.out (c8_get hz)
   have fz := owns_free HO.out (k := i) (by omega)
   obtain ⟨X, hX⟩ : ∃ X, X = (x + 1) % 256 := ⟨_, rfl⟩
   have eX : IntKind.u8.wrap ((x : Int) + 1) = (X : Int) := by rw [IntKind.wrap_u8]; omega
   have hset := owns_set (u := .int .u8 (X : Int)) HO.out (k := i) (by omega)
   have hnx : (c8 (depN (parW ws) k)).set i (.int .u8 (X : Int)) = c8 (depN (parW ws) (k + 1)) := by
    rw [c8_set]
    congr 1
    rw [depN, ← HPP.out, ← hi, ← hy, ← hx, ← hX]
   rw [hnx] at hset
   have HSET := Lib.hid hset
   have HPS := Lib.hid (own_far (i := i) (u := .int .u8 (X : Int)) HP.out HO.out (by decide))
   have LS0 := Lib.hid (lies_far (i := i) (u := .int .u8 (X : Int)) L0.out HO.out (by decide))
   have LS1 := Lib.hid (lies_far (i := i) (u := .int .u8 (X : Int)) L1.out HO.out (by decide))
   have HBS := Lib.hid (HB.out.setCell (p := ⟨q, i, none⟩) (by show w.heap.size ≤ q; omega) (.int .u8 (X : Int)))
   have hiP : (i : Int) < (P : Int) := by omega
   have hyP : (y : Int) < (P : Int) := by omega
   have HI := Lib.hid hi
   clear hset hnx hz hdx hpy hv3 hy hx hX hon hdl hi
   go_wp2_with fail
   go_roundw
   case rel => exact ⟨k + 1, by omega, by rw [← hii]; go_num, HSET.out, HPS.out, LS0.out, LS1.out, HBS.out, by simp; exact hqz⟩
   case measure => simp [intOf]; omega
  ·have x1 : decide ((0 : Int) ≤ (P : Int) - 2 - (k : Int)) = false := by simp; omega
   have hkP : k = P - 1 := by omega
   have HKP := Lib.hid hkP
   have hbz : w.heap.size ≤ wr.heap.size := by omega
   have hn1 := HPN.out
   by_cases h1 : n = 1
   ·have e3 : ((n : Int) == 1) = true := by simp; omega
    have e4 : (n == 1) = true := by simpa using h1
    have hP1 : P = 1 := by omega
    have hdw : (depN (parW ws) k).set 0 1 = depW ws := by rw [HDW.out, ← HNN.out]; unfold depA; rw [if_pos h1, ← HPP.out, HKP.out]
    have hdl : (depN (parW ws) k).length = P := by rw [depN_length, HPP.out]
    obtain ⟨z, hzz⟩ : ∃ z, (depN (parW ws) k)[0]? = some z := ⟨_, List.getElem?_eq_getElem (by omega)⟩
    have cz := owns_cell HO.out (c8_get hzz)
    have fz := owns_free HO.out (k := 0) (by omega)
    have hset := owns_set (u := .int .u8 ((1 : Nat) : Int)) HO.out (k := 0) (by omega)
    rw [c8_set, hdw] at hset
    have HOD := Lib.hid hset
    have LA0 := Lib.hid (lies_far (i := 0) (u := .int .u8 ((1 : Nat) : Int)) L0.out HO.out (by decide))
    have LA1 := Lib.hid (lies_far (i := 0) (u := .int .u8 ((1 : Nat) : Int)) L1.out HO.out (by decide))
    have HBA := Lib.hid (HB.out.setCell (p := ⟨q, 0, none⟩) (by show w.heap.size ≤ q; omega) (.int .u8 ((1 : Nat) : Int)))
    have hPi : (0 : Int) < (P : Int) := by omega
    have hPn : 0 < P := by omega
    have hqzA := hqz
    clear hset hdw hdl hzz h1 hkP hP1 HO HP L0 L1 HB
    change Hid (World.ownsRow (wr.setCell ⟨q, 0, none⟩ (.int .u8 1)) _ _ _ _ _ _) at HOD
    change Hid (Lies (wr.setCell ⟨q, 0, none⟩ (.int .u8 1)) _ _ _) at LA0
    change Hid (Lies (wr.setCell ⟨q, 0, none⟩ (.int .u8 1)) _ _ _) at LA1
    change Hid (Below _ _ (wr.setCell ⟨q, 0, none⟩ (.int .u8 1))) at HBA
    have hWz : ((wr.setCell ⟨q, 0, none⟩ (.int .u8 1))).heap.size = wr.heap.size := by simp
    have ll := Lies.made (wr.setCell ⟨q, 0, none⟩ (.int .u8 1)) 78 zs
    have L0B := Lib.hid (LA0.out.alloc (.cells zs 78))
    have L1B := Lib.hid (LA1.out.alloc (.cells zs 78))
    have HOB := Lib.hid (HOD.out.alloc (.cells zs 78))
    have HBB := Lib.hid (HBA.out.alloc (by rw [hWz]; exact hbz) (.cells zs 78))
    have HR0 := Lib.hid (arr_range L0B.out)
    have hz8 := hz
    obtain ⟨gl, hgl⟩ : ∃ gl, gl = wr.heap.size := ⟨_, rfl⟩
    rw [hWz, ← hgl] at ll
    rw [← hgl] at hbz hqzA
    clear hWz
    have LL := Lib.hid ll
    have HGL := Lib.hid hgl
    clear ll
    go_wp2_with (refine wpList_load_mid rfl 80 _ rfl w.heap.size 0 rfl L _ HR0.out under64 rfl HI1.out ?_)
    rw [← HGL.out]
    clear HR0 hz8 HGL hgl
    generalize ((wr.setCell ⟨q, 0, none⟩ (.int .u8 1))).alloc (.cells zs 78) = wB at *
    go_loopw [8, 42] (fun nx c wr => ∃ i : Nat, i ≤ 256 ∧ c = .int .i64 i ∧ nx = .int .i64 ((lvs (ws.take i)).length : Nat) ∧ Lies wr gl 78 (c8 ((lenP (depW ws) (ws.take i)).1 ++ List.replicate (256 - i) 0)).toArray ∧
      wr.ownsRow q 5 1 (.slice (some ⟨q, 0, none⟩) P P) P (c8 (depW ws)) ∧ Lies wr (w.heap.size + 1) 78 zs ∧ Below w.heap.size w wr)
     (fun _ c _ => 256 - (intOf c).toNat)
    case atStart => exact ⟨0, by omega, rfl, rfl, by rw [List.take_zero]; show Lies _ _ _ (c8 ([] ++ List.replicate 256 0)).toArray; rw [List.nil_append, ← HZL.out]; exact LL.out, HOB.out, L1B.out, HBB.out⟩
    case round =>
     clear LL HOB L1B HBB L0B
     obtain ⟨i, hi, rfl, rfl, ll, ho, l1, hb⟩ := hrel
     have LL := Lib.hid ll
     have HO := Lib.hid ho
     have L1 := Lib.hid l1
     have HB := Lib.hid hb
     clear ll ho l1 hb
     by_cases hlt : i < 256
     ·have hii : (i : Int) < 256 := by omega
      obtain ⟨m, hm, hml⟩ := H.out.get hlt
      have hix := HG.out i m hlt hm
      have hlp := lenP_take (ds := depW ws) hm
      have hls := lenP_snd (depW ws) _ (ws.take i) rfl
      have hlv := lvs_take hm
      have hmono := lvs_mono' ws (256 - (i + 1)) (i + 1)
      have ht256 : ws.take 256 = ws := List.take_of_length_le (by rw [H.out.1]; exact Nat.le_refl _)
      rw [show i + 1 + (256 - (i + 1)) = 256 by omega, ht256, ← HNN.out] at hmono
      clear ht256
      have hl1 := lenP_length (depW ws) i (ws.take i) (by rw [List.length_take, H.out.1]; omega)
      obtain ⟨D1, hD1⟩ : ∃ D1, D1 = lvs (ws.take i) := ⟨_, rfl⟩
      rw [← hD1] at hls hlv ⊢
      by_cases hm0 : 0 < m
      ·have e1 : decide ((0 : Int) < (m : Int)) = true := by simp; omega
       have e2 : decide (0 < m) = true := by simpa using hm0
       have hlv2 : lvs (ws.take (i + 1)) = D1 ++ [(m, D1.length)] := by rw [hlv]; unfold lvF; rw [if_pos hm0]
       have hdl : D1.length < n := by rw [hlv2, List.length_append] at hmono; simp at hmono; omega
       have hdep : (depW ws).length = P := by rw [HDW.out, depA_length, HPP.out]
       obtain ⟨x, hx⟩ : ∃ x, (depW ws)[D1.length]? = some x := ⟨_, List.getElem?_eq_getElem (by omega)⟩
       have cx := owns_cell HO.out (c8_get hx)
       have hset := LL.out.putL' i (.int .u8 (x : Int))
       have hnx : (c8 ((lenP (depW ws) (ws.take i)).1 ++ List.replicate (256 - i) 0)).set i (.int .u8 (x : Int)) = c8 ((lenP (depW ws) (ws.take (i + 1))).1 ++ List.replicate (256 - (i + 1)) 0) := by
        rw [c8_set, hlp]
        unfold lenF
        rw [if_pos hm0, hls, List.getD_eq_getElem?_getD, hx, List.set_append_right _ _ (by omega), hl1, Nat.sub_self, show 256 - i = 256 - (i + 1) + 1 by omega, List.replicate_succ, List.set_cons_zero, List.append_assoc]
        rfl
       rw [hnx] at hset
       have hcz : wr.cell? ⟨gl, i, none⟩ = some (.int .u8 0) := (LL.out.cell i).trans (by
        rw [List.getElem?_toArray]
        have e0 : (c8 ((lenP (depW ws) (ws.take i)).1 ++ List.replicate (256 - i) 0))[i]? = some (.int .u8 ((0 : Nat) : Int)) := c8_get (by rw [List.getElem?_append_right (by omega), hl1, Nat.sub_self, List.getElem?_replicate, if_pos (by omega)])
        exact e0)
       have hfz := LL.out.free i
       have HSET := Lib.hid hset
       have HOS := Lib.hid (owns_put HO.out LL.out (by decide) i (.int .u8 (x : Int)))
       have L1S := Lib.hid (L1.out.far (p := ⟨gl, i, none⟩) (by show w.heap.size + 1 ≠ gl; omega) (.int .u8 (x : Int)))
       have HBS := Lib.hid (HB.out.setCell (p := ⟨gl, i, none⟩) (by show w.heap.size ≤ gl; omega) (.int .u8 (x : Int)))
       obtain ⟨d, hd⟩ : ∃ d, d = D1.length := ⟨_, rfl⟩
       rw [← hd] at hdl cx hlv2 ⊢
       have hdP : (d : Int) < (P : Int) := by have := HPN.out; omega
       have hl2 : (lvs (ws.take (i + 1))).length = d + 1 := by rw [hlv2, List.length_append, ← hd]; rfl
       have HL2 := Lib.hid hl2
       clear hset hnx hm hx hlp hls hlv hmono hl1 hm0 hlv2 hd hdep hl2 hD1
       go_wp2_with fail
       go_roundw
       case rel => exact ⟨i + 1, by omega, by go_num, by rw [HL2.out]; go_num, HSET.out, HOS.out, L1S.out, HBS.out⟩
       case measure => simp [intOf]; omega
      ·have e1 : decide ((0 : Int) < (m : Int)) = false := by simp; omega
       have e2 : decide (0 < m) = false := by simpa using hm0
       have hlv2 : lvs (ws.take (i + 1)) = D1 := by rw [hlv]; unfold lvF; rw [if_neg hm0]
       have hnx : (lenP (depW ws) (ws.take i)).1 ++ List.replicate (256 - i) 0 = (lenP (depW ws) (ws.take (i + 1))).1 ++ List.replicate (256 - (i + 1)) 0 := by
        rw [hlp]
        unfold lenF
        rw [if_neg hm0, show 256 - i = 256 - (i + 1) + 1 by omega, List.replicate_succ, List.append_assoc]
        rfl
       have HNX := Lib.hid hnx
       have HL2 := Lib.hid hlv2
       clear hnx hm hlp hls hlv hmono hl1 hm0 hlv2
       obtain ⟨d, hd⟩ : ∃ d, d = D1.length := ⟨_, rfl⟩
       rw [← hd]
       have HDD := Lib.hid hd
       clear hd
       go_wp2_with fail
       go_roundw
       case rel => exact ⟨i + 1, by omega, by go_num, by rw [HL2.out, ← HDD.out], by rw [← HNX.out]; exact LL.out, HO.out, L1.out, HB.out⟩
       case measure => simp [intOf]; omega
     ·obtain rfl : i = 256 := by omega
      have LF := LL.out
      rw [Nat.sub_self, List.replicate_zero, List.append_nil, List.take_of_length_le (l := ws) (by rw [H.out.1]; exact Nat.le_refl _), ← HLW.out] at LF
      obtain ⟨T, hT⟩ : ∃ T, T = c8 (lensW ws) := ⟨_, rfl⟩
      have hTl : T.length = 256 := by rw [hT, c8_length, lensW_length _ H.out.1]
      have hone : T.toArray.all (·.oneCell') = true := by rw [hT]; exact c8_one _
      rw [← hT] at LF
      have HT := Lib.hid hT
      have hr := Lib.hid (arr_range LF)
      have ht := Lib.hid (arr_there L1.out (n := T.toArray.size) (HZN.out.trans (by rw [List.size_toArray, hTl])))
      have hst := Lib.hid (arr_store L1.out (L := T) (HZN.out.trans hTl.symm))
      have hi1 : (Tryz.prog.info? 78).map (·.size) = some T.length := by rw [hTl]; exact info8
      have hi2 : (Tryz.prog.info? 78).map (·.size) = some T.toArray.size := by rw [List.size_toArray, hTl]; exact info8
      have HI2 := Lib.hid hi1
      have HI3 := Lib.hid hi2
      have HONE := Lib.hid hone
      have hbz := Lib.hid (below_cellsA (Nat.le_succ w.heap.size) T 0 wr HB.out)
      clear hT hone hi1 hi2 LF
      go_wp2_with (first | refine wpList_load_mid rfl 78 _ rfl gl 0 rfl T _ hr.out under8 rfl HI2.out ?_ | refine wpList_store_mid rfl 78 _ _ rfl (w.heap.size + 1) 0 T.toArray rfl rfl ht.out HI3.out HONE.out ?_)
      refine bodyPost_ret (v := .agg T.toArray) (results_cell_arr Tryz.results40 _ _ (w.heap.size + 1) T _ rfl (arr_range hst.out) under8 rfl HI2.out) rfl ⟨by rw [HT.out], hbz.out⟩
   ·have e3 : ((n : Int) == 1) = false := by simp; omega
    have e4 : (n == 1) = false := by simpa using h1
    have hdw : depN (parW ws) k = depW ws := by rw [HDW.out, ← HNN.out]; unfold depA; rw [if_neg h1, ← HPP.out, HKP.out]
    have hset := HO.out
    rw [hdw] at hset
    have HOD := Lib.hid hset
    have LA0 := L0
    have LA1 := L1
    have HBA := HB
    have hqzA := hqz
    clear hset hdw h1 hkP HO HP L0 L1 HB hqz
    have hWz : (wr).heap.size = wr.heap.size := by simp
    have ll := Lies.made wr 78 zs
    have L0B := Lib.hid (LA0.out.alloc (.cells zs 78))
    have L1B := Lib.hid (LA1.out.alloc (.cells zs 78))
    have HOB := Lib.hid (HOD.out.alloc (.cells zs 78))
    have HBB := Lib.hid (HBA.out.alloc (by rw [hWz]; exact hbz) (.cells zs 78))
    have HR0 := Lib.hid (arr_range L0B.out)
    have hz8 := hz
    obtain ⟨gl, hgl⟩ : ∃ gl, gl = wr.heap.size := ⟨_, rfl⟩
    rw [hWz, ← hgl] at ll
    rw [← hgl] at hbz hqzA
    clear hWz
    have LL := Lib.hid ll
    have HGL := Lib.hid hgl
    clear ll
    go_wp2_with (refine wpList_load_mid rfl 80 _ rfl w.heap.size 0 rfl L _ HR0.out under64 rfl HI1.out ?_)
    rw [← HGL.out]
    clear HR0 hz8 HGL hgl
    generalize (wr).alloc (.cells zs 78) = wB at *
    go_loopw [8, 42] (fun nx c wr => ∃ i : Nat, i ≤ 256 ∧ c = .int .i64 i ∧ nx = .int .i64 ((lvs (ws.take i)).length : Nat) ∧ Lies wr gl 78 (c8 ((lenP (depW ws) (ws.take i)).1 ++ List.replicate (256 - i) 0)).toArray ∧
      wr.ownsRow q 5 1 (.slice (some ⟨q, 0, none⟩) P P) P (c8 (depW ws)) ∧ Lies wr (w.heap.size + 1) 78 zs ∧ Below w.heap.size w wr)
     (fun _ c _ => 256 - (intOf c).toNat)
    case atStart => exact ⟨0, by omega, rfl, rfl, by rw [List.take_zero]; show Lies _ _ _ (c8 ([] ++ List.replicate 256 0)).toArray; rw [List.nil_append, ← HZL.out]; exact LL.out, HOB.out, L1B.out, HBB.out⟩
    case round =>
     clear LL HOB L1B HBB L0B
     obtain ⟨i, hi, rfl, rfl, ll, ho, l1, hb⟩ := hrel
     have LL := Lib.hid ll
     have HO := Lib.hid ho
     have L1 := Lib.hid l1
     have HB := Lib.hid hb
     clear ll ho l1 hb
     by_cases hlt : i < 256
     ·have hii : (i : Int) < 256 := by omega
      obtain ⟨m, hm, hml⟩ := H.out.get hlt
      have hix := HG.out i m hlt hm
      have hlp := lenP_take (ds := depW ws) hm
      have hls := lenP_snd (depW ws) _ (ws.take i) rfl
      have hlv := lvs_take hm
      have hmono := lvs_mono' ws (256 - (i + 1)) (i + 1)
      have ht256 : ws.take 256 = ws := List.take_of_length_le (by rw [H.out.1]; exact Nat.le_refl _)
      rw [show i + 1 + (256 - (i + 1)) = 256 by omega, ht256, ← HNN.out] at hmono
      clear ht256
      have hl1 := lenP_length (depW ws) i (ws.take i) (by rw [List.length_take, H.out.1]; omega)
      obtain ⟨D1, hD1⟩ : ∃ D1, D1 = lvs (ws.take i) := ⟨_, rfl⟩
      rw [← hD1] at hls hlv ⊢
      by_cases hm0 : 0 < m
      ·have e1 : decide ((0 : Int) < (m : Int)) = true := by simp; omega
       have e2 : decide (0 < m) = true := by simpa using hm0
       have hlv2 : lvs (ws.take (i + 1)) = D1 ++ [(m, D1.length)] := by rw [hlv]; unfold lvF; rw [if_pos hm0]
       have hdl : D1.length < n := by rw [hlv2, List.length_append] at hmono; simp at hmono; omega
       have hdep : (depW ws).length = P := by rw [HDW.out, depA_length, HPP.out]
       obtain ⟨x, hx⟩ : ∃ x, (depW ws)[D1.length]? = some x := ⟨_, List.getElem?_eq_getElem (by omega)⟩
       have cx := owns_cell HO.out (c8_get hx)
       have hset := LL.out.putL' i (.int .u8 (x : Int))
       have hnx : (c8 ((lenP (depW ws) (ws.take i)).1 ++ List.replicate (256 - i) 0)).set i (.int .u8 (x : Int)) = c8 ((lenP (depW ws) (ws.take (i + 1))).1 ++ List.replicate (256 - (i + 1)) 0) := by
        rw [c8_set, hlp]
        unfold lenF
        rw [if_pos hm0, hls, List.getD_eq_getElem?_getD, hx, List.set_append_right _ _ (by omega), hl1, Nat.sub_self, show 256 - i = 256 - (i + 1) + 1 by omega, List.replicate_succ, List.set_cons_zero, List.append_assoc]
        rfl
       rw [hnx] at hset
       have hcz : wr.cell? ⟨gl, i, none⟩ = some (.int .u8 0) := (LL.out.cell i).trans (by
        rw [List.getElem?_toArray]
        have e0 : (c8 ((lenP (depW ws) (ws.take i)).1 ++ List.replicate (256 - i) 0))[i]? = some (.int .u8 ((0 : Nat) : Int)) := c8_get (by rw [List.getElem?_append_right (by omega), hl1, Nat.sub_self, List.getElem?_replicate, if_pos (by omega)])
        exact e0)
       have hfz := LL.out.free i
       have HSET := Lib.hid hset
       have HOS := Lib.hid (owns_put HO.out LL.out (by decide) i (.int .u8 (x : Int)))
       have L1S := Lib.hid (L1.out.far (p := ⟨gl, i, none⟩) (by show w.heap.size + 1 ≠ gl; omega) (.int .u8 (x : Int)))
       have HBS := Lib.hid (HB.out.setCell (p := ⟨gl, i, none⟩) (by show w.heap.size ≤ gl; omega) (.int .u8 (x : Int)))
       obtain ⟨d, hd⟩ : ∃ d, d = D1.length := ⟨_, rfl⟩
       rw [← hd] at hdl cx hlv2 ⊢
       have hdP : (d : Int) < (P : Int) := by have := HPN.out; omega
       have hl2 : (lvs (ws.take (i + 1))).length = d + 1 := by rw [hlv2, List.length_append, ← hd]; rfl
       have HL2 := Lib.hid hl2
       clear hset hnx hm hx hlp hls hlv hmono hl1 hm0 hlv2 hd hdep hl2 hD1
       go_wp2_with fail
       go_roundw
       case rel => exact ⟨i + 1, by omega, by go_num, by rw [HL2.out]; go_num, HSET.out, HOS.out, L1S.out, HBS.out⟩
       case measure => simp [intOf]; omega
      ·have e1 : decide ((0 : Int) < (m : Int)) = false := by simp; omega
       have e2 : decide (0 < m) = false := by simpa using hm0
       have hlv2 : lvs (ws.take (i + 1)) = D1 := by rw [hlv]; unfold lvF; rw [if_neg hm0]
       have hnx : (lenP (depW ws) (ws.take i)).1 ++ List.replicate (256 - i) 0 = (lenP (depW ws) (ws.take (i + 1))).1 ++ List.replicate (256 - (i + 1)) 0 := by
        rw [hlp]
        unfold lenF
        rw [if_neg hm0, show 256 - i = 256 - (i + 1) + 1 by omega, List.replicate_succ, List.append_assoc]
        rfl
       have HNX := Lib.hid hnx
       have HL2 := Lib.hid hlv2
       clear hnx hm hlp hls hlv hmono hl1 hm0 hlv2
       obtain ⟨d, hd⟩ : ∃ d, d = D1.length := ⟨_, rfl⟩
       rw [← hd]
       have HDD := Lib.hid hd
       clear hd
       go_wp2_with fail
       go_roundw
       case rel => exact ⟨i + 1, by omega, by go_num, by rw [HL2.out, ← HDD.out], by rw [← HNX.out]; exact LL.out, HO.out, L1.out, HB.out⟩
       case measure => simp [intOf]; omega
     ·obtain rfl : i = 256 := by omega
      have LF := LL.out
      rw [Nat.sub_self, List.replicate_zero, List.append_nil, List.take_of_length_le (l := ws) (by rw [H.out.1]; exact Nat.le_refl _), ← HLW.out] at LF
      obtain ⟨T, hT⟩ : ∃ T, T = c8 (lensW ws) := ⟨_, rfl⟩
      have hTl : T.length = 256 := by rw [hT, c8_length, lensW_length _ H.out.1]
      have hone : T.toArray.all (·.oneCell') = true := by rw [hT]; exact c8_one _
      rw [← hT] at LF
      have HT := Lib.hid hT
      have hr := Lib.hid (arr_range LF)
      have ht := Lib.hid (arr_there L1.out (n := T.toArray.size) (HZN.out.trans (by rw [List.size_toArray, hTl])))
      have hst := Lib.hid (arr_store L1.out (L := T) (HZN.out.trans hTl.symm))
      have hi1 : (Tryz.prog.info? 78).map (·.size) = some T.length := by rw [hTl]; exact info8
      have hi2 : (Tryz.prog.info? 78).map (·.size) = some T.toArray.size := by rw [List.size_toArray, hTl]; exact info8
      have HI2 := Lib.hid hi1
      have HI3 := Lib.hid hi2
      have HONE := Lib.hid hone
      have hbz := Lib.hid (below_cellsA (Nat.le_succ w.heap.size) T 0 wr HB.out)
      clear hT hone hi1 hi2 LF
      go_wp2_with (first | refine wpList_load_mid rfl 78 _ rfl gl 0 rfl T _ hr.out under8 rfl HI2.out ?_ | refine wpList_store_mid rfl 78 _ _ rfl (w.heap.size + 1) 0 T.toArray rfl rfl ht.out HI3.out HONE.out ?_)
      refine bodyPost_ret (v := .agg T.toArray) (results_cell_arr Tryz.results40 _ _ (w.heap.size + 1) T _ rfl (arr_range hst.out) under8 rfl HI2.out) rfl ⟨by rw [HT.out], hbz.out⟩
theorem zeroBk : ∀ w : World, (zeroValue 118).run Tryz.prog w = .ok (.agg (Array.replicate 57 (.int .i64 0) ++ #[.slice none 0 0])) w := fun w => by kernel_rfl
theorem infoBk : (Tryz.prog.info? 118).map (·.size) = some 58 := by kernel_rfl
def bkC (cs : List Nat) (v : Value) : List Value := cI cs ++ [v]
theorem cI_set (l : List Nat) (i n : Nat) : (cI l).set i (.int .i64 (n : Int)) = cI (l.set i n) := by simp [cI, List.map_set]
theorem bkC_get {cs : List Nat} {v : Value} {k n : Nat} (h : cs[k]? = some n) : (bkC cs v)[k]? = some (.int .i64 (n : Int)) := by
 unfold bkC; rw [List.getElem?_append_left (by rw [cI_length]; exact (List.getElem?_eq_some_iff.1 h).1), cI_get h]
theorem bkC_set {cs : List Nat} {v : Value} {k n : Nat} (h : k < cs.length) : (bkC cs v).set k (.int .i64 (n : Int)) = bkC (cs.set k n) v := by
 unfold bkC; rw [List.set_append_left _ _ (by rw [cI_length]; exact h), cI_set]
theorem bkC_last {cs : List Nat} {v : Value} (h : cs.length = 57) : (bkC cs v)[57]? = some v := by
 unfold bkC; rw [List.getElem?_append_right (by rw [cI_length]; omega), cI_length, h]; rfl
theorem bkC_setv {cs : List Nat} {v u : Value} (h : cs.length = 57) : (bkC cs v).set 57 u = bkC cs u := by
 unfold bkC; rw [List.set_append_right _ _ (by rw [cI_length]; omega), cI_length, h]; rfl
theorem bkC_length {cs : List Nat} {v : Value} (h : cs.length = 57) : (bkC cs v).length = 58 := by unfold bkC; rw [List.length_append, cI_length, h]; rfl
theorem cnA_length (ls : List Nat) (b : Nat) : (cnA ls b).length = 57 := by simp [cnA]
theorem cnA_zero (ls : List Nat) : cnA ls 0 = List.replicate 57 0 := by
 have : cnA ls 0 = (List.range 57).map fun _ => 0 := mapR_ext fun i _ => by rw [ct_zero]; split <;> rfl
 rw [this, List.map_const', List.length_range]
theorem nxB_zero (ls : List Nat) : nxB ls 1 = List.replicate 57 0 := by
 have : nxB ls 1 = (List.range 57).map fun _ => 0 := mapR_ext fun i _ => by
  by_cases h : i ≤ 1
  ·rw [if_pos h]
   have : i = 0 ∨ i = 1 := by omega
   rcases this with rfl | rfl <;> rfl
  ·rw [if_neg h]
 rw [this, List.map_const', List.length_range]
theorem ls_cnt (ls : List Nat) (hl : ls.length = 256) (k : Nat) : ls.count k ≤ 256 := by rw [← hl]; exact List.count_le_length
theorem pre_le_all {ls : List Nat} (h : LOk ls) {k : Nat} (hk : k ≤ 57) : pre ls k ≤ 256 := by
 have h1 := sum_counts ls 57 (fun x hx => by have := h.2 x hx; omega)
 have h2 := pre_le ls hk
 have := h.1
 omega
theorem kept_cellsH {g : Nat} : ∀ (vs : List Value) (o : Nat) (w : World), Kept (oneRow g) w (w.setCells g o vs)
 | [], o, w => Kept.refl _ _
 | v :: vs, o, w => (Kept.put w g o v).trans (kept_cellsH vs (o + 1) _) (fun _ _ h => h)
set_option maxHeartbeats 2000000 in
set_option maxRecDepth 100000 in
theorem huffNewBook (ls : List Nat) (w : World) (h : LOk ls) :
  Calls Tryz.prog 82 #[.agg (c8 ls).toArray] w fun e w' => ∃ v bs, e = .returned (.agg (bkC (cnA ls 256) v).toArray) ∧ w'.ownsRow w.heap.size 5 1 v bs.length (c8 bs) ∧ BkOk ls bs 256 ∧ Below w.heap.size w w' := by
 have hg := ix8 ls .i64
 have hlen : (c8 ls).length = 256 := by rw [c8_length]; exact h.1
 obtain ⟨L, hL⟩ : ∃ L, L = c8 ls := ⟨_, rfl⟩
 rw [← hL] at hg hlen ⊢
 have hi1 : (Tryz.prog.info? 78).map (·.size) = some L.length := by rw [hlen]; exact info8
 have HG := Lib.hid hg
 have H := Lib.hid h
 have HI1 := Lib.hid hi1
 obtain ⟨zb, hzb⟩ : ∃ zb : Array Value, zb = Array.replicate 57 (.int .i64 0) ++ #[.slice none 0 0] := ⟨_, rfl⟩
 have hz := zeroBk
 rw [← hzb] at hz
 have hzl : zb = (bkC (cnA ls 0) (.slice none 0 0)).toArray := by
  rw [hzb, cnA_zero]; unfold bkC cI; rw [List.map_replicate, ← List.toArray_replicate, ← List.toArray_appendList]; rfl
 obtain ⟨zi, hzi⟩ : ∃ zi : Array Value, zi = Array.replicate 57 (.int .i64 0) := ⟨_, rfl⟩
 have hy := zeroI
 rw [← hzi] at hy
 have hyl : zi = (cI (nxB ls 1)).toArray := by rw [hzi, nxB_zero]; unfold cI; rw [List.map_replicate]; exact (List.toArray_replicate 57 _).symm
 have HZL := Lib.hid hzl
 have HYL := Lib.hid hyl
 clear hg h hL hi1 hzb hzl hzi hyl
 have l0 := ((Lies.made w 78 L.toArray).alloc (.cells zb 118)).alloc (.cells zb 118)
 have l1 := (Lies.made (w.alloc (.cells L.toArray 78)) 118 zb).alloc (.cells zb 118)
 have l2 := Lies.made ((w.alloc (.cells L.toArray 78)).alloc (.cells zb 118)) 118 zb
 rw [show (w.alloc (.cells L.toArray 78)).heap.size = w.heap.size + 1 by simp] at l1
 rw [show ((w.alloc (.cells L.toArray 78)).alloc (.cells zb 118)).heap.size = w.heap.size + 1 + 1 by simp] at l2
 have hb1 := (((Below.refl w.heap.size w).alloc (Nat.le_refl _) (.cells L.toArray 78)).alloc (by simp) (.cells zb 118)).alloc (by simp; omega) (.cells zb 118)
 have hsz : (((w.alloc (.cells L.toArray 78)).alloc (.cells zb 118)).alloc (.cells zb 118)).heap.size = w.heap.size + 3 := by simp
 have L0 := Lib.hid l0
 have L1 := Lib.hid l1
 have L2 := Lib.hid l2
 have HB1 := Lib.hid hb1
 have HR0 := Lib.hid (arr_range l0)
 have HSZ := Lib.hid hsz
 clear l0 l1 l2 hb1 hsz
 go_enter Tryz.func82, Tryz.ntmps82
 go_wp2_with (refine wpList_load_mid rfl 78 _ rfl w.heap.size 0 rfl L _ HR0.out under8 rfl HI1.out ?_)
 clear HR0
 generalize ((w.alloc (.cells L.toArray 78)).alloc (.cells zb 118)).alloc (.cells zb 118) = w1 at *
 go_loopw [4, 12] (fun co c wr => ∃ i : Nat, i ≤ 256 ∧ c = .int .i64 i ∧ co = .int .i64 (cod ls i : Nat) ∧ Lies wr (w.heap.size + 1 + 1) 118 (bkC (cnA ls i) (.slice none 0 0)).toArray ∧ Kept (oneRow (w.heap.size + 1 + 1)) w1 wr)
  (fun _ c _ => 256 - (intOf c).toNat)
 case atStart => exact ⟨0, by omega, rfl, rfl, by rw [← HZL.out]; exact L2.out, Kept.refl _ _⟩
 case round =>
  obtain ⟨i, hi, rfl, rfl, lb, hk⟩ := hrel
  have hc0 := ct_le_b ls 0 i
  have LB := Lib.hid lb
  have HK := Lib.hid hk
  clear lb hk
  by_cases hlt : i < 256
  ·have hii : (i : Int) < 256 := by omega
   obtain ⟨n, hn, hn56⟩ := H.out.get hlt
   have hix := HG.out i n hlt hn
   have HC : Hid (cod ls (i + 1) = cod ls i + if n = 0 then 0 else 1) := cod_step hn hc0
   have hcl : cod ls i ≤ 256 := by unfold cod; omega
   generalize cod ls i = co at *
   by_cases h0 : n = 0
   ·subst h0
    have HC2 : Hid (cod ls (i + 1) = co) := by show _ = _; rw [HC.out, if_pos rfl]; rfl
    have HCN := Lib.hid (cnA_same hn)
    clear HC hn
    go_wp2_with fail
    go_roundw
    case rel => exact ⟨i + 1, by omega, by go_num, by rw [HC2.out], by rw [HCN.out]; exact LB.out, HK.out⟩
    case measure => simp [intOf]; omega
   ·have e1 : decide ((0 : Int) < (n : Int)) = true := by simp; omega
    have e2 : decide (0 < n) = true := by simp; omega
    have HC2 : Hid (cod ls (i + 1) = co + 1) := by show _ = _; rw [HC.out, if_neg h0]
    have hgc : (cnA ls i)[n]? = some (ct ls n i) := by
     have := mapR_get (n := 57) (fun k => if k = 0 then 0 else ct ls k i) (i := n) (by omega)
     rw [if_neg h0] at this
     exact this
    have hctl := ct_le_b ls n i
    have hcell : wr.cell? ⟨w.heap.size + 1 + 1, n, none⟩ = some (.int .i64 ((ct ls n i : Nat) : Int)) := (LB.out.cell n).trans (by rw [List.getElem?_toArray]; exact bkC_get hgc)
    have hfree := LB.out.free n
    have hput := LB.out.putL' n (.int .i64 ((ct ls n i + 1 : Nat) : Int))
    rw [bkC_set (by rw [cnA_length]; omega), cnA_step hn (by omega) hn56] at hput
    have HPUT := Lib.hid hput
    have HKP := Lib.hid (HK.out.trans (Kept.put wr (w.heap.size + 1 + 1) n (.int .i64 ((ct ls n i + 1 : Nat) : Int))) (fun _ _ h => h))
    have hni : (n : Int) < 57 := by omega
    clear HC hn hput hgc h0
    generalize ct ls n i = m at *
    go_wp2_with fail
    go_roundw
    case rel => exact ⟨i + 1, by omega, by go_num, by rw [HC2.out]; go_num, HPUT.out, HKP.out⟩
    case measure => simp [intOf]; omega
  ·obtain rfl : i = 256 := by omega
   have hwz : w.heap.size + 3 ≤ wr.heap.size := by have := HK.out.size; rw [HSZ.out] at this; exact this
   have L0B := Lib.hid ((L0.out.kept HK.out (fun e => by have h1 : w.heap.size = w.heap.size + 1 + 1 := e; omega)).alloc (.cells zi 116))
   have L1B := Lib.hid ((L1.out.kept HK.out (fun e => by have h1 : w.heap.size + 1 = w.heap.size + 1 + 1 := e; omega)).alloc (.cells zi 116))
   have L2B := Lib.hid (LB.out.alloc (.cells zi 116))
   have LNB := Lib.hid (Lies.made wr 116 zi)
   have hbB := HB1.out.trans (HK.out.below (B := w.heap.size) (by rw [HSZ.out]; omega) (fun k hk e => by have h1 : k = w.heap.size + 1 + 1 := e; omega))
   have HBB := Lib.hid (hbB.alloc (by omega) (.cells zi 116))
   have hsB : (wr.alloc (.cells zi 116)).heap.size = wr.heap.size + 1 := by simp
   obtain ⟨gn, hgn⟩ : ∃ gn, gn = wr.heap.size := ⟨_, rfl⟩
   rw [← hgn] at LNB hsB hwz
   have hcl : cod ls 256 ≤ 256 := by unfold cod; omega
   clear hbB LB HK L0 L1 L2 HB1 HSZ hc0
   have hgn2 := hgn
   go_wp2_with fail
   rw [← hgn2]
   clear hgn hgn2
   generalize wr.alloc (.cells zi 116) = wB at *
   go_loopw [8] (fun t wr => ∃ m : Nat, 1 ≤ m ∧ m ≤ 56 ∧ t = .int .i64 m ∧ Lies wr gn 116 (cI (nxB ls m)).toArray ∧ Kept (oneRow gn) wB wr)
    (fun t _ => 56 - (intOf t).toNat)
   case atStart => exact ⟨1, by omega, by omega, rfl, by rw [← HYL.out]; exact LNB.out, Kept.refl _ _⟩
   case round =>
    clear LNB
    obtain ⟨m, hm1, hm, rfl, ln, hk⟩ := hrel
    have LN := Lib.hid ln
    have HK := Lib.hid hk
    have l2 := L2B.out.kept hk (fun e => by have h1 : w.heap.size + 1 + 1 = gn := e; omega)
    have L2 := Lib.hid l2
    clear ln hk l2
    by_cases hlt : m < 56
    ·have hmi : (m : Int) < 56 := by omega
     have hp1 := pre_le_all H.out (k := m) (by omega)
     have hct := ls_cnt ls H.out.1 m
     have hnx1 : (nxB ls m)[m]? = some (pre ls m) := by
      have := mapR_get (n := 57) (fun k => if k ≤ m then pre ls k else 0) (i := m) (by omega)
      rw [if_pos (Nat.le_refl _)] at this
      exact this
     have hnx2 : (nxB ls m)[m + 1]? = some 0 := by
      have := mapR_get (n := 57) (fun k => if k ≤ m then pre ls k else 0) (i := m + 1) (by omega)
      rw [if_neg (by omega)] at this
      exact this
     have hcn : (cnA ls 256)[m]? = some (ls.count m) := by
      have := mapR_get (n := 57) (fun k => if k = 0 then 0 else ct ls k 256) (i := m) (by omega)
      rw [if_neg (by omega), ct_all ls m 256 (by rw [H.out.1]; exact Nat.le_refl _)] at this
      exact this
     have k1 : wr.cell? ⟨gn, m, none⟩ = some (.int .i64 ((pre ls m : Nat) : Int)) := (LN.out.cell m).trans (by rw [List.getElem?_toArray]; exact cI_get hnx1)
     have k2 : wr.cell? ⟨gn, m + 1, none⟩ = some (.int .i64 ((0 : Nat) : Int)) := (LN.out.cell (m + 1)).trans (by rw [List.getElem?_toArray]; exact cI_get hnx2)
     have k3 : wr.cell? ⟨w.heap.size + 1 + 1, m, none⟩ = some (.int .i64 ((ls.count m : Nat) : Int)) := (L2.out.cell m).trans (by rw [List.getElem?_toArray]; exact bkC_get hcn)
     have hfree := LN.out.free (m + 1)
     have hput := LN.out.putL' (m + 1) (.int .i64 ((pre ls m + ls.count m : Nat) : Int))
     have hpr : pre ls (m + 1) = pre ls m + ls.count m := by rw [pre, if_neg (by omega)]
     rw [cI_set, ← hpr, nxB_step ls m (by omega), hpr] at hput
     have HPUT := Lib.hid hput
     have HKP := Lib.hid (HK.out.trans (Kept.put wr gn (m + 1) (.int .i64 ((pre ls m + ls.count m : Nat) : Int))) (fun _ _ h => h))
     have hmi2 : (m : Int) < 57 := by omega
     have hmi3 : (m : Int) + 1 < 57 := by omega
     clear hput hpr hnx1 hnx2 hcn
     generalize pre ls m = p at *
     generalize ls.count m = q at *
     go_wp2_with fail
     go_region
     all_goals (
      go_wp2_with fail
      go_roundw
      case rel => exact ⟨m + 1, by omega, by omega, by go_num, HPUT.out, HKP.out.trans (Kept.drewN (oneRow gn) _ 1) (fun _ _ h => h)⟩
      case measure => simp [intOf]; omega)
    ·obtain rfl : m = 56 := by omega
     have hln := LN.out
     rw [nxB_end] at hln
     have hwz2 : wB.heap.size ≤ wr.heap.size := HK.out.size
     have L0 := Lib.hid (L0B.out.kept HK.out (fun e => by have h1 : w.heap.size = gn := e; omega))
     have L1 := Lib.hid (L1B.out.kept HK.out (fun e => by have h1 : w.heap.size + 1 = gn := e; omega))
     have hbr := HBB.out.trans (HK.out.below (B := w.heap.size) (by omega) (fun k hk e => by have h1 : k = gn := e; omega))
     obtain ⟨C, hC⟩ : ∃ C, C = cod ls 256 := ⟨_, rfl⟩
     rw [← hC] at hcl ⊢
     have HCC := Lib.hid hC
     have hmk := run_make_row' (P := Tryz.prog) 43 5 (.int .u8 0) 1 Tryz.underlying43 Tryz.infoU8 rfl .i64 .i64 C (by omega) (by omega) wr
     have ho := owned_made wr 5 (.int .u8 0) rfl C (by unfold maxLen; omega)
     obtain ⟨gb, hgb⟩ : ∃ gb, gb = wr.heap.size := ⟨_, rfl⟩
     rw [← hgb] at hmk ho hwz2
     have hsz5 : (wr.alloc (.cells (madeCells #[Value.int .u8 0] C) 5)).heap.size = gb + 1 := by simp [hgb]
     have LN5 := Lib.hid (hln.alloc (.cells (madeCells #[Value.int .u8 0] C) 5))
     have L05 := Lib.hid (L0.out.alloc (.cells (madeCells #[Value.int .u8 0] C) 5))
     have L15 := Lib.hid (L1.out.alloc (.cells (madeCells #[Value.int .u8 0] C) 5))
     have l25 := L2.out.alloc (.cells (madeCells #[Value.int .u8 0] C) 5)
     have HB5 := Lib.hid (hbr.alloc (by omega) (.cells (madeCells #[Value.int .u8 0] C) 5))
     have hO0 : List.replicate C (Value.int .u8 0) = c8 (List.replicate C 0) := by unfold c8; rw [List.map_replicate]; rfl
     rw [hO0] at ho
     have HO5 := Lib.hid ho
     have k57 : (wr.alloc (.cells (madeCells #[Value.int .u8 0] C) 5)).cell? ⟨w.heap.size + 1 + 1, 57, none⟩ = some (.slice none 0 0) := (l25.cell 57).trans (by rw [List.getElem?_toArray]; exact bkC_last (cnA_length ls 256))
     have f57 := l25.free 57
     have L25 := Lib.hid l25
     have hv57 := l25.putL' 57 (.slice (some ⟨gb, 0, none⟩) C C)
     rw [bkC_setv (cnA_length ls 256)] at hv57
     have L26 := Lib.hid hv57
     clear hln hbr hC ho hO0 l25 L0 L1 L2 LN HK hgb L0B L1B L2B HBB hz hy
     clear hv57
     have L06 := Lib.hid (L05.out.far (p := ⟨w.heap.size + 1 + 1, 57, none⟩) (by show w.heap.size ≠ w.heap.size + 1 + 1; omega) (.slice (some ⟨gb, 0, none⟩) C C))
     have L16 := Lib.hid (L15.out.far (p := ⟨w.heap.size + 1 + 1, 57, none⟩) (by show w.heap.size + 1 ≠ w.heap.size + 1 + 1; omega) (.slice (some ⟨gb, 0, none⟩) C C))
     have LN6 := Lib.hid (LN5.out.far (p := ⟨w.heap.size + 1 + 1, 57, none⟩) (by show gn ≠ w.heap.size + 1 + 1; omega) (.slice (some ⟨gb, 0, none⟩) C C))
     have HO6 := Lib.hid (owns_put HO5.out L25.out (by decide) 57 (.slice (some ⟨gb, 0, none⟩) C C))
     have HB6 := Lib.hid (HB5.out.setCell (p := ⟨w.heap.size + 1 + 1, 57, none⟩) (by show w.heap.size ≤ w.heap.size + 1 + 1; omega) (.slice (some ⟨gb, 0, none⟩) C C))
     have HR6 := Lib.hid (arr_range L06.out)
     clear L05 L15 LN5 HO5 HB5 L25
     go_wp2_with (refine wpList_load_mid rfl 78 _ rfl w.heap.size 0 rfl L _ HR6.out under8 rfl HI1.out ?_)
     clear HR6 k57 f57 hmk
     generalize (wr.alloc (.cells (madeCells #[Value.int .u8 0] C) 5)).setCell ⟨w.heap.size + 1 + 1, 57, none⟩ (Value.slice (some ⟨gb, 0, none⟩) C C) = w6 at *
     have HBK0 : Hid (BkOk ls (List.replicate C 0) 0) := ⟨by rw [List.length_replicate, HCC.out], fun i k hi => by omega⟩
     go_loopw [46] (fun c wr => ∃ (i : Nat) (bs : List Nat), i ≤ 256 ∧ c = .int .i64 i ∧ BkOk ls bs i ∧ wr.ownsRow gb 5 1 (.slice (some ⟨gb, 0, none⟩) C C) C (c8 bs) ∧ Lies wr gn 116 (cI (nxA ls i)).toArray ∧
       Lies wr (w.heap.size + 1 + 1) 118 (bkC (cnA ls 256) (.slice (some ⟨gb, 0, none⟩) C C)).toArray ∧ Lies wr (w.heap.size + 1) 118 zb ∧ Below w.heap.size w wr)
      (fun c _ => 256 - (intOf c).toNat)
     case atStart => exact ⟨0, _, by omega, rfl, HBK0.out, HO6.out, LN6.out, L26.out, L16.out, HB6.out⟩
     case round =>
      clear HO6 LN6 L26 L16 HB6 L06 HBK0
      obtain ⟨i, bs, hi, rfl, hbk, ho, ln, l2, l1, hb⟩ := hrel
      have HBK := Lib.hid hbk
      have HO := Lib.hid ho
      have LN := Lib.hid ln
      have L2 := Lib.hid l2
      have L1 := Lib.hid l1
      have HB := Lib.hid hb
      clear hbk ho ln l2 l1 hb
      by_cases hlt : i < 256
      ·have hii : (i : Int) < 256 := by omega
       obtain ⟨n, hn, hn56⟩ := H.out.get hlt
       have hix := HG.out i n hlt hn
       by_cases h0 : n = 0
       ·subst h0
        have HNX := Lib.hid (nxA_same hn)
        have HBK2 := Lib.hid (bkOk_same HBK.out hn)
        clear hn
        go_wp2_with fail
        go_roundw
        case rel => exact ⟨i + 1, _, by omega, by go_num, HBK2.out, HO.out, by rw [HNX.out]; exact LN.out, L2.out, L1.out, HB.out⟩
        case measure => simp [intOf]; omega
       ·have e1 : decide ((0 : Int) < (n : Int)) = true := by simp; omega
        have e2 : decide (0 < n) = true := by simp; omega
        have hroom := pre_room H.out.1 H.out.2 (show 0 < n by omega) hn
        rw [← HCC.out] at hroom
        have hgx : (nxA ls i)[n]? = some (pre ls n + ct ls n i) := by
         have := mapR_get (n := 57) (fun k => if k = 0 then 0 else pre ls k + ct ls k i) (i := n) (by omega)
         rw [if_neg h0] at this
         exact this
        have hbl : bs.length = C := by rw [HBK.out.1, HCC.out]
        have hst1 := bkOk_step HBK.out hn (by omega) (by rw [← HCC.out]; exact hroom)
        have hnx := nxA_step hn (by omega) hn56
        obtain ⟨d, hd⟩ : ∃ d, d = pre ls n + ct ls n i := ⟨_, rfl⟩
        rw [← hd] at hroom hgx hst1 hnx
        obtain ⟨z, hz⟩ : ∃ z, bs[d]? = some z := ⟨_, List.getElem?_eq_getElem (by omega)⟩
        have cn : wr.cell? ⟨gn, n, none⟩ = some (.int .i64 (d : Int)) := (LN.out.cell n).trans (by rw [List.getElem?_toArray]; exact cI_get hgx)
        have fn := LN.out.free n
        have cz := owns_cell HO.out (c8_get hz)
        have fz := owns_free HO.out (k := d) hroom
        have c57 : wr.cell? ⟨w.heap.size + 1 + 1, 57, none⟩ = some (.slice (some ⟨gb, 0, none⟩) C C) := (L2.out.cell 57).trans (by rw [List.getElem?_toArray]; exact bkC_last (cnA_length ls 256))
        have hset := owns_set (u := .int .u8 (i : Int)) HO.out (k := d) hroom
        rw [c8_set] at hset
        have LNa := lies_far (i := d) (u := .int .u8 (i : Int)) LN.out HO.out (by decide)
        have L2a := lies_far (i := d) (u := .int .u8 (i : Int)) L2.out HO.out (by decide)
        have L1a := lies_far (i := d) (u := .int .u8 (i : Int)) L1.out HO.out (by decide)
        have hba := HB.out.setCell (p := ⟨gb, d, none⟩) (by show w.heap.size ≤ gb; omega) (.int .u8 (i : Int))
        have HSA := Lib.hid hset
        have LNA := Lib.hid LNa
        have L2A := Lib.hid L2a
        have L1A := Lib.hid L1a
        have HBA := Lib.hid hba
        have HST1 := Lib.hid hst1
        have HNX := Lib.hid hnx
        have HGX := Lib.hid hgx
        have ei : IntKind.u8.wrap (i : Int) = (i : Int) := by rw [IntKind.wrap_u8]; omega
        have hdi : (d : Int) < (C : Int) := by omega
        have hni : (n : Int) < 57 := by omega
        clear hn hset LNa L2a L1a hba hst1 hnx hz hgx hd hbl h0
        go_wp2_with fail
        go_region
        all_goals (
         change Exit.then _ _ _ _ ((wr.setCell ⟨gb, d, none⟩ (.int .u8 (i : Int))).drewN 1)
         have c2 : ((wr.setCell ⟨gb, d, none⟩ (.int .u8 (i : Int))).drewN 1).cell? ⟨gn, n, none⟩ = some (.int .i64 (d : Int)) := (LNA.out.cell n).trans (by rw [List.getElem?_toArray]; exact cI_get HGX.out)
         have f2 : ((wr.setCell ⟨gb, d, none⟩ (.int .u8 (i : Int))).drewN 1).frozen? ⟨gn, n, none⟩ = false := LNA.out.free n
         have hput := LNA.out.putL' n (.int .i64 ((d + 1 : Nat) : Int))
         rw [cI_set, HNX.out] at hput
         have L2P := Lib.hid (L2A.out.far (p := ⟨gn, n, none⟩) (by show w.heap.size + 1 + 1 ≠ gn; omega) (.int .i64 ((d + 1 : Nat) : Int)))
         have L1P := Lib.hid (L1A.out.far (p := ⟨gn, n, none⟩) (by show w.heap.size + 1 ≠ gn; omega) (.int .i64 ((d + 1 : Nat) : Int)))
         have HOP := Lib.hid (owns_put HSA.out LNA.out (by decide) n (.int .i64 ((d + 1 : Nat) : Int)))
         have HBP := Lib.hid ((below_drewN HBA.out 1).setCell (p := ⟨gn, n, none⟩) (by show w.heap.size ≤ gn; omega) (.int .i64 ((d + 1 : Nat) : Int)))
         have LNP := Lib.hid hput
         change Hid (Lies (((wr.setCell ⟨gb, d, none⟩ (.int .u8 (i : Int))).drewN 1).setCell _ _) _ _ _) at LNP
         change Hid (Lies (((wr.setCell ⟨gb, d, none⟩ (.int .u8 (i : Int))).drewN 1).setCell _ _) _ _ _) at L2P
         change Hid (Lies (((wr.setCell ⟨gb, d, none⟩ (.int .u8 (i : Int))).drewN 1).setCell _ _) _ _ _) at L1P
         change Hid (World.ownsRow (((wr.setCell ⟨gb, d, none⟩ (.int .u8 (i : Int))).drewN 1).setCell _ _) _ _ _ _ _ _) at HOP
         clear LNA L2A L1A HSA HBA hput HGX HNX cn fn cz fz c57
         generalize (wr.setCell ⟨gb, d, none⟩ (.int .u8 (i : Int))).drewN 1 = wA at *
         go_wp2_with fail
         go_roundw
         case rel => exact ⟨i + 1, _, by omega, by go_num, HST1.out, HOP.out, LNP.out, L2P.out, L1P.out, HBP.out⟩
         case measure => simp [intOf]; omega)
      ·obtain rfl : i = 256 := by omega
       obtain ⟨T, hT⟩ : ∃ T, T = bkC (cnA ls 256) (.slice (some ⟨gb, 0, none⟩) C C) := ⟨_, rfl⟩
       have hTl : T.length = 58 := by rw [hT, bkC_length (cnA_length ls 256)]
       have hone : T.toArray.all (·.oneCell') = true := by
        rw [hT]
        refine all_oneCell_toArray (fun v hv => ?_)
        unfold bkC at hv
        rcases List.mem_append.1 hv with hv | hv
        ·obtain ⟨i, _, rfl⟩ := List.mem_map.1 hv; rfl
        ·rw [List.mem_singleton.1 hv]; rfl
       have l2 := L2.out
       rw [← hT] at l2
       have HT := Lib.hid hT
       have hzn : zb.size = 58 := by rw [HZL.out, List.size_toArray, bkC_length (cnA_length ls 0)]
       have hr := Lib.hid (arr_range l2)
       have ht := Lib.hid (arr_there L1.out (n := T.toArray.size) (hzn.trans (by rw [List.size_toArray, hTl])))
       have hst := Lib.hid (arr_store L1.out (L := T) (hzn.trans hTl.symm))
       have hks := Lib.hid (owns_kept HO.out (kept_cellsH T 0 wr (g := w.heap.size + 1)) (fun q cur hq _ hs => by
        have h1 : some gb = some q := hq
        have h2 : q = w.heap.size + 1 := hs
        have := Option.some.inj h1
        omega))
       have hi1 : (Tryz.prog.info? 118).map (·.size) = some T.length := by rw [hTl]; exact infoBk
       have hi2 : (Tryz.prog.info? 118).map (·.size) = some T.toArray.size := by rw [List.size_toArray, hTl]; exact infoBk
       have HI2 := Lib.hid hi1
       have HI3 := Lib.hid hi2
       have HONE := Lib.hid hone
       have hbz := Lib.hid (below_cellsA (Nat.le_succ w.heap.size) T 0 wr HB.out)
       clear hT hone hi1 hi2 l2
       go_wp2_with (first | refine wpList_load_mid rfl 118 _ rfl (w.heap.size + 1 + 1) 0 rfl T _ hr.out Tryz.underlying118 rfl HI2.out ?_ | refine wpList_store_mid rfl 118 _ _ rfl (w.heap.size + 1) 0 T.toArray rfl rfl ht.out HI3.out HONE.out ?_)
       refine bodyPost_ret (v := .agg T.toArray) (results_cell_arr Tryz.results82 _ _ (w.heap.size + 1) T _ rfl (arr_range hst.out) Tryz.underlying118 rfl HI2.out) rfl ⟨_, bs, by rw [HT.out], ?_, HBK.out, hbz.out⟩
       rw [HBK.out.1, ← HCC.out]
       exact owns_base hks.out (by omega)
theorem kindsUses (k : Int) (w : World) : Calls Tryz.prog 67 #[.int .i64 k] w fun e w' => e = .returned (.bool (allU k)) ∧ Below w.heap.size w w' := by
 have hb := Lib.hid (Below.refl w.heap.size w)
 unfold allU
 go_enter Tryz.func67, Tryz.ntmps67
 go_wp2
 go_ret
 exact ⟨rfl, hb.out⟩
theorem kindsGet (x : Ev) (w : World) (h0 : 0 ≤ x.kd) (h1 : x.kd < 9223372036854775808) : Calls Tryz.prog 68 #[.agg (evC x)] w fun e w' => e = .returned (.int .u64 ((kdF x : Nat) : Int)) ∧ Below w.heap.size w w' := by
 have hb := Lib.hid ((Below.refl w.heap.size w).alloc (Nat.le_refl _) (.cells (evC x) 36))
 have c1 := ((Lies.made w 36 (evC x)).cell 1).trans (show _ = some (Value.int .i64 x.kd) from rfl)
 have e1 : IntKind.u64.wrap x.kd = ((kdF x : Nat) : Int) := by rw [IntKind.wrap_u64]; unfold kdF; omega
 go_enter Tryz.func68, Tryz.ntmps68
 go_wp2
 go_ret
 exact ⟨rfl, hb.out⟩
theorem ringGet (x : Ev) (w : World) (h0 : 0 ≤ x.rg) (h1 : x.rg < 9223372036854775808) : Calls Tryz.prog 70 #[.agg (evC x)] w fun e w' => e = .returned (.int .u64 ((rgF x : Nat) : Int)) ∧ Below w.heap.size w w' := by
 have hb := Lib.hid ((Below.refl w.heap.size w).alloc (Nat.le_refl _) (.cells (evC x) 36))
 have c1 := ((Lies.made w 36 (evC x)).cell 2).trans (show _ = some (Value.int .i64 x.rg) from rfl)
 have e1 : IntKind.u64.wrap x.rg = ((rgF x : Nat) : Int) := by rw [IntKind.wrap_u64]; unfold rgF; omega
 go_enter Tryz.func70, Tryz.ntmps70
 go_wp2
 go_ret
 exact ⟨rfl, hb.out⟩
theorem ticketGet (x : Ev) (w : World) : Calls Tryz.prog 73 #[.agg (evC x)] w fun e w' => e = .returned (.int .u64 ((tkF x : Nat) : Int)) ∧ Below w.heap.size w w' := by
 have hb := Lib.hid ((Below.refl w.heap.size w).alloc (Nat.le_refl _) (.cells (evC x) 36))
 have c1 := ((Lies.made w 36 (evC x)).cell 3).trans (show _ = some (Value.int .u64 (x.tk : Int)) from rfl)
 go_enter Tryz.func73, Tryz.ntmps73
 go_wp2
 go_ret
 exact ⟨rfl, hb.out⟩
theorem valueGet (x : Ev) (w : World) : Calls Tryz.prog 77 #[.agg (evC x)] w fun e w' => e = .returned (.int .u64 ((vlF x : Nat) : Int)) ∧ Below w.heap.size w w' := by
 have hb := Lib.hid ((Below.refl w.heap.size w).alloc (Nat.le_refl _) (.cells (evC x) 36))
 have c1 := ((Lies.made w 36 (evC x)).cell 4).trans (show _ = some (Value.int .u64 (x.vl : Int)) from rfl)
 go_enter Tryz.func77, Tryz.ntmps77
 go_wp2
 go_ret
 exact ⟨rfl, hb.out⟩
theorem rightE_ticket (k : Int) : rightE ⟨0, k, 0, 1, 0⟩ = ticketB k := by
 unfold rightE kindB ringB valueB
 simp only
 by_cases h : ticketB k = true
 ·have h2 : 1 ≤ k ∧ k ≤ 15 := by
   unfold ticketB at h
   simp only [Bool.or_eq_true, beq_iff_eq] at h
   omega
  rw [h]; simp [h2.1, h2.2]
 ·have h' : ticketB k = false := by simpa using h
  rw [h']; simp
theorem rightE_value (k : Int) : rightE ⟨0, k, 0, 0, 1⟩ = valueB k := by
 unfold rightE kindB
 simp only
 by_cases h : valueB k = true
 ·have h2 : 1 ≤ k ∧ k ≤ 15 := by
   unfold valueB at h
   simp only [Bool.or_eq_true, beq_iff_eq] at h
   omega
  rw [h]; simp [h2.1, h2.2]
 ·have h' : valueB k = false := by simpa using h
  rw [h']; simp
theorem usesIt (k : Int) (g : Nat) (x : Ev) (w : World) (h : Lies w g 36 (evC x)) :
  Calls Tryz.prog 94 #[.int .i64 k, .pointer (some ⟨g, 0, none⟩)] w fun e w' => e = .returned (.bool (rightE ⟨x.th, k, x.rg, x.tk, x.vl⟩)) ∧ Below w.heap.size w w' := by
 have c0 := (h.cell 0).trans (show _ = some (Value.int .i64 x.th) from rfl)
 have c1 := (h.cell 1).trans (show _ = some (Value.int .i64 x.kd) from rfl)
 have c2 := (h.cell 2).trans (show _ = some (Value.int .i64 x.rg) from rfl)
 have c3 := (h.cell 3).trans (show _ = some (Value.int .u64 (x.tk : Int)) from rfl)
 have c4 := (h.cell 4).trans (show _ = some (Value.int .u64 (x.vl : Int)) from rfl)
 have hl := h.lt
 have HB := Lib.hid ((Below.refl w.heap.size w).alloc (Nat.le_refl _) (.cells #[.int .i64 x.th, .int .i64 k, .int .i64 x.rg, .int .u64 (x.tk : Int), .int .u64 (x.vl : Int)] 36))
 have HR := Lib.hid (fun w => right15 ⟨x.th, k, x.rg, x.tk, x.vl⟩ w)
 clear h
 go_enter Tryz.func94, Tryz.ntmps94
 go_wp2_with fail
 refine (HR.out _).mono ?_
 rintro e w2 ⟨rfl, hb2⟩
 have HB2 := Lib.hid (HB.out.trans (hb2.mono HB.out.size))
 clear hb2
 go_wp2
 go_ret
 exact ⟨rfl, HB2.out⟩
abbrev usesV (g : Nat) : Value := .func (.func 94) #[] #[.pointer (some ⟨g, 0, none⟩)]
theorem usesField21 (x : Ev) (w : World) : Calls Tryz.prog 72 #[.agg (evC x)] w fun e w' => e = .returned (usesV w.heap.size) ∧ w' = w.alloc (.cells (evC x) 36) := by
 go_enter Tryz.func72, Tryz.ntmps72
 go_wp2
 go_ret
 exact ⟨rfl, rfl⟩
abbrev fnV (n : Nat) : Value := .func (.func n) #[] #[]
abbrev kindsC : Array Value := #[fnV 67, fnV 68, fnV 69, fnV 18, fnV 59]
abbrev zeroC : Array Value := #[.nilFunc, .nilFunc, .nilFunc, .nilFunc, .nilFunc]
theorem infoStream : (Tryz.prog.info? 74).map (·.size) = some 5 := by kernel_rfl
theorem under_stream : ∃ d, Tryz.prog.underlying 74 = some d ∧ d.isRow = true := ⟨_, Tryz.underlying74, rfl⟩
theorem kindsC_one : kindsC.all (·.oneCell') = true := by simp [Value.oneCell']
theorem kindsC_info : (Tryz.prog.info? 74).map (·.size) = some kindsC.size := infoStream
theorem kinds21 (w : World) : Calls Tryz.prog 37 #[] w fun e w' => e = .returned (.agg kindsC) ∧ Below w.heap.size w w' := by
 have l0 := Lies.made w 74 zeroC
 have th := arr_there l0 (n := kindsC.size) rfl
 have hst := arr_store l0 (L := kindsC.toList) rfl
 have hb := below_cellsA (Nat.le_refl w.heap.size) kindsC.toList 0 _ ((Below.refl w.heap.size w).alloc (Nat.le_refl _) (.cells zeroC 74))
 obtain ⟨d, hu, hd⟩ := under_stream
 go_enter Tryz.func37, Tryz.ntmps37
 go_wp2_with (refine wpList_store_mid rfl 74 _ _ rfl w.heap.size 0 kindsC rfl rfl th kindsC_info kindsC_one ?_)
 refine bodyPost_ret (v := .agg kindsC) (results_cell_arr Tryz.results37 _ _ w.heap.size kindsC.toList d rfl (arr_range hst) hu hd infoStream) rfl ?_
 exact ⟨rfl, hb⟩
def smpT : Ev := ⟨0, 0, 0, 1, 0⟩
def smpV : Ev := ⟨0, 0, 0, 0, 1⟩
abbrev ringC : List Value := [fnV 63, fnV 70, fnV 71, fnV 18, fnV 59]
abbrev tickC (g : Nat) : List Value := [usesV g, fnV 73, fnV 74, fnV 75, fnV 76]
abbrev valuC (g : Nat) : List Value := [usesV g, fnV 77, fnV 78, fnV 75, fnV 76]
theorem fields21 (w : World) : Calls Tryz.prog 39 #[] w fun e w' => e = .returned (.slice (some ⟨w.heap.size + 2, 0, none⟩) 3 3) ∧ Lies w' (w.heap.size + 2) 74 (ringC ++ (tickC w.heap.size ++ valuC (w.heap.size + 1))).toArray ∧
  Lies w' w.heap.size 36 (evC smpT) ∧ Lies w' (w.heap.size + 1) 36 (evC smpV) ∧ Below w.heap.size w w' := by
 go_enter Tryz.func39, Tryz.ntmps39
 go_wp2_with fail
 refine (usesField21 smpT w).mono ?_
 rintro e w1 ⟨rfl, rfl⟩
 go_wp2_with fail
 refine (usesField21 smpV _).mono ?_
 rintro e w1 ⟨rfl, rfl⟩
 go_wp2
 go_ret
 have hs : ((w.alloc (.cells (evC smpT) 36)).alloc (.cells (evC smpV) 36)).heap.size = w.heap.size + 2 := by simp
 have h1 := Lies.made ((w.alloc (.cells (evC smpT) 36)).alloc (.cells (evC smpV) 36)) 74 (ringC ++ (tickC w.heap.size ++ valuC (w.heap.size + 1))).toArray
 rw [hs] at h1
 have h2 := ((Lies.made w 36 (evC smpT)).alloc (.cells (evC smpV) 36)).alloc (.cells (ringC ++ (tickC w.heap.size ++ valuC (w.heap.size + 1))).toArray 74)
 have h3 := (Lies.made (w.alloc (.cells (evC smpT) 36)) 36 (evC smpV)).alloc (.cells (ringC ++ (tickC w.heap.size ++ valuC (w.heap.size + 1))).toArray 74)
 rw [World.size_alloc] at h3
 exact ⟨rfl, h1, h2, h3, ((((Below.refl _ _).alloc (Nat.le_refl _) _).alloc (by simp) _).alloc (by simp; omega) _)⟩
section
variable {w w' : World} {g : Nat} {s : ByteArray} {i : Nat}
theorem owns_rd {B : Nat} {e : TypeId} {sz n : Nat} {v : Value} {xs : List Value} (ho : w.ownsRow B e sz v n xs) (hr : RdAt w g s i) (hk : Kept (oneRow g) w w') (h1 : e ≠ 104) : w'.ownsRow B e sz v n xs :=
 owns_kept ho hk (fun r cur _ hl (he : r = g) => by subst he; exact h1 (hl.same hr.1).1)
theorem lies_rd {t : TypeId} {cs : Array Value} {k : Nat} (hl : Lies w k t cs) (hr : RdAt w g s i) (hk : Kept (oneRow g) w w') (h1 : t ≠ 104) : Lies w' k t cs :=
 hl.kept hk (fun (he : k = g) => by subst he; exact h1 (hl.same hr.1).1)
theorem RdAt.later (h : RdAt w g s i) (hb : Below w.heap.size w w') : RdAt w' g s i := h.kept (Kept.of_below hb) (fun hf => hf)
theorem RdAt.lt (h : RdAt w g s i) : g < w.heap.size := h.1.lt
theorem kept_below {S : Nat → Prop} {a : World} (k : Kept S a w) (hb : Below w.heap.size w w') : Kept S a w' :=
 k.trans (Kept.of_below hb) (fun _ _ hf => hf.elim)
end
def nextR (s : ByteArray) (p : Nat) (bef : List (Nat × Nat)) (room : Nat) : (Nat × Nat) × Nat × Nat :=
 if (rd (restOf s p)).2.1 ≠ 0 then ((0, 0), (rd (restOf s p)).2.1, p + (rd (restOf s p)).2.2)
 else if (rd (restOf s (p + (rd (restOf s p)).2.2))).2.1 ≠ 0 then ((0, 0), (rd (restOf s (p + (rd (restOf s p)).2.2))).2.1, p + (rd (restOf s p)).2.2 + (rd (restOf s (p + (rd (restOf s p)).2.2))).2.2)
 else (((rd (restOf s p)).1, (rd (restOf s (p + (rd (restOf s p)).2.2))).1 + 1),
  if lastIs bef (rd (restOf s p)).1 = true then 3 else if room ≤ (rd (restOf s (p + (rd (restOf s p)).2.2))).1 then 4 else 0, p + (rd (restOf s p)).2.2 + (rd (restOf s (p + (rd (restOf s p)).2.2))).2.2)
set_option maxHeartbeats 2000000 in
set_option maxRecDepth 100000 in
theorem runsNext (g : Nat) (s : ByteArray) (i : Nat) (v : Value) (bef : List (Nat × Nat)) (room B : Nat) (w : World) (h : RdAt w g s i) (ho : w.ownsRow B 68 2 v bef.length (cells2 bef)) (hroom : room ≤ 9223372036854775807) :
  Calls Tryz.prog 91 #[.pointer (some ⟨g, 0, none⟩), v, .int .u64 room] w fun e w' => ∃ x c : Nat,
  e = .returned (.tuple #[.agg #[.int .u64 x, .int .u64 c], .int .i64 (nextR s i bef room).2.1]) ∧ ((nextR s i bef room).2.1 = 0 → (nextR s i bef room).1 = (x, c)) ∧ RdAt w' g s (nextR s i bef room).2.2 ∧ Kept (oneRow g) w w' := by
 have hN : nextR s i bef room = nextR s i bef room := rfl
 conv at hN => rhs; unfold nextR
 have hb1 := rd_bound (restOf s i)
 have hb2 := rd_bound (restOf s (i + (rd (restOf s i)).2.2))
 generalize nextR s i bef room = R at *
 have hz : w.alloc (.cells #[.int .u64 0, .int .u64 0] 68) = w.alloc (.cells #[.int .u64 0, .int .u64 0] 68) := rfl
 have hli := Lies.made w 68 #[.int .u64 0, .int .u64 0]
 have hbl : Below w.heap.size w (w.alloc (.cells #[.int .u64 0, .int .u64 0] 68)) := (Below.refl _ _).alloc (Nat.le_refl _) _
 have h1 := h.later hbl
 have ho1 := owns_below ho hbl
 have k1 : Kept (oneRow g) w (w.alloc (.cells #[.int .u64 0, .int .u64 0] 68)) := Kept.alloc _ _ _
 have HV := Lib.hid (varintRead g s i _ h1)
 have HO := Lib.hid ho1
 have HR := Lib.hid h1
 have HL := Lib.hid hli
 have HN := Lib.hid hN
 have hvb : Hid (∀ r, v.ownBlock = some r → r < w.heap.size) := fun r hr => (ho.lt r hr).2
 clear hz h ho hbl h1 ho1 hli hN
 go_enter Tryz.func91, Tryz.ntmps91
 go_wp2_with fail
 generalize w.alloc (.cells #[.int .u64 0, .int .u64 0] 68) = w0 at *
 obtain ⟨g6, hg6⟩ : ∃ g6, g6 = w.heap.size := ⟨_, rfl⟩
 rw [← hg6] at HL ⊢
 have hgle : w.heap.size ≤ g6 := by omega
 clear hg6
 refine HV.out.mono ?_
 rintro e w1 ⟨rfl, h1, kk⟩
 have ho1 := owns_rd HO.out HR.out kk (by decide)
 have hl1 := lies_rd HL.out HR.out kk (by decide)
 have k1 := k1.trans kk (fun _ _ h => h)
 have HV2 := fun w (h : RdAt w g s (i + (rd (restOf s i)).2.2)) => varintRead g s _ w h
 have hN := HN.out
 clear HN
 generalize rd (restOf s i) = a at *
 obtain ⟨x, er, c⟩ := a
 simp only at HV2 hN hb1 hb2 h1
 have HV2' := Lib.hid HV2
 clear HV2
 have HV2 := HV2'
 clear HV2'
 have HN := Lib.hid hN
 clear hN
 have HO := Lib.hid ho1
 have HR := Lib.hid h1
 have HL := Lib.hid hl1
 have d0 := hl1.cell 0
 have d1 := hl1.cell 1
 have f0 := hl1.free 0
 have f1 := hl1.free 1
 simp at d0 d1
 clear ho1 h1 hl1 kk HV
 by_cases her : er = 0
 ·subst her
  have hN := HN.out
  rw [if_neg (show ¬ (0 : Nat) ≠ 0 by omega)] at hN
  clear HN
  have HN := Lib.hid hN
  clear hN
  go_wp2_with fail
  refine (HV2.out _ HR.out).mono ?_
  rintro e w2 ⟨rfl, h2, kk⟩
  have ho2 := owns_rd HO.out HR.out kk (by decide)
  have hl2 := lies_rd HL.out HR.out kk (by decide)
  have k2 := k1.trans kk (fun _ _ h => h)
  have hN := HN.out
  clear HN
  generalize rd (restOf s (i + c)) = a at *
  obtain ⟨y, er, c2⟩ := a
  simp only at hN hb2 h2
  have HN := Lib.hid hN
  have HO := Lib.hid ho2
  have HR := Lib.hid h2
  have HL := Lib.hid hl2
  have d2 := hl2.cell 0
  have d3 := hl2.cell 1
  have f2 := hl2.free 0
  have f3 := hl2.free 1
  simp at d2 d3
  clear ho2 h2 hl2 kk HV2 hN k1 d0 d1 f0 f1
  by_cases her : er = 0
  ·subst her
   have hN := HN.out
   rw [if_neg (show ¬ (0 : Nat) ≠ 0 by omega)] at hN
   clear HN
   have HN := Lib.hid hN
   clear hN
   by_cases hy : y = 18446744073709551615
   ·have e6 : ((y : Int) == 18446744073709551615) = true := by rw [beq_iff_eq]; omega
    have hry : room ≤ y := by omega
    have HA := Lib.hid (runsAgain v bef x w2 (SeqS.of_owns HO.out))
    have hR := HN.out
    clear HN hy hb1 hb2
    cases hla : lastIs bef x
    ·rw [hla, if_neg (by decide), if_pos hry] at hR
     rw [hla] at HA
     have HR2 := Lib.hid hR
     clear hR hry hla
     go_wp2_with fail
     refine HA.out.mono ?_
     rintro e w' ⟨rfl, rfl⟩
     have hls := (HL.out.put 0 (.int .u64 (0 : Nat))).put 1 (.int .u64 (0 : Nat))
     have hrs := ((HR.out.kept (Kept.put _ g6 0 (.int .u64 (0 : Nat))) (fun (e : g = g6) => by subst e; exact absurd (HR.out.1.same HL.out).1 (by decide))).kept (Kept.put _ g6 1 (.int .u64 (0 : Nat))) (fun (e : g = g6) => by subst e; exact absurd (HR.out.1.same HL.out).1 (by decide)))
     have hks := (k2.trans (Kept.put _ g6 0 (.int .u64 (0 : Nat))) (fun i hi (e : i = g6) => by omega)).trans (Kept.put _ g6 1 (.int .u64 (0 : Nat))) (fun i hi (e : i = g6) => by omega)
     have q0 := hls.cell 0
     have q1 := hls.cell 1
     simp at q0 q1
     have HRS := Lib.hid hrs
     have HKS := Lib.hid hks
     clear hls hrs hks
     go_wp2
     refine bodyPost_ret (v := .tuple #[.agg #[.int .u64 (0 : Nat), .int .u64 (0 : Nat)], .int .i64 (4 : Nat)]) (by simp [results, Tryz.results91, go_sem, q0, q1]) rfl ?_
     exact ⟨0, 0, by rw [HR2.out], fun h => by (rw [HR2.out] at h; simp at h), by rw [HR2.out]; exact HRS.out, HKS.out⟩
    ·rw [hla, if_pos rfl] at hR
     rw [hla] at HA
     have HR2 := Lib.hid hR
     clear hR hry hla
     go_wp2_with fail
     refine HA.out.mono ?_
     rintro e w' ⟨rfl, rfl⟩
     have hls := (HL.out.put 0 (.int .u64 (0 : Nat))).put 1 (.int .u64 (0 : Nat))
     have hrs := ((HR.out.kept (Kept.put _ g6 0 (.int .u64 (0 : Nat))) (fun (e : g = g6) => by subst e; exact absurd (HR.out.1.same HL.out).1 (by decide))).kept (Kept.put _ g6 1 (.int .u64 (0 : Nat))) (fun (e : g = g6) => by subst e; exact absurd (HR.out.1.same HL.out).1 (by decide)))
     have hks := (k2.trans (Kept.put _ g6 0 (.int .u64 (0 : Nat))) (fun i hi (e : i = g6) => by omega)).trans (Kept.put _ g6 1 (.int .u64 (0 : Nat))) (fun i hi (e : i = g6) => by omega)
     have q0 := hls.cell 0
     have q1 := hls.cell 1
     simp at q0 q1
     have HRS := Lib.hid hrs
     have HKS := Lib.hid hks
     clear hls hrs hks
     go_wp2
     refine bodyPost_ret (v := .tuple #[.agg #[.int .u64 (0 : Nat), .int .u64 (0 : Nat)], .int .i64 (3 : Nat)]) (by simp [results, Tryz.results91, go_sem, q0, q1]) rfl ?_
     exact ⟨0, 0, by rw [HR2.out], fun h => by (rw [HR2.out] at h; simp at h), by rw [HR2.out]; exact HRS.out, HKS.out⟩
   ·have e6 : ((y : Int) == 18446744073709551615) = false := by rw [beq_eq_false_iff_ne]; omega
    have hfit : (if lastIs bef x = true then 3 else if room ≤ y then 4 else 0) = fitE bef x (y + 1) room := by
     simp [fitE, Nat.lt_succ_iff]
    have hR := HN.out
    rw [hfit] at hR
    have HR2 := Lib.hid hR
    have hyi : (y : Int) < 18446744073709551615 := by omega
    clear hR HN hy hfit
    have hF : ∀ w', w'.ownsRow B 68 2 v bef.length (cells2 bef) → Calls Tryz.prog 106 #[v, .agg #[.int .u64 x, .int .u64 ((y : Int) + 1)], .int .u64 room] w' fun e w2 => e = .returned (.int .i64 (fitE bef x (y + 1) room : Nat)) ∧ Below w'.heap.size w' w2 :=
     fun w' ho => runsFits v bef x (y + 1) room w' (SeqS.of_owns ho) (by unfold M64; omega) (by unfold M64; omega)
    have HF := Lib.hid hF
    clear hF
    generalize fitE bef x (y + 1) room = E at *
    have hl11 := Lies.made w2 68 #[.int .u64 (x : Int), .int .u64 ((y : Int) + 1)]
    have hbA : Below w2.heap.size w2 (w2.alloc (.cells #[.int .u64 (x : Int), .int .u64 ((y : Int) + 1)] 68)) := (Below.refl _ _).alloc (Nat.le_refl _) _
    have hoA := owns_below HO.out hbA
    have hrA := HR.out.later hbA
    have hl6 := HL.out.below hbA HL.out.lt
    have hkA := kept_below k2 hbA
    have hg11 : w2.heap.size ≠ g6 := by have := HL.out.lt; omega
    have hgg6 : g ≠ g6 := fun e => by subst e; exact absurd (HR.out.1.same HL.out).1 (by decide)
    go_wp2_with fail
    generalize w2.alloc (.cells #[.int .u64 (x : Int), .int .u64 ((y : Int) + 1)] 68) = wA at *
    generalize w2.heap.size = g11 at *
    clear hbA HO HR HL k2 d2 d3 f2 f3
    have hKeep : Hid (∀ a b' : World, Below a.heap.size a b' → (Lies a g11 68 #[.int .u64 (x : Int), .int .u64 ((y : Int) + 1)] ∧ (∃ p q, Lies a g6 68 #[p, q]) ∧ a.ownsRow B 68 2 v bef.length (cells2 bef) ∧ RdAt a g s (i + c + c2) ∧ Kept (oneRow g) w a) →
      (Lies b' g11 68 #[.int .u64 (x : Int), .int .u64 ((y : Int) + 1)] ∧ (∃ p q, Lies b' g6 68 #[p, q]) ∧ b'.ownsRow B 68 2 v bef.length (cells2 bef) ∧ RdAt b' g s (i + c + c2) ∧ Kept (oneRow g) w b')) :=
     fun a b' hb ⟨h1, ⟨p, q, h2⟩, h3, h4, h5⟩ => ⟨h1.below hb h1.lt, ⟨p, q, h2.below hb h2.lt⟩, owns_below h3 hb, h4.later hb, kept_below h5 hb⟩
    have HC : Hid (∀ w', (Lies w' g11 68 #[.int .u64 (x : Int), .int .u64 ((y : Int) + 1)] ∧ (∃ p q, Lies w' g6 68 #[p, q]) ∧ w'.ownsRow B 68 2 v bef.length (cells2 bef) ∧ RdAt w' g s (i + c + c2) ∧ Kept (oneRow g) w w') ∧ Below 0 wA w' ∧ 0 ≤ w'.heap.size →
      Calls Tryz.prog 106 #[v, .agg #[.int .u64 x, .int .u64 ((y : Int) + 1)], .int .u64 room] w' fun e w2 => e = .returned (.int .i64 (E : Nat)) ∧ Below w'.heap.size w' w2) := fun w' h => HF.out w' h.1.2.2.1
    try simp only [Act.put, List.setIfInBounds_toArray, List.set_cons_zero, List.set_cons_succ]
    refine wp_region_held_drew (S := fun w' => (Lies w' g11 68 #[.int .u64 (x : Int), .int .u64 ((y : Int) + 1)] ∧ (∃ p q, Lies w' g6 68 #[p, q]) ∧ w'.ownsRow B 68 2 v bef.length (cells2 bef) ∧ RdAt w' g s (i + c + c2) ∧ Kept (oneRow g) w w') ∧ Below 0 wA w' ∧ 0 ≤ w'.heap.size) (by kernel_rfl)
     ⟨⟨hl11, ⟨_, _, hl6⟩, hoA, hrA.kept (Kept.drewN noRow wA 1) (fun h => h), hkA.trans (Kept.drewN noRow wA 1) (fun _ _ h => h.elim)⟩, (Below.refl 0 wA).drew, Nat.zero_le _⟩ (fun hHeld => ?_)
    clear hl11 hl6 hoA hrA hkA
    refine wpAnyH_take (i := 0) (v := (.agg #[.int .u64 x, .int .u64 ((y : Int) + 1)])) rfl (by kernel_rfl) (by kernel_rfl) (by kernel_rfl) (fun _ _ _ h => h) (Or.inl ⟨by rfl, fun w h => by (simp only [List.getElem_toArray, List.getElem_cons_succ, List.getElem_cons_zero]; have h1 := h.1.1.cell 0; have h2 := h.1.1.cell 1; simp at h1 h2; clear h; go_simp)⟩) (by assumption) ?_
    simp only [Act.put, List.getElem_toArray, List.getElem_cons_succ, List.getElem_cons_zero, List.setIfInBounds_toArray, List.set_cons_zero, List.set_cons_succ]
    refine wpAnyH_take (i := 1) (v := v) rfl (by kernel_rfl) (by kernel_rfl) (by kernel_rfl) (fun _ _ _ h => h) (Or.inl ⟨by rfl, fun w h => by (simp only [List.getElem_toArray, List.getElem_cons_succ, List.getElem_cons_zero]; clear h; go_simp)⟩) (by assumption) ?_
    simp only [Act.put, List.getElem_toArray, List.getElem_cons_succ, List.getElem_cons_zero, List.setIfInBounds_toArray, List.set_cons_zero, List.set_cons_succ]
    refine wpAnyH_take (i := 2) (v := (.agg #[.int .u64 x, .int .u64 ((y : Int) + 1)])) rfl (by kernel_rfl) (by kernel_rfl) (by kernel_rfl) (fun _ _ _ h => h) (Or.inl ⟨by rfl, fun w h => by (simp only [List.getElem_toArray, List.getElem_cons_succ, List.getElem_cons_zero]; have h1 := h.1.1.cell 0; have h2 := h.1.1.cell 1; simp at h1 h2; clear h; go_simp)⟩) (by assumption) ?_
    simp only [Act.put, List.getElem_toArray, List.getElem_cons_succ, List.getElem_cons_zero, List.setIfInBounds_toArray, List.set_cons_zero, List.set_cons_succ]
    refine wpAnyH_take (i := 3) (v := (.int .u64 room)) rfl (by kernel_rfl) (by kernel_rfl) (by kernel_rfl) (fun _ _ _ h => h) (Or.inl ⟨by rfl, fun w h => by (simp only [List.getElem_toArray, List.getElem_cons_succ, List.getElem_cons_zero]; clear h; go_simp)⟩) (by assumption) ?_
    simp only [Act.put, List.getElem_toArray, List.getElem_cons_succ, List.getElem_cons_zero, List.setIfInBounds_toArray, List.set_cons_zero, List.set_cons_succ]
    refine wpAnyH_ready (rs := [4]) (by kernel_rfl) (by simp) ?_
    refine AllReadyH.cons rfl (fun K hK => ?_) AllReadyH.nil
    rw [if_pos (by rfl)]
    go_wp2_with fail
    refine (keep_callS hKeep.out (HC.out _ hHeld) (by assumption)).mono ?_
    rintro e w' ⟨he, q⟩
    cases he
    dsimp only
    refine hK.out _ _ q (fun hHeld => ?_)
    clear hK K
    try simp only [Act.put, List.setIfInBounds_toArray, List.set_cons_zero, List.set_cons_succ]
    refine wpAnyH_ready (rs := [5]) (by kernel_rfl) (by simp) ?_
    refine AllReadyH.cons rfl (fun K hK => ?_) AllReadyH.nil
    rw [if_pos (by rfl)]
    obtain ⟨⟨hl11, ⟨p, q, hl6⟩, ho, hr, hk⟩, hb0, hb1⟩ := hHeld
    have d2 := hl6.cell 0
    have d3 := hl6.cell 1
    have f2 := hl6.free 0
    have f3 := hl6.free 1
    simp at d2 d3
    have hls := (hl6.put 0 (.int .u64 (x : Int))).put 1 (.int .u64 ((y : Int) + 1))
    have hl11 := (hl11.far (p := ⟨g6, 0, none⟩) hg11 (.int .u64 (x : Int))).far (p := ⟨g6, 1, none⟩) hg11 (.int .u64 ((y : Int) + 1))
    have ho := owns_kept (owns_kept ho (Kept.put _ g6 0 (.int .u64 (x : Int))) (fun r _ hr _ (e : r = g6) => by have := hvb.out r hr; omega)) (Kept.put _ g6 1 (.int .u64 ((y : Int) + 1))) (fun r _ hr _ (e : r = g6) => by have := hvb.out r hr; omega)
    have hr := (hr.kept (Kept.put _ g6 0 (.int .u64 (x : Int))) (fun (e : g = g6) => hgg6 e)).kept (Kept.put _ g6 1 (.int .u64 ((y : Int) + 1))) (fun (e : g = g6) => hgg6 e)
    have hk := (hk.trans (Kept.put _ g6 0 (.int .u64 (x : Int))) (fun i hi (e : i = g6) => by omega)).trans (Kept.put _ g6 1 (.int .u64 ((y : Int) + 1))) (fun i hi (e : i = g6) => by omega)
    have hb0 := (hb0.setCell (p := ⟨g6, 0, none⟩) (Nat.zero_le _) (.int .u64 (x : Int))).setCell (p := ⟨g6, 1, none⟩) (Nat.zero_le _) (.int .u64 ((y : Int) + 1))
    have q0 := hls.cell 0
    have q1 := hls.cell 1
    simp at q0 q1 hls
    go_wp2_with fail
    refine hK.out _ _ ⟨⟨hl11, ⟨_, _, hls⟩, ho, hr, hk⟩, hb0, Nat.zero_le _⟩ (fun hHeld => ?_)
    have HRS := Lib.hid hr
    have HKS := Lib.hid hk
    clear hK K hl11 hls ho hr hk hb0 hb1
    try simp only [Act.put, List.setIfInBounds_toArray, List.set_cons_zero, List.set_cons_succ]
    refine wpAnyH_ready (rs := [6]) (by kernel_rfl) (by simp) ?_
    refine AllReadyH.cons rfl (fun K hK => ?_) AllReadyH.nil
    rw [if_pos (by rfl)]
    go_wp2_with fail
    refine hK.out _ _ (by assumption) (fun hHeld => ?_)
    clear hK K
    try simp only [Act.put, List.setIfInBounds_toArray, List.set_cons_zero, List.set_cons_succ]
    refine wpAnyH_done (by kernel_rfl) ?_ _
    go_wp2
    refine bodyPost_ret (v := .tuple #[.agg #[.int .u64 x, .int .u64 (y + 1 : Nat)], .int .i64 (E : Nat)]) (by simp [results, Tryz.results91, go_sem, q0, q1]) rfl ?_
    exact ⟨x, y + 1, by rw [HR2.out], fun h => by rw [HR2.out], by rw [HR2.out]; exact HRS.out, HKS.out⟩
  ·have e5 : ((er : Int) != 0) = true := by simp; omega
   have hR := HN.out
   rw [if_pos her] at hR
   have HR2 := Lib.hid hR
   clear hR HN her hb1 hb2
   have hls := (HL.out.put 0 (.int .u64 (0 : Nat))).put 1 (.int .u64 (0 : Nat))
   have hrs := ((HR.out.kept (Kept.put _ g6 0 (.int .u64 (0 : Nat))) (fun (e : g = g6) => by subst e; exact absurd (HR.out.1.same HL.out).1 (by decide))).kept (Kept.put _ g6 1 (.int .u64 (0 : Nat))) (fun (e : g = g6) => by subst e; exact absurd (HR.out.1.same HL.out).1 (by decide)))
   have hks := (k2.trans (Kept.put _ g6 0 (.int .u64 (0 : Nat))) (fun i hi (e : i = g6) => by omega)).trans (Kept.put _ g6 1 (.int .u64 (0 : Nat))) (fun i hi (e : i = g6) => by omega)
   have q0 := hls.cell 0
   have q1 := hls.cell 1
   simp at q0 q1
   have HRS := Lib.hid hrs
   have HKS := Lib.hid hks
   clear hls hrs hks
   go_wp2
   refine bodyPost_ret (v := .tuple #[.agg #[.int .u64 (0 : Nat), .int .u64 (0 : Nat)], .int .i64 (er : Nat)]) (by simp [results, Tryz.results91, go_sem, q0, q1]) rfl ?_
   exact ⟨0, 0, by rw [HR2.out], fun h => by (rw [HR2.out]), by rw [HR2.out]; exact HRS.out, HKS.out⟩
 ·have e5 : ((er : Int) != 0) = true := by simp; omega
  have hR := HN.out
  rw [if_pos her] at hR
  have HR2 := Lib.hid hR
  clear hR HN her HV2 hb1 hb2
  have hls := (HL.out.put 0 (.int .u64 (0 : Nat))).put 1 (.int .u64 (0 : Nat))
  have hrs := ((HR.out.kept (Kept.put _ g6 0 (.int .u64 (0 : Nat))) (fun (e : g = g6) => by subst e; exact absurd (HR.out.1.same HL.out).1 (by decide))).kept (Kept.put _ g6 1 (.int .u64 (0 : Nat))) (fun (e : g = g6) => by subst e; exact absurd (HR.out.1.same HL.out).1 (by decide)))
  have hks := (k1.trans (Kept.put _ g6 0 (.int .u64 (0 : Nat))) (fun i hi (e : i = g6) => by omega)).trans (Kept.put _ g6 1 (.int .u64 (0 : Nat))) (fun i hi (e : i = g6) => by omega)
  have q0 := hls.cell 0
  have q1 := hls.cell 1
  simp at q0 q1
  have HRS := Lib.hid hrs
  have HKS := Lib.hid hks
  clear hls hrs hks
  go_wp2
  refine bodyPost_ret (v := .tuple #[.agg #[.int .u64 (0 : Nat), .int .u64 (0 : Nat)], .int .i64 (er : Nat)]) (by simp [results, Tryz.results91, go_sem, q0, q1]) rfl ?_
  exact ⟨0, 0, by rw [HR2.out], fun h => by (rw [HR2.out]), by rw [HR2.out]; exact HRS.out, HKS.out⟩
def readR : Nat → ByteArray → Nat → List (Nat × Nat) → Nat → List (Nat × Nat) × Nat × Nat
 | 0, _, p, bef, _ => (bef, 0, p)
 | n + 1, s, p, bef, room =>
  if (nextR s p bef room).2.1 = 0 then readR n s (nextR s p bef room).2.2 (bef ++ [(nextR s p bef room).1]) (room - (nextR s p bef room).1.2)
  else (bef, (nextR s p bef room).2.1, (nextR s p bef room).2.2)
def redE (s : ByteArray) (p : Nat) (most : Int) : Nat :=
 if most < 0 then 1 else if (rd (restOf s p)).2.1 ≠ 0 then (rd (restOf s p)).2.1 else (readR (rd (restOf s p)).1 s (p + (rd (restOf s p)).2.2) [] most.toNat).2.1
def redAt (s : ByteArray) (p : Nat) (most : Int) : Nat :=
 if most < 0 then p else if (rd (restOf s p)).2.1 ≠ 0 then p + (rd (restOf s p)).2.2 else (readR (rd (restOf s p)).1 s (p + (rd (restOf s p)).2.2) [] most.toNat).2.2
def redOf (s : ByteArray) (p : Nat) (most : Int) : List Nat := if redE s p most = 0 then spreads (readR (rd (restOf s p)).1 s (p + (rd (restOf s p)).2.2) [] most.toNat).1 else []
theorem nextR_ok {s : ByteArray} {p : Nat} {bef : List (Nat × Nat)} {room : Nat} (h : (nextR s p bef room).2.1 = 0) :
  1 ≤ (nextR s p bef room).1.2 ∧ (nextR s p bef room).1.2 ≤ room ∧ p + 2 ≤ (nextR s p bef room).2.2 ∧ (nextR s p bef room).1.1 < M64 ∧ lastIs bef (nextR s p bef room).1.1 = false := by
 unfold nextR at h ⊢
 have h1 := rd_ok (restOf s p)
 have h2 := rd_ok (restOf s (p + (rd (restOf s p)).2.2))
 have h3 := rd_bound (restOf s p)
 by_cases e1 : (rd (restOf s p)).2.1 = 0
 ·rw [if_neg (by omega)] at h
  rw [if_neg (by omega)]
  generalize rd (restOf s (p + (rd (restOf s p)).2.2)) = b at *
  generalize rd (restOf s p) = a at *
  by_cases e2 : b.2.1 = 0
  ·rw [if_neg (by omega)] at h
   rw [if_neg (by omega)]
   simp only at h ⊢
   cases hl : lastIs bef a.1
   ·rw [hl, if_neg (by decide)] at h
    by_cases e3 : room ≤ b.1
    ·rw [if_pos e3] at h; omega
    ·have := h1 e1
     have := h2 e2
     exact ⟨by omega, by omega, by omega, by unfold M64; omega, rfl⟩
   ·rw [hl, if_pos rfl] at h; omega
  ·rw [if_pos e2] at h; exact absurd h e2
 ·rw [if_pos e1] at h; exact absurd h e1
set_option maxHeartbeats 2000000 in
set_option maxRecDepth 100000 in
theorem runsRead (g : Nat) (s : ByteArray) (i : Nat) (most : Int) (w : World) (h : RdAt w g s i) (hs : s.size ≤ 1099511627776) (h1 : most ≤ 1099511627776) (h2 : -9223372036854775808 ≤ most) :
  Calls Tryz.prog 59 #[.pointer (some ⟨g, 0, none⟩), .int .i64 most] w fun e w' => ∃ v,
  e = .returned (.tuple #[v, .int .i64 (redE s i most : Nat)]) ∧ w'.ownsRow w.heap.size 34 1 v (redOf s i most).length (cells64 (redOf s i most)) ∧ RdAt w' g s (redAt s i most) ∧ Kept (oneRow g) w w' := by
 by_cases hneg : most < 0
 ·have hE : redE s i most = 1 := by unfold redE; rw [if_pos hneg]
  have hA : redAt s i most = i := by unfold redAt; rw [if_pos hneg]
  have hO : redOf s i most = [] := by unfold redOf; rw [hE]; rfl
  rw [hE, hA, hO]
  clear hE hA hO
  go_enter Tryz.func59, Tryz.ntmps59
  go_wp2
  go_ret2
  exact ⟨_, rfl, World.ownsRow_nil _ _ _ _, h, Kept.refl _ _⟩
 obtain ⟨M, rfl⟩ : ∃ M : Nat, most = M := ⟨most.toNat, by omega⟩
 have e0 : decide ((M : Int) < 0) = false := by simp
 have hM : M ≤ 1099511627776 := by omega
 have hE : redE s i M = if (rd (restOf s i)).2.1 ≠ 0 then (rd (restOf s i)).2.1 else (readR (rd (restOf s i)).1 s (i + (rd (restOf s i)).2.2) [] M).2.1 := by
  unfold redE; rw [if_neg hneg, Int.toNat_natCast]
 have hA : redAt s i M = if (rd (restOf s i)).2.1 ≠ 0 then i + (rd (restOf s i)).2.2 else (readR (rd (restOf s i)).1 s (i + (rd (restOf s i)).2.2) [] M).2.2 := by
  unfold redAt; rw [if_neg hneg, Int.toNat_natCast]
 have hO : redOf s i M = if redE s i M = 0 then spreads (readR (rd (restOf s i)).1 s (i + (rd (restOf s i)).2.2) [] M).1 else [] := by unfold redOf; rw [Int.toNat_natCast]
 have hb := rd_bound (restOf s i)
 have hused := rd_ok (restOf s i)
 have HV := Lib.hid (varintRead g s i w h)
 have hgs := h.1.lt
 generalize redE s i M = E at *
 generalize redAt s i M = P at *
 generalize redOf s i M = O at *
 generalize rd (restOf s i) = r at *
 obtain ⟨n, er, c⟩ := r
 simp only at hb hE hA hO hused
 have HE := Lib.hid hE
 have HA := Lib.hid hA
 have HO := Lib.hid hO
 have HU := Lib.hid hused
 clear hE hA hO hused h1 h2 hneg h
 go_enter Tryz.func59, Tryz.ntmps59
 go_wp2_with fail
 refine HV.out.mono ?_
 rintro e w1 ⟨rfl, h1, k1⟩
 by_cases her : er = 0
 ·subst her
  have hc1 : 1 ≤ c := HU.out rfl
  have qE := HE.out
  have qA := HA.out
  rw [if_neg (show ¬ (0 : Nat) ≠ 0 by omega)] at qE qA
  clear HE HA
  have HE := Lib.hid qE
  have HA := Lib.hid qA
  clear qE qA HU HV
  have HR1 := Lib.hid h1
  have hs1 := k1.size
  clear h1
  go_wp2
  go_loopw [8, 9] (fun t r wr => ∃ (d : List (Nat × Nat)) (p room : Nat), r = .int .u64 room ∧ d.length ≤ n ∧ d.length ≤ p ∧ room ≤ M ∧ RdAt wr g s p ∧ wr.ownsRow w.heap.size 68 2 t d.length (cells2 d) ∧ Kept (oneRow g) w wr ∧
    Hid (readR n s (i + c) [] M = readR (n - d.length) s p d room) ∧ Hid ((spreads d).length + room = M) ∧ Hid (∀ q ∈ d, q.1 < M64 ∧ q.2 < M64))
   (fun t _ _ => n - (match t with | .slice _ l _ => l | _ => 0))
  case atStart => exact ⟨[], i + c, M, rfl, by simp, by simp, by omega, HR1.out, World.ownsRow_nil _ _ _ _, k1, rfl, by show (spreads []).length + M = M; simp [spreads], fun q hq => by simp at hq⟩
  case round =>
   clear HR1 k1
   obtain ⟨d, p, room, rfl, hdn, hdp, hroom, hr, ho, hk, hU, hT, hQ⟩ := hrel
   obtain ⟨A, cp, hv, hc2, hc3, _⟩ := (SeqS.of_owns ho).form
   have hps := hr.2.1
   by_cases hlt : d.length < n
   ·have e1 : decide (d.length < n) = true := by simpa using hlt
    have hst : readR (n - d.length) s p d room = if (nextR s p d room).2.1 = 0 then readR (n - (d.length + 1)) s (nextR s p d room).2.2 (d ++ [(nextR s p d room).1]) (room - (nextR s p d room).1.2) else (d, (nextR s p d room).2.1, (nextR s p d room).2.2) := by
     rw [show n - d.length = (n - (d.length + 1)) + 1 by omega, readR]
    have hok := nextR_ok (s := s) (p := p) (bef := d) (room := room)
    have hN := runsNext g s p _ d room w.heap.size _ hr ho (by omega)
    rw [hv] at hN ho
    rw [hv]
    generalize nextR s p d room = R at *
    obtain ⟨⟨x0, c0⟩, er, p2⟩ := R
    simp only at hst hok hN
    have HST := Lib.hid hst
    have HOK := Lib.hid hok
    have HN := Lib.hid hN
    have HO1 := Lib.hid ho
    have HR1 := Lib.hid hr
    clear hst hok hN ho hr hv
    go_wp2_with fail
    refine HN.out.mono ?_
    rintro e w2 ⟨x, c1, rfl, hxc, hr2, k2⟩
    have ho2 := owns_rd HO1.out HR1.out k2 (by decide)
    have hk2 := hk.trans k2 (fun _ _ h => h)
    have hks := hk2.size
    have hli := Lies.made w2 68 #[.int .u64 (x : Int), .int .u64 (c1 : Int)]
    have hbA : Below w2.heap.size w2 (w2.alloc (.cells #[.int .u64 (x : Int), .int .u64 (c1 : Int)] 68)) := (Below.refl _ _).alloc (Nat.le_refl _) _
    have hoA := owns_below ho2 hbA
    have hrA := hr2.later hbA
    have hkA := kept_below hk2 hbA
    have hvb : ∀ k, Value.ownBlock (.slice A d.length cp) = some k → k < w2.heap.size := fun k hk => (ho2.lt k hk).2
    have HVB := Lib.hid hvb
    have d0 := hli.cell 0
    have d1 := hli.cell 1
    simp at d0 d1
    have HXC := Lib.hid hxc
    clear HN ho2 hr2 k2 hbA HO1 HR1 hk hk2 hvb hxc
    by_cases her : er = 0
    ·subst her
     obtain ⟨j1, j2, j3, j4, _⟩ := HOK.out rfl
     have hx := HXC.out rfl
     simp only [Prod.mk.injEq] at hx
     obtain ⟨rfl, rfl⟩ := hx
     have hU' : Hid (readR n s (i + c) [] M = readR (n - (d.length + 1)) s p2 (d ++ [(x0, c0)]) (room - c0)) := hU.out.trans (by rw [HST.out, if_pos rfl])
     have hT' : Hid ((spreads (d ++ [(x0, c0)])).length + (room - c0) = M) := by
      show (spreads (d ++ [(x0, c0)])).length + (room - c0) = M
      have := hT.out
      rw [spreads_append, spreads_one, List.length_append, List.length_replicate]; omega
     have hQ' : Hid (∀ q ∈ d ++ [(x0, c0)], q.1 < M64 ∧ q.2 < M64) := fun q hq => by
      rcases List.mem_append.1 hq with hq | hq
      ·exact hQ.out q hq
      ·simp at hq; subst hq; exact ⟨j4, by unfold M64; simp only; omega⟩
     have hsub : IntKind.u64.wrap ((room : Int) - (c0 : Int)) = ((room - c0 : Nat) : Int) := by rw [IntKind.wrap_u64]; omega
     have hps2 := hrA.2.1
     unfold M64 at j4
     clear HST HOK HXC hU hT hQ
     have hwg : w.heap.size ≤ (w2.alloc (.cells #[.int .u64 (x0 : Int), .int .u64 (c0 : Int)] 68)).heap.size := by have := hkA.size; exact this
     have HOA := Lib.hid hoA
     have HRA := Lib.hid hrA
     have HLI := Lib.hid hli
     have HKA := Lib.hid hkA
     clear hoA hrA hli hkA
     have hsz : (w2.alloc (.cells #[.int .u64 (x0 : Int), .int .u64 (c0 : Int)] 68)).heap.size = w2.heap.size + 1 := by simp
     have HSZ := Lib.hid hsz
     clear hsz
     go_wp2_with (at_builtin; refine append_oneS (w2.alloc (.cells #[.int .u64 (x0 : Int), .int .u64 (c0 : Int)] 68)) #[.int .u64 x0, .int .u64 c0] 2 rfl (.tmp 43) (.tmp 45) 64 rfl w.heap.size 68 _ 16 Tryz.underlying64 Tryz.infoRun rfl (by omega) rfl (by simp [Value.oneCell']) _ _ _ rfl HOA.out (by rw [HSZ.out]; rfl) (by unfold maxLen; omega) (by omega) hwg ?_)
     intro v' w3 ho3 hb3 hgr
     have hk3 := kept_append HKA.out HOA.out (Nat.le_refl _) hgr
     have hr3 := HRA.out.kept (kept_grown hgr) (own_ne HOA.out HRA.out.1 (by decide))
     have ho3' : w3.ownsRow w.heap.size 68 2 v' (d ++ [(x0, c0)]).length (cells2 (d ++ [(x0, c0)])) := by
      rw [List.length_append, cells2_append]; exact ho3
     obtain ⟨A3, cp3, hv3, _⟩ := (SeqS.of_owns ho3).form
     rw [hv3] at ho3'
     rw [hv3]
     have HK3 := Lib.hid hk3
     have HR3 := Lib.hid hr3
     have HO3 := Lib.hid ho3'
     have hdl : (d ++ [(x0, c0)]).length = d.length + 1 := by simp
     have HDL := Lib.hid hdl
     clear hk3 hr3 ho3' ho3 hb3 hgr HOA HRA HLI HKA d0 d1 hv3 hdl HSZ
     go_wp2
     go_roundw
     case rel => exact ⟨d ++ [(x0, c0)], p2, room - c0, by first | rfl | rw [hsub], by rw [HDL.out]; omega, by rw [HDL.out]; omega, by omega, HR3.out, HO3.out, HK3.out, by show _ = _; rw [HDL.out]; exact hU'.out, hT', hQ'⟩
     case measure => simp; omega
    ·have e5 : ((er : Int) != 0) = true := by simp; omega
     have hst := HST.out
     rw [if_neg her] at hst
     have hU2 := hU.out.trans hst
     have hE2 : E = er := by rw [HE.out, hU2]
     have hA2 : P = p2 := by rw [HA.out, hU2]
     have hO2 : O = [] := by rw [HO.out, hE2, if_neg her]
     have HE2 := Lib.hid hE2
     have HA2 := Lib.hid hA2
     have HO2 := Lib.hid hO2
     have HRA := Lib.hid hrA
     have HKA := Lib.hid hkA
     clear hst hU2 hE2 hA2 hO2 her HST HOK HXC HE HA HO hU hT hQ hoA hrA hkA hli
     go_wp2
     go_ret2
     exact ⟨_, by rw [HE2.out]; rfl, by rw [HO2.out]; exact World.ownsRow_nil _ _ _ _, by rw [HA2.out]; exact HRA.out, HKA.out⟩
   ·obtain hdn' : d.length = n := by omega
    have e1 : decide (d.length < n) = false := by simpa using hlt
    have hU := hU.out
    rw [hdn', Nat.sub_self] at hU
    have hU2 : readR n s (i + c) [] M = (d, 0, p) := hU
    have hE2 : E = 0 := by rw [HE.out, hU2]
    have hA2 : P = p := by rw [HA.out, hU2]
    have hO2 : O = spreads d := by rw [HO.out, hE2, if_pos rfl, hU2]
    have hT1 := hT.out
    have HSP := Lib.hid (runsSpread _ d _ (SeqS.of_owns ho) (by omega) hQ.out)
    rw [hv] at HSP
    rw [hv]
    have HE2 := Lib.hid hE2
    have HA2 := Lib.hid hA2
    have HO2 := Lib.hid hO2
    have hks := hk.size
    clear hv hU hU2 hE2 hA2 hO2 hT1 ho HE HA HO hT hdn'
    go_wp2_with fail
    refine HSP.out.mono ?_
    rintro e w' ⟨v', rfl, ho, hb2⟩
    have ho := owns_mono ho hks
    have hr' := hr.later hb2
    have hk' := kept_below hk hb2
    go_wp2
    go_ret2
    exact ⟨_, by rw [HE2.out]; rfl, by rw [HO2.out]; exact ho, by rw [HA2.out]; exact hr', hk'⟩
 ·have e5 : ((er : Int) != 0) = true := by simp; omega
  have qE := HE.out
  have qA := HA.out
  rw [if_pos her] at qE qA
  have qO : O = [] := by rw [HO.out, qE, if_neg her]
  have QE := Lib.hid qE
  have QA := Lib.hid qA
  have QO := Lib.hid qO
  clear qE qA qO HE HA HO HU her
  go_wp2
  go_ret2
  exact ⟨_, by rw [QE.out]; rfl, by rw [QO.out]; exact World.ownsRow_nil _ _ _ _, by rw [QA.out]; exact h1, k1⟩
end Go.Proofs.YtmadgdmiipgjoaaGreat
