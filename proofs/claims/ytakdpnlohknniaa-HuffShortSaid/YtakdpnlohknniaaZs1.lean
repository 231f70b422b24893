import Derived.WalkKit
import Derived.ProofKit
import Derived.Lib.Hide
import Derived.Lib.AppendStr
import Derived.Lib.SlBytesRow
import Derived.Laws.AppendOwnNone
import Derived.Deep.AppendLies
import Derived.Deep.Draws
import Derived.BigQuiet
import Derived.Deep.QuietTactic
import Derived.Deep.RegionWith
import Derived.OpenShut
import Derived.Outline
import Derived.Deep.Slices
import Derived.ChangeSame
import Derived.Laws.IdiomStrings
import Derived.SliceStrings
import Derived.Laws.DeepStrings4
import Derived.SizedLaws
import Derived.Laws.OwnMore
import Derived.Test.YtakdpnlohknniaaRows
import Derived.Deep.OwnRows
import Derived.Deep.MidRow
import Derived.IntWalk
import Derived.Lib.BufferRead
import Derived.Laws.BitsAllLaws
import Derived.Laws.Bits64
import Derived.Laws.Bits64b
import Derived.Deep.RegionHeld3
import Derived.RegionTactic
import Derived.StillTailTactics
import Derived.Deep.RegionLaw
import Derived.Laws.CopyOwn
import Derived.Deep.DeepFit
import Derived.Deep.DeepCutAuto
import Derived.ShutString
import Derived.ChangeOld
import Derived.Below
import Derived.Test.YtakdpnlohknniaaZz5
namespace Go.Proofs.Ytakdpnlohknniaa
open Go.RowKit
set_option linter.unusedVariables false
set_option linter.unusedSimpArgs false
set_option maxHeartbeats 1000000 in
set_option maxRecDepth 100000 in
theorem refCount (s : ByteArray) (w : World) (hs : s.size ≤ 1099511627776) :
  Calls Try.prog 18 #[.string s] w fun e w' => e = .returned (.agg (cells64 (cntL s.data.toList)).toArray) ∧ Below w.heap.size w w' := by
 obtain ⟨zs, hzs⟩ : ∃ zs : Array Value, zs = Array.replicate 256 (.int .u64 0) := ⟨_, rfl⟩
 have hz := zero64
 rw [← hzs] at hz
 have hzl : zs = (cells64 (cntL [])).toArray := by
  rw [hzs, cntL_nil]
  unfold cells64
  rw [List.map_replicate]
  exact (List.toArray_replicate 256 _).symm
 have hzn : zs.size = 256 := by rw [hzs, Array.size_replicate]
 have HZL := Lib.hid hzl
 have HZN := Lib.hid hzn
 clear hzs hzl hzn
 go_enter Try.func18, Try.ntmps18
 have l0 := (Lies.made w 25 zs).alloc (.cells zs 25)
 have l1 := Lies.made (w.alloc (.cells zs 25)) 25 zs
 have hb1 : Below w.heap.size w ((w.alloc (.cells zs 25)).alloc (.cells zs 25)) := ((Below.refl _ _).alloc (Nat.le_refl _) _).alloc (by simp) _
 have hgs : (w.alloc (.cells zs 25)).heap.size = w.heap.size + 1 := by simp
 rw [hgs] at l1
 have H0 := Lib.hid l0
 have H1 := Lib.hid l1
 have HB := Lib.hid hb1
 clear l0 l1 hb1
 go_wp2_with fail
 clear hz hgs
 generalize (w.alloc (.cells zs 25)).alloc (.cells zs 25) = w1 at *
 go_loopw [4] (fun c wr => ∃ i : Nat, i ≤ s.size ∧ c = .int .i64 i ∧ Lies wr w.heap.size 25 zs ∧ Lies wr (w.heap.size + 1) 25 (cells64 (cntL (s.data.toList.take i))).toArray ∧ Below w.heap.size w wr)
  (fun c _ => s.size - (intOf c).toNat)
 case atStart => exact ⟨0, by omega, rfl, H0.out, by rw [List.take_zero, ← HZL.out]; exact H1.out, HB.out⟩
 case round =>
  clear H0 H1 HB
  obtain ⟨i, hi, rfl, l0, l1, hb⟩ := hrel
  have L0 := Lib.hid l0
  have L1 := Lib.hid l1
  have HB := Lib.hid hb
  clear l0 l1 hb
  by_cases hlt : i < s.size
  ·have hii : (i : Int) < (s.size : Int) := by omega
   have hby := byte_of s i hlt
   have hst := cntL_take hby
   have hln := cntL_length (s.data.toList.take i)
   have hle := cntL_le (s.data.toList.take i)
   have hblt := (s[i]'hlt).toNat_lt
   have HST := Lib.hid hst
   generalize hc : cntL (s.data.toList.take i) = c at *
   have hcg : c[(s[i]'hlt).toNat]? = some (c.getD (s[i]'hlt).toNat 0) := by
    rw [List.getD_eq_getElem?_getD, List.getElem?_eq_getElem (by omega)]; rfl
   have hcn : c.getD (s[i]'hlt).toNat 0 ≤ 1099511627776 := by
    have := hle _ (List.mem_of_getElem? hcg)
    rw [List.length_take] at this
    have e : s.data.toList.length = s.size := by simp
    omega
   have hcell : wr.cell? ⟨w.heap.size + 1, (s[i]'hlt).toNat, none⟩ = some (.int .u64 ((c.getD (s[i]'hlt).toNat 0 : Nat) : Int)) := (L1.out.cell _).trans (by rw [List.getElem?_toArray]; unfold cells64; rw [List.getElem?_map, hcg]; rfl)
   have hfree := L1.out.free (s[i]'hlt).toNat
   have hput := L1.out.put (s[i]'hlt).toNat (.int .u64 ((c.getD (s[i]'hlt).toNat 0 + 1 : Nat) : Int))
   rw [c64_set] at hput
   have hput2 : Hid (Lies (wr.setCell ⟨w.heap.size + 1, (s[i]'hlt).toNat, none⟩ (.int .u64 ((c.getD (s[i]'hlt).toNat 0 + 1 : Nat) : Int))) (w.heap.size + 1) 25 (cells64 (cntL (s.data.toList.take (i + 1)))).toArray) := by
    show Lies _ _ _ _
    rw [HST.out]; exact hput
   have hfar := Lib.hid (L0.out.far (p := ⟨w.heap.size + 1, (s[i]'hlt).toNat, none⟩) (by show w.heap.size ≠ w.heap.size + 1; omega) (.int .u64 ((c.getD (s[i]'hlt).toNat 0 + 1 : Nat) : Int)))
   have hbn := Lib.hid (HB.out.setCell (p := ⟨w.heap.size + 1, (s[i]'hlt).toNat, none⟩) (by show w.heap.size ≤ w.heap.size + 1; omega) (.int .u64 ((c.getD (s[i]'hlt).toNat 0 + 1 : Nat) : Int)))
   clear hput hst hle hcg hby hc HST
   generalize c.getD (s[i]'hlt).toNat 0 = m at *
   have hbi : ((s[i]'hlt).toNat : Int) < 256 := by omega
   go_wp2_with fail
   go_roundw
   case rel => exact ⟨i + 1, by omega, by go_num, hfar.out, hput2.out, hbn.out⟩
   case measure => simp [intOf]; omega
  ·have hl : s.data.toList.length = s.size := by simp
   obtain rfl : i = s.size := by omega
   rw [List.take_of_length_le (by omega)] at L1
   obtain ⟨T, hT⟩ : ∃ T, T = cells64 (cntL s.data.toList) := ⟨_, rfl⟩
   have hTl : T.length = 256 := by rw [hT, c64_length, cntL_length]
   have hone : T.toArray.all (·.oneCell') = true := by rw [hT]; exact c64_one _
   rw [← hT] at L1
   have HT := Lib.hid hT
   have hr := Lib.hid (arr_range L1.out)
   have ht := Lib.hid (arr_there L0.out (n := T.toArray.size) (HZN.out.trans (by rw [List.size_toArray, hTl])))
   have hst := Lib.hid (arr_store L0.out (L := T) (HZN.out.trans hTl.symm))
   have hi1 : (Try.prog.info? 25).map (·.size) = some T.length := by rw [hTl]; exact info64
   have hi2 : (Try.prog.info? 25).map (·.size) = some T.toArray.size := by rw [List.size_toArray, hTl]; exact info64
   have HI1 := Lib.hid hi1
   have HI2 := Lib.hid hi2
   have HONE := Lib.hid hone
   have hbz := Lib.hid (below_cellsA (Nat.le_refl w.heap.size) T 0 wr HB.out)
   clear hT hone hi1 hi2
   go_wp2_with (first | refine wpList_load_mid rfl 25 _ rfl (w.heap.size + 1) 0 rfl T _ hr.out under64 rfl HI1.out ?_ | refine wpList_store_mid rfl 25 _ _ rfl w.heap.size 0 T.toArray rfl rfl ht.out HI2.out HONE.out ?_)
   refine bodyPost_ret (v := .agg T.toArray) (results_cell_arr Try.results18 _ _ w.heap.size T _ rfl (arr_range hst.out) under64 rfl HI1.out) rfl ⟨by rw [HT.out], hbz.out⟩
def dpF (s : List N2) (num : Nat) : Nat → Nat :=
 match s with
 | a :: b :: r => fun x => if x = a.2 ∨ x = b.2 then dpF (insL (sumW a.1 b.1, num) r) (num + 1) num + 1 else dpF (insL (sumW a.1 b.1, num) r) (num + 1) x
 | _ => fun _ => 0
termination_by s.length
decreasing_by all_goals simp [insL_length]
theorem dpF_step (a b : N2) (r : List N2) (num : Nat) (x : Nat) : dpF (a :: b :: r) num x = if x = a.2 ∨ x = b.2 then dpF (insL (sumW a.1 b.1, num) r) (num + 1) num + 1 else dpF (insL (sumW a.1 b.1, num) r) (num + 1) x := by
 conv => lhs; unfold dpF
theorem dpF_end (s : List N2) (num x : Nat) (h : s.length ≤ 1) : dpF s num x = 0 := by
 unfold dpF
 match s, h with
 | [], _ => rfl
 | [a], _ => rfl
theorem dpF_le : ∀ (n : Nat) (s : List N2) (num x : Nat), s.length = n → dpF s num x ≤ n - 1
 | 0, s, num, x, h => by rw [dpF_end _ _ _ (by omega)]; omega
 | 1, s, num, x, h => by rw [dpF_end _ _ _ (by omega)]; omega
 | n + 2, s, num, x, h => by
  match s, h with
  | a :: b :: r, h =>
   have hl : (insL (sumW a.1 b.1, num) r).length = n + 1 := by rw [insL_length]; simp at h; omega
   rw [dpF_step]
   have h1 := dpF_le (n + 1) _ (num + 1) num hl
   have h2 := dpF_le (n + 1) _ (num + 1) x hl
   split <;> omega
def kr (M : Nat) (D : Nat → Nat) (s : List N2) : Nat := (s.map fun p => 2 ^ (M - D p.2)).sum
theorem kr_perm {M : Nat} {D : Nat → Nat} {s t : List N2} (h : s.Perm t) : kr M D s = kr M D t := (h.map _).sum_nat
theorem kr_cons (M : Nat) (D : Nat → Nat) (p : N2) (s : List N2) : kr M D (p :: s) = 2 ^ (M - D p.2) + kr M D s := by simp [kr]
theorem kr_congr {M : Nat} {D E : Nat → Nat} {s : List N2} (h : ∀ p ∈ s, D p.2 = E p.2) : kr M D s = kr M E s := by
 unfold kr
 congr 1
 exact List.map_congr_left fun p hp => by rw [h p hp]
def NumOk (s : List N2) (num : Nat) : Prop := (∀ p ∈ s, p.2 < num) ∧ (s.map (·.2)).Nodup
theorem numOk_step {a b : N2} {r : List N2} {num w : Nat} (h : NumOk (a :: b :: r) num) : NumOk (insL (w, num) r) (num + 1) := by
 obtain ⟨h1, h2⟩ := h
 refine ⟨fun p hp => ?_, ?_⟩
 ·rcases List.mem_cons.1 ((insL_perm _ _).mem_iff.1 hp) with rfl | hp
  ·show num < num + 1; omega
  ·have := h1 p (by simp [hp]); omega
 ·have hp := (insL_perm (w, num) r).map (·.2)
  rw [hp.nodup_iff]
  simp only [List.map_cons, List.nodup_cons] at h2 ⊢
  refine ⟨fun hm => ?_, h2.2.2⟩
  obtain ⟨q, hq, he⟩ := List.mem_map.1 hm
  have := h1 q (by simp [hq])
  omega
theorem mrgP_keep : ∀ (n : Nat) (s : List N2) (ps : List Nat) (x : Nat), s.length = n → (∀ p ∈ s, p.2 < ps.length) → x < ps.length → (∀ p ∈ s, p.2 ≠ x) → (mrgP s ps).getD x 0 = ps.getD x 0
 | 0, s, ps, x, h, hn, hx, hl => by rw [mrgP_end _ _ (by omega)]
 | 1, s, ps, x, h, hn, hx, hl => by rw [mrgP_end _ _ (by omega)]
 | n + 2, s, ps, x, h, hn, hx, hl => by
  match s, h with
  | a :: b :: r, h =>
   rw [mrgP_step, mrgP_keep (n + 1) _ _ x (by rw [insL_length]; simp at h; omega) (fun p hp => ?_) (by rw [ps2_length]; omega) (fun p hp => ?_),
    getD_ps2 ps a b (hn a (by simp)) (hn b (by simp)) x hx, if_neg (hl b (by simp)), if_neg (hl a (by simp))]
   ·rw [ps2_length]
    rcases List.mem_cons.1 ((insL_perm _ _).mem_iff.1 hp) with rfl | hp
    ·show ps.length < ps.length + 1; omega
    ·have := hn p (by simp [hp]); omega
   ·rcases List.mem_cons.1 ((insL_perm _ _).mem_iff.1 hp) with rfl | hp
    ·show ps.length ≠ x; omega
    ·exact hl p (by simp [hp])
theorem dp_parent : ∀ (n : Nat) (s : List N2) (ps : List Nat), s.length = n → NumOk s ps.length → ∀ x,
  x + 1 < (mrgP s ps).length → (∀ p ∈ s, s.length = 1 → p.2 + 1 = ps.length) → (∃ p ∈ s, p.2 = x) ∨ ps.length ≤ x →
  dpF s ps.length x = dpF s ps.length ((mrgP s ps).getD x 0) + 1 ∧ ps.length ≤ (mrgP s ps).getD x 0
 | 0, s, ps, h, hn, x, hx, h1, hor => by
  have : s = [] := List.length_eq_zero_iff.1 h
  subst this
  rw [mrgP_end _ _ (by simp)] at hx
  rcases hor with ⟨p, hp, _⟩ | hor
  ·cases hp
  ·omega
 | 1, s, ps, h, hn, x, hx, h1, hor => by
  rw [mrgP_end _ _ (by omega)] at hx
  rcases hor with ⟨p, hp, e⟩ | hor
  ·have := h1 p hp h; omega
  ·omega
 | n + 2, s, ps, h, hn, x, hx, h1, hor => by
  match s, h with
  | a :: b :: r, h =>
   have hl : (insL (sumW a.1 b.1, ps.length) r).length = n + 1 := by rw [insL_length]; simp at h; omega
   have ha := hn.1 a (by simp)
   have hb := hn.1 b (by simp)
   have hnd := hn.2
   simp only [List.map_cons, List.nodup_cons] at hnd
   rw [mrgP_step] at hx ⊢
   have hns : NumOk (insL (sumW a.1 b.1, ps.length) r) (ps2 ps a b).length := by rw [ps2_length]; exact numOk_step hn
   by_cases hab : x = a.2 ∨ x = b.2
   ·have hxl : x < ps.length := by rcases hab with h | h <;> omega
    have hP : (mrgP (insL (sumW a.1 b.1, ps.length) r) (ps2 ps a b)).getD x 0 = ps.length := by
     rw [mrgP_keep (n + 1) _ _ x hl hns.1 (by rw [ps2_length]; omega) (fun p hp => ?_), getD_ps2 ps a b ha hb x hxl]
     ·rcases hab with h | h
      ·by_cases hb2 : b.2 = x
       ·rw [if_pos hb2]
       ·rw [if_neg hb2, if_pos h.symm]
      ·rw [if_pos h.symm]
     ·rcases List.mem_cons.1 ((insL_perm _ _).mem_iff.1 hp) with rfl | hp
      ·show ps.length ≠ x; omega
      ·intro e
       rcases hab with h | h
       ·exact hnd.1 (List.mem_cons_of_mem _ (List.mem_map.2 ⟨p, hp, by rw [e, h]⟩))
       ·exact hnd.2.1 (List.mem_map.2 ⟨p, hp, by rw [e, h]⟩)
    rw [hP, dpF_step, if_pos hab, dpF_step, if_neg (by omega)]
    exact ⟨rfl, Nat.le_refl _⟩
   ·have hor' : (∃ p ∈ insL (sumW a.1 b.1, ps.length) r, p.2 = x) ∨ (ps2 ps a b).length ≤ x := by
     rw [ps2_length]
     rcases hor with ⟨p, hp, e⟩ | hor
     ·rcases List.mem_cons.1 hp with rfl | hp
      ·exact absurd (.inl e.symm) hab
      ·rcases List.mem_cons.1 hp with rfl | hp
       ·exact absurd (.inr e.symm) hab
       ·exact .inl ⟨p, (insL_perm _ _).mem_iff.2 (List.mem_cons_of_mem _ hp), e⟩
     ·by_cases hxe : x = ps.length
      ·exact .inl ⟨(sumW a.1 b.1, ps.length), (insL_perm _ _).mem_iff.2 (by simp), hxe.symm⟩
      ·exact .inr (by omega)
    have ih := dp_parent (n + 1) _ (ps2 ps a b) hl hns x hx (fun p hp e => by
     rw [ps2_length]
     have hr : r = [] := by
      rw [insL_length] at e
      exact List.length_eq_zero_iff.1 (by omega)
     subst hr
     simp [insL] at hp
     rw [hp]) hor'
    rw [ps2_length] at ih
    refine ⟨?_, by omega⟩
    rw [dpF_step, if_neg hab, dpF_step, if_neg (by omega)]
    exact ih.1
theorem dpF_root : ∀ (n : Nat) (s : List N2) (num x : Nat), s.length = n + 1 → (∀ p ∈ s, p.2 < num) → (0 < n → x = num + n - 1) → dpF s num x = 0
 | 0, s, num, x, h, _, _ => dpF_end _ _ _ (by omega)
 | n + 1, s, num, x, h, hn, hx => by
  match s, h with
  | a :: b :: r, h =>
   have hx' := hx (by omega)
   have ha := hn a (by simp)
   have hb := hn b (by simp)
   rw [dpF_step, if_neg (by omega)]
   exact dpF_root n _ (num + 1) x (by rw [insL_length]; simp at h; omega) (fun p hp => by
    rcases List.mem_cons.1 ((insL_perm _ _).mem_iff.1 hp) with rfl | hp
    ·show num < num + 1; omega
    ·have := hn p (by simp [hp]); omega) (fun _ => by omega)
section
variable (ws : List Nat)
theorem srt_num : NumOk (sortL (lvs ws)) (List.replicate (lvs ws).length 0).length := by
 rw [List.length_replicate]
 refine ⟨fun p hp => lvs_lt ws p ((sortL_perm _).mem_iff.1 hp), ?_⟩
 have hm : (lvs ws).map (·.2) = List.range (lvs ws).length := by
  apply List.ext_getElem?
  intro i
  rw [List.getElem?_map]
  by_cases hi : i < (lvs ws).length
  ·have hg := List.getElem?_eq_getElem hi
   rw [hg, List.getElem?_range hi]
   simp [(lvs_num _ ws rfl i _ hg).1]
  ·rw [List.getElem?_eq_none (by omega), List.getElem?_eq_none (by simp; omega)]; rfl
 rw [((sortL_perm (lvs ws)).map (·.2)).nodup_iff, hm]
 exact List.nodup_range
def dpW (x : Nat) : Nat := dpF (sortL (lvs ws)) (lvs ws).length x
theorem dpW_le (x : Nat) : dpW ws x ≤ (lvs ws).length - 1 := dpF_le _ _ _ _ (sortL_length _)
theorem dpW_parent (x : Nat) (hx : x + 1 < (parW ws).length) : dpW ws x = dpW ws ((parW ws).getD x 0) + 1 := by
 have h := dp_parent (lvs ws).length (sortL (lvs ws)) (List.replicate (lvs ws).length 0) (sortL_length _) (srt_num ws) x hx (fun p hp e => by
  rw [List.length_replicate]
  rw [sortL_length] at e
  have := lvs_lt ws p ((sortL_perm _).mem_iff.1 hp)
  omega) (by
  rw [List.length_replicate]
  by_cases hxn : x < (lvs ws).length
  ·have hg := List.getElem?_eq_getElem hxn
   exact .inl ⟨_, (sortL_perm _).mem_iff.2 (List.getElem_mem hxn), (lvs_num _ ws rfl x _ hg).1⟩
  ·exact .inr (by omega))
 rw [List.length_replicate] at h
 exact h.1
theorem depN_is (hn : 2 ≤ (lvs ws).length) (hn256 : (lvs ws).length ≤ 256) : ∀ t, t + 1 ≤ (parW ws).length → ∀ i, (parW ws).length - 1 - t ≤ i → i < (parW ws).length → (depN (parW ws) t).getD i 0 = dpW ws i
 | 0, ht, i, h1, h2 => by
  have hz : (depN (parW ws) 0).getD i 0 = 0 := by
   rw [depN, List.getD_eq_getElem?_getD, List.getElem?_replicate, if_pos h2]; rfl
  rw [hz]
  have hpl := parW_length ws
  exact (dpF_root ((lvs ws).length - 1) _ _ i (by rw [sortL_length]; omega) (fun p hp => lvs_lt ws p ((sortL_perm _).mem_iff.1 hp)) (fun _ => by omega)).symm
 | t + 1, ht, i, h1, h2 => by
  have hl := depN_length (parW ws) t
  rw [depN, getD_set _ _ _ _ (by omega)]
  by_cases hi : (parW ws).length - 2 - t = i
  ·rw [if_pos hi, hi]
   have ho := parW_on ws i (by omega)
   rw [depN_is hn hn256 t (by omega) _ (by omega) ho.2, ← dpW_parent ws i (by omega)]
   have := dpW_le ws i
   exact Nat.mod_eq_of_lt (by omega)
  ·rw [if_neg hi]
   exact depN_is hn hn256 t (by omega) i (by omega) h2
theorem lvs_le (hw : ws.length = 256) : (lvs ws).length ≤ 256 := by
 have h2 := lvs_length ws 256
 rwa [List.take_of_length_le (by rw [hw]; exact Nat.le_refl _)] at h2
theorem depW_is (hw : ws.length = 256) (hn : 2 ≤ (lvs ws).length) (i : Nat) (hi : i < (parW ws).length) : (depW ws).getD i 0 = dpW ws i := by
 unfold depW depA
 rw [if_neg (by omega)]
 have hpl := parW_length ws
 exact depN_is ws hn (lvs_le ws hw) _ (by omega) i (by omega) hi
theorem depW_one (hn : (lvs ws).length = 1) : (depW ws).getD 0 0 = 1 := by
 have hpl := parW_length ws
 unfold depW depA
 rw [if_pos hn, getD_set _ _ _ _ (by rw [depN_length]; omega), if_pos rfl]
theorem depW_pos (hw : ws.length = 256) (i : Nat) (hi : i < (lvs ws).length) : 1 ≤ (depW ws).getD i 0 := by
 have hpl := parW_length ws
 by_cases h1 : (lvs ws).length = 1
 ·obtain rfl : i = 0 := by omega
  rw [depW_one ws h1]; exact Nat.le_refl _
 ·rw [depW_is ws hw (by omega) i (by omega), dpW_parent ws i (by omega)]; omega
end
theorem lenP_get (ds : List Nat) : ∀ (ws : List Nat) (k i n : Nat), i < k → ws[i]? = some n → (lenP ds (ws.take k)).1.getD i 0 = if 0 < n then ds.getD (lvs (ws.take i)).length 0 else 0
 | ws, 0, i, n, h, _ => by omega
 | ws, k + 1, i, n, h, hn => by
  rcases hk : ws[k]? with _ | m
  ·have hlen : ws.length ≤ k := List.getElem?_eq_none_iff.1 hk
   have hil := (List.getElem?_eq_some_iff.1 hn).1
   have e : ws.take (k + 1) = ws.take k := by rw [List.take_of_length_le (by omega), List.take_of_length_le hlen]
   rw [e]
   exact lenP_get ds ws k i n (by omega) hn
  ·have hkl := (List.getElem?_eq_some_iff.1 hk).1
   have hl1 := lenP_length ds k (ws.take k) (by rw [List.length_take]; omega)
   have hls := lenP_snd ds _ (ws.take k) rfl
   rw [lenP_take hk]
   by_cases hik : i = k
   ·subst hik
    rw [hk] at hn
    have := Option.some.inj hn
    subst this
    unfold lenF
    by_cases h0 : 0 < m
    ·rw [if_pos h0, if_pos h0, hls, List.getD_eq_getElem?_getD, List.getElem?_append_right (by omega), hl1, Nat.sub_self]; rfl
    ·rw [if_neg h0, if_neg h0, List.getD_eq_getElem?_getD, List.getElem?_append_right (by omega), hl1, Nat.sub_self]; rfl
   ·have ih := lenP_get ds ws k i n (by omega) hn
    unfold lenF
    split
    ·rw [getD_append _ _ _ (by omega)]; exact ih
    ·rw [getD_append _ _ _ (by omega)]; exact ih
theorem lensW_get {ws : List Nat} (hw : ws.length = 256) {i n : Nat} (hn : ws[i]? = some n) : (lensW ws).getD i 0 = if 0 < n then (depW ws).getD (lvs (ws.take i)).length 0 else 0 := by
 have hi := (List.getElem?_eq_some_iff.1 hn).1
 have := lenP_get (depW ws) ws 256 i n (by omega) hn
 rwa [List.take_of_length_le (by omega)] at this
theorem lvs_at {ws : List Nat} {i n : Nat} (hn : ws[i]? = some n) (h0 : 0 < n) : (lvs (ws.take i)).length < (lvs ws).length := by
 have h1 := lvs_take hn
 have hi := (List.getElem?_eq_some_iff.1 hn).1
 have h2 := lvs_mono' ws (ws.length - (i + 1)) (i + 1)
 rw [show i + 1 + (ws.length - (i + 1)) = ws.length by omega, List.take_of_length_le (Nat.le_refl _), h1] at h2
 unfold lvF at h2
 rw [if_pos h0, List.length_append, List.length_singleton] at h2
 omega
def wsum (s : List N2) : Nat := (s.map (·.1)).sum
theorem wsum_cons (p : N2) (s : List N2) : wsum (p :: s) = p.1 + wsum s := by simp [wsum]
theorem wsum_perm {s t : List N2} (h : s.Perm t) : wsum s = wsum t := (h.map _).sum_nat
theorem kf_le {p q : N2} (h : kf p ≤ kf q) (hq : q.2 < 1024) : p.1 ≤ q.1 := by
 unfold kf at h; omega
theorem lvs_pos (m : Nat) : ∀ ws : List Nat, ws.length = m → wsum (lvs ws) = ws.sum ∧ ∀ p ∈ lvs ws, 1 ≤ p.1 := by
 induction m with
 | zero => intro ws h; rw [List.length_eq_zero_iff.1 h]; exact ⟨rfl, fun p hp => by simp [lvs] at hp⟩
 | succ m ih =>
  intro ws h
  obtain ⟨ws', b, rfl⟩ : ∃ l b, ws = l ++ [b] := ⟨ws.dropLast, ws.getLast (by intro e; rw [e] at h; simp at h), (List.dropLast_concat_getLast _).symm⟩
  have h' : ws'.length = m := by simpa using h
  obtain ⟨h1, h2⟩ := ih ws' h'
  rw [lvs_snoc, List.sum_append]
  unfold lvF
  by_cases h0 : 0 < b
  ·rw [if_pos h0]
   refine ⟨?_, fun p hp => ?_⟩
   ·unfold wsum at *; rw [List.map_append, List.sum_append, h1]; simp
   ·rcases List.mem_append.1 hp with hp | hp
    ·exact h2 p hp
    ·rw [List.mem_singleton] at hp; rw [hp]; exact h0
  ·rw [if_neg h0]
   exact ⟨by rw [h1]; simp; omega, h2⟩
theorem sum_zeros : ∀ n : Nat, (List.replicate n 0).sum = 0
 | 0 => rfl
 | n + 1 => by rw [List.replicate_succ, List.sum_cons, sum_zeros n]
theorem cntL_sum (n : Nat) : ∀ bs : List UInt8, bs.length = n → (cntL bs).sum = n := by
 induction n with
 | zero => intro bs h; rw [List.length_eq_zero_iff.1 h, cntL_nil]; exact sum_zeros _
 | succ n ih =>
  intro bs h
  obtain ⟨bs', b, rfl⟩ : ∃ l b, bs = l ++ [b] := ⟨bs.dropLast, bs.getLast (by intro e; rw [e] at h; simp at h), (List.dropLast_concat_getLast _).symm⟩
  have h' : bs'.length = n := by simpa using h
  rw [cntL_snoc]
  have hs : ∀ (l : List Nat) (i : Nat), i < l.length → (l.set i (l.getD i 0 + 1)).sum = l.sum + 1 := fun l => by
   induction l with
   | nil => intro i hi; simp at hi
   | cons x l ihl =>
    intro i hi
    cases i with
    | zero => simp; omega
    | succ i =>
     have := ihl i (by simpa using hi)
     simp only [List.set_cons_succ, List.sum_cons, List.getD_cons_succ, this]
     omega
  unfold cntF
  rw [hs _ _ (by rw [cntL_length]; exact b.toNat_lt), ih bs' h']
def co (D : Nat → Nat) (s : List N2) : Nat := (s.map fun p => p.1 * D p.2).sum
theorem co_cons (D : Nat → Nat) (p : N2) (s : List N2) : co D (p :: s) = p.1 * D p.2 + co D s := by simp [co]
theorem co_perm {D : Nat → Nat} {s t : List N2} (h : s.Perm t) : co D s = co D t := (h.map _).sum_nat
theorem co_congr {D E : Nat → Nat} {s : List N2} (h : ∀ p ∈ s, D p.2 = E p.2) : co D s = co E s := by
 unfold co
 congr 1
 exact List.map_congr_left fun p hp => by rw [h p hp]
def swapF (D : Nat → Nat) (x y : Nat) (n : Nat) : Nat := if n = x then D y else if n = y then D x else D n
theorem longest_one (D : Nat → Nat) : ∀ s : List N2, s ≠ [] → ∃ x t, s.Perm (x :: t) ∧ ∀ p ∈ s, D p.2 ≤ D x.2
 | [], h => absurd rfl h
 | [a], _ => ⟨a, [], List.Perm.refl _, fun p hp => by rw [List.mem_singleton] at hp; rw [hp]; exact Nat.le_refl _⟩
 | a :: b :: r, _ => by
  obtain ⟨x, t, h1, h2⟩ := longest_one D (b :: r) (by simp)
  by_cases h : D x.2 ≤ D a.2
  ·exact ⟨a, b :: r, List.Perm.refl _, fun p hp => by
    rcases List.mem_cons.1 hp with rfl | hp
    ·exact Nat.le_refl _
    ·exact Nat.le_trans (h2 p hp) h⟩
  ·exact ⟨x, a :: t, (h1.cons a).trans (List.Perm.swap x a t), fun p hp => by
    rcases List.mem_cons.1 hp with rfl | hp
    ·omega
    ·exact h2 p hp⟩
theorem light_long {M : Nat} (D : Nat → Nat) (a : N2) (s : List N2) (hn : ((a :: s).map (·.2)).Nodup) (hm : ∀ p ∈ s, a.1 ≤ p.1) :
  ∃ E : Nat → Nat, co E (a :: s) ≤ co D (a :: s) ∧ kr M E (a :: s) = kr M D (a :: s) ∧ (∀ p ∈ s, E p.2 ≤ E a.2) ∧ (∃ x ∈ a :: s, E a.2 = D x.2) ∧ ∀ y, (∀ p ∈ a :: s, p.2 ≠ y) → E y = D y := by
 obtain ⟨x, t, h1, h2⟩ := longest_one D (a :: s) (by simp)
 have hx : x ∈ a :: s := h1.mem_iff.2 (by simp)
 rcases List.mem_cons.1 hx with rfl | hxs
 ·exact ⟨D, Nat.le_refl _, rfl, fun p hp => h2 p (by simp [hp]), ⟨x, by simp, rfl⟩, fun y _ => rfl⟩
 obtain ⟨t', ht'⟩ : ∃ t', s.Perm (x :: t') := by
  obtain ⟨l1, l2, e⟩ := List.append_of_mem hxs
  exact ⟨l1 ++ l2, by rw [e]; exact List.perm_middle⟩
 have hp := ht'.cons a
 rw [(hp.map (·.2)).nodup_iff] at hn
 simp only [List.map_cons, List.nodup_cons, List.mem_cons, not_or] at hn
 have hne : a.2 ≠ x.2 := hn.1.1
 have hsame : ∀ p ∈ t', swapF D a.2 x.2 p.2 = D p.2 := fun p hp => by
  have hm2 : p.2 ∈ t'.map (·.2) := List.mem_map.2 ⟨p, hp, rfl⟩
  have q1 : p.2 ≠ a.2 := fun e => hn.1.2 (by rw [← e]; exact hm2)
  have q2 : p.2 ≠ x.2 := fun e => hn.2.1 (by rw [← e]; exact hm2)
  unfold swapF
  rw [if_neg q1, if_neg q2]
 have hEa : swapF D a.2 x.2 a.2 = D x.2 := by unfold swapF; rw [if_pos rfl]
 have hEx : swapF D a.2 x.2 x.2 = D a.2 := by unfold swapF; rw [if_neg (fun e => hne e.symm), if_pos rfl]
 refine ⟨swapF D a.2 x.2, ?_, ?_, fun p hp => ?_, ⟨x, hx, hEa⟩, fun y hy => by unfold swapF; rw [if_neg (fun e => hy a (by simp) e.symm), if_neg (fun e => hy x hx e.symm)]⟩
 ·rw [co_perm hp, co_perm hp, co_cons, co_cons, co_cons, co_cons, hEa, hEx, co_congr hsame]
  have hax := hm x hxs
  have hD := h2 a (by simp)
  obtain ⟨u, hu⟩ : ∃ u, x.1 = a.1 + u := ⟨x.1 - a.1, by omega⟩
  obtain ⟨v, hv⟩ : ∃ v, D x.2 = D a.2 + v := ⟨D x.2 - D a.2, by omega⟩
  rw [hu, hv]
  simp only [Nat.add_mul, Nat.mul_add]
  omega
 ·rw [kr_perm hp, kr_perm hp, kr_cons, kr_cons, kr_cons, kr_cons, hEa, hEx, kr_congr hsame]
  omega
 ·rw [hEa]
  rcases List.mem_cons.1 (ht'.mem_iff.1 hp) with rfl | hp'
  ·rw [hEx]; exact h2 a (by simp)
  ·rw [hsame p hp']; exact h2 p (by simp [hp])
theorem kr_dvd {M L : Nat} (hL : L ≤ M) (D : Nat → Nat) : ∀ s : List N2, (∀ p ∈ s, D p.2 ≤ L) → 2 ^ (M - L) ∣ kr M D s
 | [], _ => ⟨0, by simp [kr]⟩
 | p :: s, h => by
  rw [kr_cons]
  have := h p (by simp)
  exact Nat.dvd_add (Nat.pow_dvd_pow 2 (by omega)) (kr_dvd hL D s (fun q hq => h q (by simp [hq])))
theorem room_step {d x y e : Nat} (hx : d ∣ x) (hy : d ∣ y) (he : 0 < e) (h : x + e ≤ y) : x + d ≤ y := by
 obtain ⟨m, rfl⟩ := hx
 obtain ⟨k, rfl⟩ := hy
 have : m < k := by
  rcases Nat.lt_or_ge m k with h1 | h1
  ·exact h1
  ·have := Nat.mul_le_mul_left d h1; omega
 have := Nat.mul_le_mul_left d this
 rw [Nat.mul_succ] at this
 exact this
theorem huff_least {M : Nat} : ∀ (n : Nat) (s : List N2) (num : Nat) (D : Nat → Nat), s.length = n + 1 → SrtL s → NumOk s num → num + n < 1024 → wsum s < 18446744073709551616 → kr M D s ≤ 2 ^ M → (∀ p ∈ s, D p.2 ≤ M) →
  co (dpF s num) s ≤ co D s
 | 0, s, num, D, hl, hs, hn, hnum, hw, hk, hM => by
  have : co (dpF s num) s = co (fun _ => 0) s := co_congr fun p _ => dpF_end _ _ _ (by omega)
  rw [this]
  have : co (fun _ => 0) s = 0 := by
   unfold co
   induction s with
   | nil => rfl
   | cons p s _ => match s, hl with | [], _ => simp
  omega
 | n + 1, s, num, D, hl, hs, hn, hnum, hw, hk, hM => by
  match s, hl with
  | a :: b :: r, hl =>
   have hlt : ∀ q ∈ a :: b :: r, q.2 < 1024 := fun q hq => by have := hn.1 q hq; omega
   have hab : a.1 ≤ b.1 := kf_le (hs.1 b (by simp)) (hlt b (by simp))
   have hbr : ∀ q ∈ r, b.1 ≤ q.1 := fun q hq => kf_le (hs.2.1 q hq) (hlt q (by simp [hq]))
   have hnd := hn.2
   have hnd2 := hn.2
   simp only [List.map_cons, List.nodup_cons, List.mem_cons, not_or] at hnd
   have hnd3 : ((b :: r).map (·.2)).Nodup := by rw [List.map_cons] at hnd2; exact (List.nodup_cons.1 hnd2).2
   obtain ⟨E, e1, e2, e3, ⟨x, hx, ex⟩, e4⟩ := light_long (M := M) D a (b :: r) hn.2 (fun p hp => by
    rcases List.mem_cons.1 hp with rfl | hp
    ·exact hab
    ·have := hbr p hp; omega)
   have hEM : ∀ p ∈ a :: b :: r, E p.2 ≤ M := fun p hp => by
    have := hM x hx
    rcases List.mem_cons.1 hp with rfl | hp
    ·omega
    ·have := e3 p hp; omega
   obtain ⟨F, f1, f2, f3, ⟨y, hy, fy⟩, f4⟩ := light_long (M := M) E b r hnd3 hbr
   have hFa : F a.2 = E a.2 := f4 a.2 (fun p hp e => by
    rcases List.mem_cons.1 hp with rfl | hp
    ·exact hnd.1.1 e.symm
    ·exact hnd.1.2 (e ▸ List.mem_map.2 ⟨p, hp, rfl⟩))
   have hFb : F b.2 ≤ F a.2 := by rw [hFa, fy]; exact e3 y hy
   have hFaM : F a.2 ≤ M := by rw [hFa]; exact hEM a (by simp)
   have hroom : 2 ^ (M - F b.2) + kr M F r + 2 ^ (M - F b.2) ≤ 2 ^ M := by
    refine room_step (e := 2 ^ (M - F a.2)) ?_ (Nat.pow_dvd_pow 2 (by omega)) (Nat.two_pow_pos _) ?_
    ·exact Nat.dvd_add (Nat.dvd_refl _) (kr_dvd (by omega) F r f3)
    ·have h1 := kr_cons M F b r
     have h2 := kr_cons M E a (b :: r)
     rw [hFa]
     omega
   have hb1 : 1 ≤ F b.2 := by
    rcases Nat.eq_zero_or_pos (F b.2) with h | h
    ·rw [h, Nat.sub_zero] at hroom
     have := Nat.two_pow_pos M
     omega
    ·exact h
   have hw2 : wsum (a :: b :: r) = a.1 + b.1 + wsum r := by rw [wsum_cons, wsum_cons]; omega
   have hsum : sumW a.1 b.1 = a.1 + b.1 := by unfold sumW; rw [if_pos (by omega)]
   have hn' := numOk_step (w := sumW a.1 b.1) hn
   have hs' := insL_srt (sumW a.1 b.1, num) r hs.2.2
   have hpm := insL_perm (sumW a.1 b.1, num) r
   have hw' : wsum (insL (sumW a.1 b.1, num) r) = wsum (a :: b :: r) := by
    rw [wsum_perm hpm, wsum_cons, hw2, hsum]
   have hl' : (insL (sumW a.1 b.1, num) r).length = n + 1 := by rw [insL_length]; simp at hl; omega
   obtain ⟨H, hH⟩ : ∃ H : Nat → Nat, H = fun y => if y = num then F b.2 - 1 else F y := ⟨_, rfl⟩
   have hHn : H num = F b.2 - 1 := by rw [hH]; exact if_pos rfl
   have hHr : ∀ p ∈ r, H p.2 = F p.2 := fun p hp => by
    have := hn.1 p (by simp [hp])
    rw [hH]; exact if_neg (by omega)
   have ih := huff_least (M := M) n (insL (sumW a.1 b.1, num) r) (num + 1) H hl' hs' hn' (by omega) (by rw [hw']; exact hw) (by
    rw [kr_perm hpm, kr_cons, kr_congr hHr]
    show 2 ^ (M - H num) + _ ≤ _
    rw [hHn, show M - (F b.2 - 1) = (M - F b.2) + 1 by omega, Nat.pow_succ]
    omega) (fun p hp => by
    rcases List.mem_cons.1 (hpm.mem_iff.1 hp) with rfl | hp
    ·show H num ≤ M; omega
    ·rw [hHr p hp]; have := f3 p hp; omega)
   rw [co_perm hpm, co_perm hpm, co_cons, co_cons, co_congr hHr] at ih
   change sumW a.1 b.1 * dpF _ (num + 1) num + _ ≤ sumW a.1 b.1 * H num + _ at ih
   rw [hHn, hsum] at ih
   have hda : dpF (a :: b :: r) num a.2 = dpF (insL (a.1 + b.1, num) r) (num + 1) num + 1 := by rw [dpF_step, if_pos (.inl rfl), hsum]
   have hdb : dpF (a :: b :: r) num b.2 = dpF (insL (a.1 + b.1, num) r) (num + 1) num + 1 := by rw [dpF_step, if_pos (.inr rfl), hsum]
   have hdr : ∀ p ∈ r, dpF (a :: b :: r) num p.2 = dpF (insL (a.1 + b.1, num) r) (num + 1) p.2 := fun p hp => by
    have hpr : p.2 ∈ r.map (·.2) := List.mem_map.2 ⟨p, hp, rfl⟩
    rw [dpF_step, if_neg (by
     rintro (e | e)
     ·exact hnd.1.2 (e ▸ hpr)
     ·exact hnd.2.1 (e ▸ hpr)), hsum]
   rw [co_cons, co_cons, hda, hdb, co_congr hdr]
   generalize dpF (insL (a.1 + b.1, num) r) (num + 1) num = d at *
   generalize co (dpF (insL (a.1 + b.1, num) r) (num + 1)) r = Q at *
   have hF : a.1 * F a.2 + (b.1 * F b.2 + co F r) ≤ co D (a :: b :: r) := by
    have h1 := co_cons E a (b :: r)
    have h2 := co_cons F b r
    rw [hFa]
    omega
   refine Nat.le_trans ?_ hF
   obtain ⟨lb, hlb⟩ : ∃ lb, F b.2 = lb + 1 := ⟨F b.2 - 1, by omega⟩
   obtain ⟨u, hu⟩ : ∃ u, F a.2 = lb + 1 + u := ⟨F a.2 - (lb + 1), by omega⟩
   rw [hlb] at ih ⊢
   rw [hu]
   rw [Nat.add_sub_cancel] at ih
   simp only [Nat.mul_add, Nat.add_mul, Nat.mul_one] at ih ⊢
   omega
def bwN (ws ls : List Nat) : Nat → Nat
 | 0 => 0
 | k + 1 => bwN ws ls k + ws.getD k 0 * ls.getD k 0
theorem zip_sum (ds : List Nat) (m : Nat) : ∀ ws : List Nat, ws.length = m → (List.zipWith (· * ·) ws (lenP ds ws).1).sum = co (fun x => ds.getD x 0) (lvs ws) := by
 induction m with
 | zero => intro ws h; rw [List.length_eq_zero_iff.1 h]; rfl
 | succ m ih =>
  intro ws h
  obtain ⟨ws', b, rfl⟩ : ∃ l b, ws = l ++ [b] := ⟨ws.dropLast, ws.getLast (by intro e; rw [e] at h; simp at h), (List.dropLast_concat_getLast _).symm⟩
  have h' : ws'.length = m := by simpa using h
  have i1 := ih ws' h'
  have i2 := lenP_snd ds _ ws' rfl
  have i3 := lenP_length ds _ ws' rfl
  have e : lenP ds (ws' ++ [b]) = lenF ds (lenP ds ws') b := by unfold lenP; rw [List.foldl_append]; rfl
  rw [e, lvs_snoc]
  unfold lenF lvF
  by_cases h0 : 0 < b
  ·rw [if_pos h0, if_pos h0, List.zipWith_append i3.symm, List.sum_append, i1, i2]
   unfold co
   rw [List.map_append, List.sum_append]
   simp
  ·rw [if_neg h0, if_neg h0, List.zipWith_append i3.symm, List.sum_append, i1]
   simp
theorem bwN_zip (ws ls : List Nat) (h : ls.length = ws.length) : ∀ k, k ≤ ws.length → bwN ws ls k = ((List.zipWith (· * ·) ws ls).take k).sum
 | 0, _ => rfl
 | k + 1, hk => by
  rw [bwN, bwN_zip ws ls h k (by omega), List.take_add_one, List.sum_append]
  congr 1
  rw [List.getElem?_zipWith, List.getElem?_eq_getElem (l := ws) (by omega), List.getElem?_eq_getElem (l := ls) (by omega), List.getD_eq_getElem?_getD, List.getD_eq_getElem?_getD, List.getElem?_eq_getElem (l := ws) (by omega), List.getElem?_eq_getElem (l := ls) (by omega)]
  simp
theorem bw_all {ws : List Nat} (hw : ws.length = 256) : bwN ws (lensW ws) 256 = co (fun x => (depW ws).getD x 0) (lvs ws) := by
 have hl := lensW_length ws hw
 rw [bwN_zip ws _ (by omega) 256 (by omega), List.take_of_length_le (by rw [List.length_zipWith]; omega)]
 exact zip_sum (depW ws) _ ws rfl
theorem bw_least {ws : List Nat} (hw : ws.length = 256) (hs : ws.sum < 18446744073709551616) (M : Nat) (D : Nat → Nat) (hk : kr M D (lvs ws) ≤ 2 ^ M) (hM : ∀ p ∈ lvs ws, D p.2 ≤ M) (h1 : ∀ p ∈ lvs ws, 1 ≤ D p.2) : bwN ws (lensW ws) 256 ≤ co D (lvs ws) := by
 rw [bw_all hw]
 have hpl := parW_length ws
 have hle := lvs_le ws hw
 by_cases h2 : 2 ≤ (lvs ws).length
 ·have e : co (fun x => (depW ws).getD x 0) (lvs ws) = co (dpF (sortL (lvs ws)) (lvs ws).length) (lvs ws) := co_congr fun p hp => by
   have := lvs_lt ws p hp
   exact depW_is ws hw h2 p.2 (by omega)
  have hsn := srt_num ws
  rw [List.length_replicate] at hsn
  have hh := huff_least (M := M) ((lvs ws).length - 1) (sortL (lvs ws)) (lvs ws).length D (by rw [sortL_length]; omega) (sortL_srt _) hsn (by omega) (by rw [wsum_perm (sortL_perm _), (lvs_pos _ ws rfl).1]; exact hs)
   (by rw [kr_perm (sortL_perm _)]; exact hk) (fun p hp => hM p ((sortL_perm _).mem_iff.1 hp))
  rw [e]
  rwa [co_perm (sortL_perm _), co_perm (sortL_perm _)] at hh
 ·match hl : lvs ws, h2 with
  | [], _ => exact Nat.le_refl _
  | [p], _ =>
   have hp := lvs_lt ws p (by rw [hl]; simp)
   rw [hl] at hp
   have hp0 : p.2 = 0 := by simpa using hp
   have hd := depW_one ws (by rw [hl]; rfl)
   rw [hl] at h1
   have := h1 p (by simp)
   rw [co_cons, co_cons]
   show p.1 * (depW ws).getD p.2 0 + 0 ≤ p.1 * D p.2 + 0
   rw [hp0, hd]
   rw [hp0] at this
   have := Nat.mul_le_mul_left p.1 this
   omega
  | _ :: _ :: _, h2 => simp at h2
theorem kr_const (M c : Nat) : ∀ s : List N2, kr M (fun _ => c) s = s.length * 2 ^ (M - c)
 | [] => by simp [kr]
 | p :: s => by rw [kr_cons, kr_const M c s, List.length_cons, Nat.add_mul, Nat.one_mul, Nat.add_comm]
theorem co_const (c : Nat) : ∀ s : List N2, co (fun _ => c) s = c * wsum s
 | [] => by simp [co, wsum]
 | p :: s => by rw [co_cons, co_const c s, wsum_cons, Nat.mul_add, Nat.mul_comm]
theorem bw_eight {ws : List Nat} (hw : ws.length = 256) (hs : ws.sum < 18446744073709551616) : bwN ws (lensW ws) 256 ≤ 8 * ws.sum := by
 have hle := lvs_le ws hw
 have := bw_least hw hs 8 (fun _ => 8) (by rw [kr_const]; show _ * 1 ≤ 256; omega) (fun _ _ => Nat.le_refl _) (fun _ _ => by omega)
 rwa [co_const, (lvs_pos _ ws rfl).1] at this
theorem few_leaves : ∀ {s : List N2} {p : N2}, p ∈ s → (∀ q ∈ s, 1 ≤ q.1) → s.length + p.1 ≤ wsum s + 1
 | q :: s, p, hp, h => by
  have hall : ∀ t : List N2, (∀ q ∈ t, 1 ≤ q.1) → t.length ≤ wsum t := fun t => by
   induction t with
   | nil => intro _; exact Nat.zero_le _
   | cons x t iht =>
    intro ht
    have := iht (fun q hq => ht q (by simp [hq]))
    have := ht x (by simp)
    rw [wsum_cons, List.length_cons]; omega
  rw [wsum_cons, List.length_cons]
  rcases List.mem_cons.1 hp with rfl | hp
  ·have := hall s (fun q hq => h q (by simp [hq])); omega
  ·have := few_leaves hp (fun q hq => h q (by simp [hq]))
   have := h q (by simp)
   omega
theorem len_two {ws : List Nat} (hw : ws.length = 256) (h2 : (lvs ws).length ≤ 2) {i n : Nat} (hi : ws[i]? = some n) (hn : 0 < n) : (lensW ws).getD i 0 = 1 := by
 have hlt := lvs_at hi hn
 have hpl := parW_length ws
 rw [lensW_get hw hi, if_pos hn]
 by_cases h1 : (lvs ws).length = 1
 ·rw [show (lvs (ws.take i)).length = 0 by omega, depW_one ws h1]
 ·have hp := depW_pos ws hw _ hlt
  rw [depW_is ws hw (by omega) _ (by omega)] at hp ⊢
  have := dpW_le ws (lvs (ws.take i)).length
  omega
theorem lvs_has (m : Nat) : ∀ ws : List Nat, ws.length = m → ∀ n ∈ ws, 0 < n → ∃ p ∈ lvs ws, p.1 = n := by
 induction m with
 | zero => intro ws h n hn; rw [List.length_eq_zero_iff.1 h] at hn; simp at hn
 | succ m ih =>
  intro ws h n hn h0
  obtain ⟨ws', b, rfl⟩ : ∃ l b, ws = l ++ [b] := ⟨ws.dropLast, ws.getLast (by intro e; rw [e] at h; simp at h), (List.dropLast_concat_getLast _).symm⟩
  have h' : ws'.length = m := by simpa using h
  rw [lvs_snoc]
  unfold lvF
  rcases List.mem_append.1 hn with hn | hn
  ·obtain ⟨p, hp, he⟩ := ih ws' h' n hn h0
   split
   ·exact ⟨p, by simp [hp], he⟩
   ·exact ⟨p, hp, he⟩
  ·rw [List.mem_singleton] at hn
   subst hn
   rw [if_pos h0]
   exact ⟨_, List.mem_append.2 (.inr (List.mem_singleton.2 rfl)), rfl⟩
theorem cnt_aba (a b : UInt8) : 2 ≤ (cntL [a, b, a]).getD a.toNat 0 ∧ 1 ≤ (cntL [a, b, a]).getD b.toNat 0 := by
 have e : cntL [a, b, a] = cntF (cntF (cntF (List.replicate 256 0) a) b) a := rfl
 have ha := a.toNat_lt
 have hb := b.toNat_lt
 have l1 : (cntF (List.replicate 256 0) a).length = 256 := by rw [cntF_length, List.length_replicate]
 have l2 : (cntF (cntF (List.replicate 256 0) a) b).length = 256 := by rw [cntF_length, l1]
 have g : ∀ (c : List Nat) (x : UInt8) (k : Nat), c.length = 256 → (cntF c x).getD k 0 = if x.toNat = k then c.getD x.toNat 0 + 1 else c.getD k 0 := fun c x k hc => by
  unfold cntF
  rw [getD_set _ _ _ _ (by rw [hc]; exact x.toNat_lt)]
 rw [e]
 refine ⟨?_, ?_⟩
 ·rw [g _ _ _ l2, if_pos rfl, g _ _ _ l1]
  split
  ·omega
  ·rw [g _ _ _ List.length_replicate, if_pos rfl]; omega
 ·rw [g _ _ _ l2]
  split
  ·omega
  ·rw [g _ _ _ l1, if_pos rfl]; omega
theorem two_one (a b : UInt8) : (lensW (cntL [a, b, a])).getD a.toNat 0 = 1 ∧ (lensW (cntL [a, b, a])).getD b.toNat 0 = 1 := by
 have hl := cntL_length [a, b, a]
 have ha := a.toNat_lt
 have hb := b.toNat_lt
 have hsum : (cntL [a, b, a]).sum = 3 := cntL_sum 3 _ rfl
 obtain ⟨c1, c2⟩ := cnt_aba a b
 have ga : (cntL [a, b, a])[a.toNat]? = some ((cntL [a, b, a]).getD a.toNat 0) := by rw [List.getD_eq_getElem?_getD, List.getElem?_eq_getElem (by omega)]; rfl
 have gb : (cntL [a, b, a])[b.toNat]? = some ((cntL [a, b, a]).getD b.toNat 0) := by rw [List.getD_eq_getElem?_getD, List.getElem?_eq_getElem (by omega)]; rfl
 obtain ⟨hp1, hp2⟩ := lvs_pos _ (cntL [a, b, a]) rfl
 obtain ⟨p, hp, he⟩ := lvs_has _ (cntL [a, b, a]) rfl _ (List.mem_of_getElem? ga) (by omega)
 have hf := few_leaves hp hp2
 rw [hp1, hsum, he] at hf
 exact ⟨len_two hl (by omega) ga (by omega), len_two hl (by omega) gb (by omega)⟩
theorem lit_text3 (w : World) (a b c : UInt8) (x y z : Int) (hx : (a.toNat : Int) = x) (hy : (b.toNat : Int) = y) (hz : (c.toNat : Int) = z) (g : Nat) (hg : w.heap.size = g) : (convert 30 9 (.slice (some ⟨g, 0, none⟩) 3 3)).run Try.prog (w.alloc (.cells #[.int .u8 x, .int .u8 y, .int .u8 z] 5)) = .ok (.string (textB [a, b, c])) (w.alloc (.cells #[.int .u8 x, .int .u8 y, .int .u8 z] 5)) := by
 subst hx hy hz hg
 have h := World.ownsRow_lit (base := w.heap.size) (e := 5) (size := 1) w #[.int .u8 (a.toNat : Int), .int .u8 (b.toNat : Int), .int .u8 (c.toNat : Int)] 3 (Nat.le_refl _) (by unfold maxLen; omega) (by simp)
 exact convert_owned _ w.heap.size _ [a, b, c] 3 rfl h
set_option maxHeartbeats 4000000 in
set_option maxRecDepth 100000 in
theorem short_walk (s : ByteArray) (a b : Int) (w : World) (hs : s.size ≤ maxLen) (wa : (Lit.int .u8 a).wf = true) (wb : (Lit.int .u8 b).wf = true) :
  Calls Try.prog 9 #[.string s, .int .u8 a, .int .u8 b] w fun e w' => e = .returned (.bool true) ∧ Below w.heap.size w w' := by
 unfold maxLen at hs
 by_cases hgt : 2000 < s.size
 ·have x1 : decide ((2000 : Int) < (s.size : Int)) = true := by simp; omega
  have x2 : decide (2000 < s.size) = true := by simpa using hgt
  go_enter Try.func9, Try.ntmps9
  go_wp2_with fail
  refine (huffAwake w).mono ?_
  rintro e w1 ⟨rfl, hb1⟩
  go_wp2_with fail
  refine (huffAwake w1).mono ?_
  rintro e w2 ⟨rfl, hb2⟩
  go_wp2
  go_ret
  exact ⟨rfl, hb1.trans (hb2.mono hb1.size)⟩
 have x1 : decide ((2000 : Int) < (s.size : Int)) = false := by simp; omega
 have x2 : decide (2000 < s.size) = false := by simpa using hgt
 obtain ⟨an, rfl, ha⟩ : ∃ n : Nat, a = (n : Int) ∧ n < 256 := by
  have := bounds_u8 wa
  exact ⟨a.toNat, by omega, by omega⟩
 obtain ⟨bn, rfl, hb⟩ : ∃ n : Nat, b = (n : Int) ∧ n < 256 := by
  have := bounds_u8 wb
  exact ⟨b.toNat, by omega, by omega⟩
 clear wa wb
 obtain ⟨ws, hws⟩ : ∃ ws, ws = cntL s.data.toList := ⟨_, rfl⟩
 have hsl : s.data.toList.length = s.size := by simp
 have hwl : ws.length = 256 := by rw [hws]; exact cntL_length _
 have hsum : ws.sum = s.size := by rw [hws, ← hsl]; exact cntL_sum _ _ rfl
 have hwle : ∀ n ∈ ws, n ≤ 2000 := fun n hn => by rw [hws] at hn; have := cntL_le _ n hn; omega
 have hwo : WOk ws := ⟨hwl, fun n hn => by have := hwle n hn; omega⟩
 have hrc := fun w => refCount s w (by omega)
 rw [← hws] at hrc
 have hln := fun w => huffLengths ws w hwo
 have hls := lensW_length ws hwl
 have hlt := lensW_lt ws
 have h8 := bw_eight hwl (by omega)
 rw [hsum] at h8
 generalize hls' : lensW ws = ls at *
 clear hls'
 obtain ⟨W, hW⟩ : ∃ W, W = cells64 ws := ⟨_, rfl⟩
 obtain ⟨L, hL⟩ : ∃ L, L = c8 ls := ⟨_, rfl⟩
 have hWl : W.length = 256 := by rw [hW, c64_length, hwl]
 have hLl : L.length = 256 := by rw [hL, c8_length, hls]
 have hW1 : W.toArray.all (·.oneCell') = true := by rw [hW]; exact c64_one _
 have hL1 : L.toArray.all (·.oneCell') = true := by rw [hL]; exact c8_one _
 obtain ⟨Z, hZ⟩ : ∃ Z, Z = c8 (List.replicate 256 0) := ⟨_, rfl⟩
 obtain ⟨Z6, hZ6⟩ : ∃ Z, Z = cells64 (List.replicate 256 0) := ⟨_, rfl⟩
 have hz := zero8
 have hy := zero64
 have hzz : (Array.replicate 256 (Value.int .u8 0)) = Z.toArray := by rw [hZ]; unfold c8; rw [List.map_replicate]; exact (List.toArray_replicate 256 _).symm
 have hyy : (Array.replicate 256 (Value.int .u64 0)) = Z6.toArray := by rw [hZ6]; unfold cells64; rw [List.map_replicate]; exact (List.toArray_replicate 256 _).symm
 rw [hzz] at hz
 rw [hyy] at hy
 have hZl : Z.length = 256 := by rw [hZ, c8_length, List.length_replicate]
 have hZ6l : Z6.length = 256 := by rw [hZ6, c64_length, List.length_replicate]
 have hiW : (Try.prog.info? 25).map (·.size) = some W.length := by rw [hWl]; exact info64
 have hiW2 : (Try.prog.info? 25).map (·.size) = some W.toArray.size := by rw [List.size_toArray, hWl]; exact info64
 have hiL2 : (Try.prog.info? 27).map (·.size) = some L.toArray.size := by rw [List.size_toArray, hLl]; exact info8
 rw [← hW] at hrc hln
 rw [← hL] at hln
 have HIW := Lib.hid hiW
 have HIW2 := Lib.hid hiW2
 have HIL2 := Lib.hid hiL2
 have HW1 := Lib.hid hW1
 have HL1 := Lib.hid hL1
 have HW := Lib.hid hW
 have HL := Lib.hid hL
 have HWL := Lib.hid hWl
 have HLL := Lib.hid hLl
 have HZL := Lib.hid hZl
 have HZ6L := Lib.hid hZ6l
 have HLS := Lib.hid hls
 have HWSL := Lib.hid hwl
 have HLT := Lib.hid hlt
 have HWLE := Lib.hid hwle
 have H8 := Lib.hid h8
 have HLN := Lib.hid hln
 have HRC := Lib.hid hrc
 clear hW hL hWl hLl hW1 hL1 hZ hZ6 hzz hyy hZl hZ6l hiW hiW2 hiL2 hln hrc h8 hwle hlt hwl hls hwo hsum hws hsl
 go_enter Try.func9, Try.ntmps9
 go_wp2_with fail
 refine (huffAwake w).mono ?_
 rintro e w1 ⟨rfl, hb1⟩
 go_wp2_with fail
 refine (HRC.out w1).mono ?_
 rintro e w2 ⟨rfl, hb2⟩
 have HB2 := Lib.hid (hb1.trans (hb2.mono hb1.size))
 have hz2 : w.heap.size ≤ w2.heap.size := HB2.out.size
 obtain ⟨th, lk, hbk, hsz⟩ := newArr (B := w.heap.size) (w := w2) (t := 25) (zs := Z6.toArray) (L := W) (by rw [List.size_toArray, HZ6L.out, HWL.out]) hz2
 have TH := Lib.hid th
 have LW := Lib.hid lk
 have HB3 := Lib.hid (HB2.out.trans (hbk.mono hz2))
 have HRW := Lib.hid (arr_range lk)
 clear hb1 hb2 th lk hbk hsz HB2
 go_wp2_with (refine wpList_store_mid rfl 25 _ _ rfl w2.heap.size 0 W.toArray rfl rfl TH.out HIW2.out HW1.out ?_)
 obtain ⟨gw, hgw⟩ : ∃ gw, gw = w2.heap.size := ⟨_, rfl⟩
 generalize (w2.alloc (.cells Z6.toArray 25)).setCells w2.heap.size 0 W = w3 at *
 rw [← hgw] at LW HRW ⊢
 clear hgw TH hz2
 have hz3 : w.heap.size ≤ w3.heap.size := HB3.out.size
 refine wp_load_mid 25 _ rfl gw 0 rfl W _ HRW.out under64 rfl HIW.out ?_
 go_wp2_with fail
 refine (HLN.out w3).mono ?_
 rintro e w4 ⟨rfl, hb4⟩
 have HB4 := Lib.hid (HB3.out.trans (hb4.mono hz3))
 have hz4 : w.heap.size ≤ w4.heap.size := HB4.out.size
 have LW4 := Lib.hid (LW.out.below hb4 LW.out.lt)
 obtain ⟨th, lk, hbk, hsz⟩ := newArr (B := w.heap.size) (w := w4) (t := 27) (zs := Z.toArray) (L := L) (by rw [List.size_toArray, HZL.out, HLL.out]) hz4
 have TH := Lib.hid th
 have LL := Lib.hid lk
 have LW5 := Lib.hid (LW4.out.below hbk LW4.out.lt)
 have HB5 := Lib.hid (HB4.out.trans (hbk.mono hz4))
 clear hb4 th lk hbk hsz HB4 HB3 LW LW4 HRW hz3
 go_wp2_with (refine wpList_store_mid rfl 27 _ _ rfl w4.heap.size 0 L.toArray rfl rfl TH.out HIL2.out HL1.out ?_)
 obtain ⟨gl, hgl⟩ : ∃ gl, gl = w4.heap.size := ⟨_, rfl⟩
 generalize (w4.alloc (.cells Z.toArray 27)).setCells w4.heap.size 0 L = w5 at *
 rw [← hgl] at LL ⊢
 clear hgl TH hz4
 have hz5 : w.heap.size ≤ w5.heap.size := HB5.out.size
 have hbw : ∀ k, k ≤ 256 → bwN ws ls k ≤ k * 512000 := fun k => by
  induction k with
  | zero => intro _; exact Nat.le_refl _
  | succ k ih =>
   intro hk
   have := ih (by omega)
   have h1 : ws.getD k 0 ≤ 2000 := by
    rw [List.getD_eq_getElem?_getD, List.getElem?_eq_getElem (by rw [HWSL.out]; omega)]
    exact HWLE.out _ (List.getElem_mem _)
   have h2 : ls.getD k 0 ≤ 256 := by
    rw [List.getD_eq_getElem?_getD, List.getElem?_eq_getElem (by rw [HLS.out]; omega)]
    exact Nat.le_of_lt (HLT.out _ (List.getElem_mem _))
   have := Nat.mul_le_mul h1 h2
   rw [bwN]; omega
 have HBW := Lib.hid hbw
 clear hbw
 go_loopw [9, 24] (fun n c wr => ∃ i k : Nat, i ≤ 256 ∧ c = .int .i64 i ∧ n = .int .u64 ((bwN ws ls i : Nat) : Int) ∧ wr = w5.drewN k)
  (fun _ c _ => 256 - (intOf c).toNat)
 case atStart => exact ⟨0, 0, by omega, rfl, rfl, rfl⟩
 case round =>
  obtain ⟨i, k, hi, rfl, rfl, rfl⟩ := hrel
  by_cases hlt : i < 256
  ·have hii : (i : Int) < 256 := by omega
   obtain ⟨x, hx⟩ : ∃ n, ws[i]? = some n := ⟨_, List.getElem?_eq_getElem (by rw [HWSL.out]; exact hlt)⟩
   obtain ⟨y, hy⟩ : ∃ n, ls[i]? = some n := ⟨_, List.getElem?_eq_getElem (by rw [HLS.out]; exact hlt)⟩
   have d1 : w5.cell? ⟨gw, i, none⟩ = some (.int .u64 (x : Int)) := (LW5.out.cell i).trans (by rw [HW.out]; exact c64_get hx)
   have d2 : w5.cell? ⟨gl, i, none⟩ = some (.int .u8 (y : Int)) := (LL.out.cell i).trans (by rw [HL.out, List.getElem?_toArray]; exact c8_get hy)
   have hst : bwN ws ls (i + 1) = bwN ws ls i + x * y := by rw [bwN, getD_of hx, getD_of hy]
   have h1 := HBW.out (i + 1) (by omega)
   have h2 := HLT.out y (List.mem_of_getElem? hy)
   have hxy : x * y ≤ 512000 := Nat.mul_le_mul (HWLE.out x (List.mem_of_getElem? hx)) (Nat.le_of_lt h2)
   obtain ⟨z, hz'⟩ : ∃ z, z = x * y := ⟨_, rfl⟩
   rw [← hz'] at hst hxy
   have q0 : (x : Int) * (y : Int) = (z : Int) := by rw [hz', Int.natCast_mul]
   rw [hst] at h1
   have HST := Lib.hid hst
   clear hx hy hst hz'
   go_wp2_with fail
   go_quiet (fail)
   all_goals
    go_wp2_with fail
    go_roundw
    case rel => exact ⟨i + 1, _, by omega, by go_num, by rw [HST.out]; go_num, by first | rfl | trivial⟩
    case measure => simp [intOf]; omega
  ·obtain rfl : i = 256 := by omega
   obtain ⟨A, hA⟩ : ∃ A : UInt8, A.toNat = an := ⟨UInt8.ofNat an, by rw [UInt8.toNat_ofNat', Nat.mod_eq_of_lt ha]⟩
   obtain ⟨B, hB⟩ : ∃ B : UInt8, B.toNat = bn := ⟨UInt8.ofNat bn, by rw [UInt8.toNat_ofNat', Nat.mod_eq_of_lt hb]⟩
   have hcv := lit_text3 (w5.drewN k) A B A an bn an (by omega) (by omega) (by omega) w5.heap.size (by simp)
   obtain ⟨t1, t2⟩ := two_one A B
   obtain ⟨xs, hxs⟩ : ∃ xs, xs = cntL [A, B, A] := ⟨_, rfl⟩
   have hxl : xs.length = 256 := by rw [hxs]; exact cntL_length _
   have hxo : WOk xs := ⟨hxl, fun n hn => by rw [hxs] at hn; have := cntL_le _ n hn; have : [A, B, A].length = 3 := rfl; omega⟩
   have hct := fun w => huffCount (textB [A, B, A]) w (by rw [textB_size]; show 3 ≤ _; omega)
   change ∀ w, Calls Try.prog _ _ w fun e w' => e = .returned (.agg (cells64 (cntL [A, B, A])).toArray) ∧ _ at hct
   have hln := fun w => huffLengths xs w hxo
   rw [← hxs] at hct t1 t2
   have hls := lensW_length xs hxl
   generalize lensW xs = ts at *
   obtain ⟨X, hX⟩ : ∃ X, X = (cells64 xs).toArray := ⟨_, rfl⟩
   obtain ⟨T, hT⟩ : ∃ T, T = c8 ts := ⟨_, rfl⟩
   rw [← hX] at hct hln
   rw [← hT] at hln
   have hTl : T.length = 256 := by rw [hT, c8_length, hls]
   have hT1 : T.toArray.all (·.oneCell') = true := by rw [hT]; exact c8_one _
   have hiT2 : (Try.prog.info? 27).map (·.size) = some T.toArray.size := by rw [List.size_toArray, hTl]; exact info8
   have ea : T.toArray[an]? = some (.int .u8 ((1 : Nat) : Int)) := by
    rw [List.getElem?_toArray, hT]; exact c8_get (by rw [← hA, List.getElem?_eq_getElem (by rw [hls]; exact A.toNat_lt)]; rw [List.getD_eq_getElem?_getD, List.getElem?_eq_getElem (by rw [hls]; exact A.toNat_lt)] at t1; exact congrArg some t1)
   have eb : T.toArray[bn]? = some (.int .u8 ((1 : Nat) : Int)) := by
    rw [List.getElem?_toArray, hT]; exact c8_get (by rw [← hB, List.getElem?_eq_getElem (by rw [hls]; exact B.toNat_lt)]; rw [List.getD_eq_getElem?_getD, List.getElem?_eq_getElem (by rw [hls]; exact B.toNat_lt)] at t2; exact congrArg some t2)
   have HCT := Lib.hid hct
   have HLX := Lib.hid hln
   have HTL := Lib.hid hTl
   have HT1 := Lib.hid hT1
   have HIT := Lib.hid hiT2
   have HEA := Lib.hid ea
   have HEB := Lib.hid eb
   have HB6 := Lib.hid ((below_drewN HB5.out k).alloc (by simpa using hz5) (.cells #[.int .u8 an, .int .u8 bn, .int .u8 an] 5))
   clear hct hln hTl hT1 hiT2 ea eb hX hT hls hxs hxl hxo t1 t2 hA hB
   go_wp2_with fail
   clear hcv
   generalize (w5.drewN k).alloc (.cells #[.int .u8 an, .int .u8 bn, .int .u8 an] 5) = w6 at *
   have hz6 : w.heap.size ≤ w6.heap.size := HB6.out.size
   refine (HCT.out w6).mono ?_
   rintro e w7 ⟨rfl, hb7⟩
   have HB7 := Lib.hid (HB6.out.trans (hb7.mono hz6))
   have hz7 : w.heap.size ≤ w7.heap.size := HB7.out.size
   clear hb7 HB6 hz6 HB5 LW5 LL HCT
   go_wp2_with fail
   refine (HLX.out w7).mono ?_
   rintro e w8 ⟨rfl, hb8⟩
   have HB8 := Lib.hid (HB7.out.trans (hb8.mono hz7))
   have hz8 : w.heap.size ≤ w8.heap.size := HB8.out.size
   obtain ⟨th, lk, hbk, hsz⟩ := newArr (B := w.heap.size) (w := w8) (t := 27) (zs := Z.toArray) (L := T) (by rw [List.size_toArray, HZL.out, HTL.out]) hz8
   have TH := Lib.hid th
   have LT := Lib.hid lk
   have HB9 := Lib.hid (HB8.out.trans (hbk.mono hz8))
   clear hb8 th lk hbk hsz HB8 HB7
   go_wp2_with (refine wpList_store_mid rfl 27 _ _ rfl w8.heap.size 0 T.toArray rfl rfl TH.out HIT.out HT1.out ?_; refine Hid.out ?_)
   obtain ⟨gt, hgt⟩ : ∃ gt, gt = w8.heap.size := ⟨_, rfl⟩
   generalize (w8.alloc (.cells Z.toArray 27)).setCells w8.heap.size 0 T = w9 at *
   rw [← hgt] at LT ⊢
   clear hgt TH hz8
   have d1 : w9.cell? ⟨gt, an, none⟩ = some (.int .u8 ((1 : Nat) : Int)) := (LT.out.cell an).trans HEA.out
   have d2 : w9.cell? ⟨gt, bn, none⟩ = some (.int .u8 ((1 : Nat) : Int)) := (LT.out.cell bn).trans HEB.out
   have ia : (an : Int) < 256 := by omega
   have ib : (bn : Int) < 256 := by omega
   have h8 := H8.out
   have hbe : ∀ n, Below w.heap.size w (w9.drewN n) := fun n => below_drewN HB9.out n
   have HBE := Lib.hid hbe
   clear hbe
   generalize bwN ws ls 256 = bits at *
   refine Lib.hid ?_
   have h8' : (bits : Int) ≤ 8 * (s.size : Int) := by omega
   go_wp2_with fail
   go_ret
   exact ⟨rfl, HB9.out⟩
end Go.Proofs.Ytakdpnlohknniaa
