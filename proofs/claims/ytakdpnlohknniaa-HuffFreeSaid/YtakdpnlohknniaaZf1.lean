import Derived.WalkKit
import Derived.ProofKit
import Derived.Lib.Hide
import Derived.Lib.AppendStr
import Derived.Lib.SlBytesRow
import Derived.Laws.AppendOwnNone
import Derived.Deep.AppendLies
import Derived.Deep.Draws
import Derived.BigQuiet
import Derived.Deep.QuietTactic
import Derived.Deep.RegionWith
import Derived.OpenShut
import Derived.Outline
import Derived.Deep.Slices
import Derived.ChangeSame
import Derived.Laws.IdiomStrings
import Derived.SliceStrings
import Derived.Laws.DeepStrings4
import Derived.SizedLaws
import Derived.Laws.OwnMore
import Derived.Test.YtakdpnlohknniaaRows
import Derived.Deep.OwnRows
import Derived.Deep.MidRow
import Derived.IntWalk
import Derived.Lib.BufferRead
import Derived.Laws.BitsAllLaws
import Derived.Laws.Bits64
import Derived.Laws.Bits64b
import Derived.Deep.RegionHeld3
import Derived.RegionTactic
import Derived.StillTailTactics
import Derived.Deep.RegionLaw
import Derived.Laws.CopyOwn
import Derived.Deep.DeepFit
import Derived.Deep.DeepCutAuto
import Derived.ShutString
import Derived.ChangeOld
import Derived.Below
import Derived.Test.YtakdpnlohknniaaZz5
namespace Go.Proofs.Ytakdpnlohknniaa
open Go.RowKit
set_option linter.unusedVariables false
set_option linter.unusedSimpArgs false
def wgF (ws : List Nat) (i n : Nat) : List Nat := ws.set (i * 37 % 256) n
def wgN (l : List Nat) : Nat → List Nat
 | 0 => List.replicate 256 0
 | i + 1 => if i < 256 then wgF (wgN l i) i (l.getD i 0) else wgN l i
theorem wgN_length (l : List Nat) : ∀ i, (wgN l i).length = 256
 | 0 => List.length_replicate
 | i + 1 => by
  rw [wgN]; split
  ·unfold wgF; rw [List.length_set]; exact wgN_length l i
  ·exact wgN_length l i
theorem wgN_lt (l : List Nat) (h : ∀ x ∈ l, x < 2 ^ 64) : ∀ i, i ≤ l.length → ∀ x ∈ wgN l i, x < 2 ^ 64
 | 0, _, x, hx => by rw [List.eq_of_mem_replicate hx]; decide
 | i + 1, hi, x, hx => by
  rw [wgN] at hx
  split at hx
  ·unfold wgF at hx
   rcases List.mem_or_eq_of_mem_set hx with hx | rfl
   ·exact wgN_lt l h i (by omega) x hx
   ·rw [List.getD_eq_getElem?_getD, List.getElem?_eq_getElem (by omega)]
    exact h _ (List.getElem_mem _)
  ·exact wgN_lt l h i (by omega) x hx
theorem u64_list {W : World} {a : Option Addr} {len cap : Nat} {zs : List Int} (h : ArgInts .u64 W a len cap zs) : ∃ l : List Nat, l.length = len ∧ (∀ x ∈ l, x < 2 ^ 64) ∧ SeqAt W (.slice a len cap) (cells64 l) ∧ len ≤ cap ∧ cap ≤ maxLen := by
 obtain ⟨h0, h1, h2, h3, h4, h5⟩ := h
 have hb : ∀ n ∈ zs, 0 ≤ n ∧ n < 2 ^ 64 := fun n hn => by
  have := bounds_u64 (h5 n hn)
  omega
 have hm : zs.map (Value.int .u64) = cells64 (zs.map Int.toNat) := by
  unfold cells64
  rw [List.map_map]
  refine List.map_congr_left fun n hn => ?_
  show Value.int .u64 n = Value.int .u64 ((n.toNat : Nat) : Int)
  rw [Int.toNat_of_nonneg (hb n hn).1]
 refine ⟨zs.map Int.toNat, by simp [h3], fun x hx => ?_, ?_, h1, h2⟩
 ·obtain ⟨n, hn, rfl⟩ := List.mem_map.1 hx
  have := hb n hn; omega
 ·rw [hm] at h4
  exact SeqAt.of_arg h4 (Below.refl _ _) (by rw [c64_length, List.length_map, h3]) h1 h2
set_option maxHeartbeats 1000000 in
set_option maxRecDepth 100000 in
theorem huffWeights (a : Option Addr) (len cap : Nat) (l : List Nat) (w : World) (hll : l.length = len) (h60 : len ≤ 60) (hl64 : ∀ x ∈ l, x < 2 ^ 64) (hcap : len ≤ cap) (hcm : cap ≤ 9223372036854775807) (hseq : SeqAt w (.slice a len cap) (cells64 l)) :
  Calls Try.prog 11 #[.slice a len cap] w fun e w' => e = .returned (.agg (cells64 (wgN l len)).toArray) ∧ Below w.heap.size w w' := by
 obtain ⟨zs, hzs⟩ : ∃ zs : Array Value, zs = Array.replicate 256 (.int .u64 0) := ⟨_, rfl⟩
 have hz := zero64
 rw [← hzs] at hz
 have hzl : zs = (cells64 (wgN l 0)).toArray := by
  rw [hzs]
  show _ = (cells64 (List.replicate 256 0)).toArray
  unfold cells64
  rw [List.map_replicate]
  exact (List.toArray_replicate 256 _).symm
 have hzn : zs.size = 256 := by rw [hzs, Array.size_replicate]
 have HZL := Lib.hid hzl
 have HZN := Lib.hid hzn
 have HSQ := Lib.hid hseq
 have HLL := Lib.hid hll
 have H64 := Lib.hid hl64
 clear hzs hzl hzn hseq hll hl64
 go_enter Try.func11, Try.ntmps11
 have l0 := (Lies.made w 25 zs).alloc (.cells zs 25)
 have l1 := Lies.made (w.alloc (.cells zs 25)) 25 zs
 have hb1 : Below w.heap.size w ((w.alloc (.cells zs 25)).alloc (.cells zs 25)) := ((Below.refl _ _).alloc (Nat.le_refl _) _).alloc (by simp) _
 have hgs : (w.alloc (.cells zs 25)).heap.size = w.heap.size + 1 := by simp
 rw [hgs] at l1
 have H0 := Lib.hid l0
 have H1 := Lib.hid l1
 have HB := Lib.hid hb1
 clear l0 l1 hb1
 go_wp2_with fail
 clear hz hgs
 generalize (w.alloc (.cells zs 25)).alloc (.cells zs 25) = w1 at *
 go_loopw [8] (fun c wr => ∃ i : Nat, i ≤ len ∧ c = .int .i64 i ∧ Lies wr w.heap.size 25 zs ∧ Lies wr (w.heap.size + 1) 25 (cells64 (wgN l i)).toArray ∧ Below w.heap.size w wr)
  (fun c _ => len - (intOf c).toNat)
 case atStart => exact ⟨0, by omega, rfl, H0.out, by rw [← HZL.out]; exact H1.out, HB.out⟩
 case round =>
  clear H0 H1 HB
  obtain ⟨i, hi, rfl, l0, l1, hb⟩ := hrel
  have L0 := Lib.hid l0
  have L1 := Lib.hid l1
  have HB := Lib.hid hb
  clear l0 l1 hb
  by_cases hlt : i < len
  ·have hii : (i : Int) < (len : Int) := by omega
   have hi256 : (i : Int) < 256 := by omega
   obtain ⟨n, hn⟩ : ∃ n, l[i]? = some n := ⟨_, List.getElem?_eq_getElem (by rw [HLL.out]; exact hlt)⟩
   obtain ⟨A', c', e1, _, _, hc⟩ := HSQ.out
   simp only [Value.slice.injEq] at e1
   obtain ⟨rfl, _, rfl⟩ := e1
   obtain ⟨b, off, rfl, hcell⟩ := hc i _ (by rw [← List.getElem?_toArray]; exact c64_get hn)
   have cn : wr.cell? ⟨b, off + i, none⟩ = some (.int .u64 (n : Int)) := (HB.out.cell (World.block_lt_of_cell? w _ hcell)).trans hcell
   have hput := L1.out.put (i * 37 % 256) (.int .u64 (n : Int))
   have hfree := L1.out.free (i * 37 % 256)
   rw [c64_set] at hput
   have e : wgN l (i + 1) = (wgN l i).set (i * 37 % 256) n := by
    rw [wgN, if_pos (by omega), List.getD_eq_getElem?_getD, hn]; rfl
   rw [← e] at hput
   have hold : ∃ m : Nat, wr.cell? ⟨w.heap.size + 1, i * 37 % 256, none⟩ = some (.int .u64 (m : Int)) := by
    have hlen := wgN_length l i
    refine ⟨(wgN l i)[i * 37 % 256]'(by omega), (L1.out.cell _).trans ?_⟩
    rw [List.getElem?_toArray]
    unfold cells64
    rw [List.getElem?_map, List.getElem?_eq_getElem (by omega)]; rfl
   obtain ⟨m, hm⟩ := hold
   have hput2 := Lib.hid hput
   have hfar := Lib.hid (L0.out.far (p := ⟨w.heap.size + 1, i * 37 % 256, none⟩) (by show w.heap.size ≠ w.heap.size + 1; omega) (.int .u64 (n : Int)))
   have hbn := Lib.hid (HB.out.setCell (p := ⟨w.heap.size + 1, i * 37 % 256, none⟩) (by show w.heap.size ≤ w.heap.size + 1; omega) (.int .u64 (n : Int)))
   have q3 : (i : Int) * 37 % 256 < 256 := by omega
   clear hput hn e hcell hc
   go_wp2_with fail
   go_roundw
   case rel => exact ⟨i + 1, by omega, by go_num, hfar.out, hput2.out, hbn.out⟩
   case measure => simp [intOf]; omega
  ·obtain rfl : i = len := by omega
   obtain ⟨T, hT⟩ : ∃ T, T = cells64 (wgN l i) := ⟨_, rfl⟩
   have hTl : T.length = 256 := by rw [hT, c64_length, wgN_length]
   have hone : T.toArray.all (·.oneCell') = true := by rw [hT]; exact c64_one _
   rw [← hT] at L1
   have HT := Lib.hid hT
   have hr := Lib.hid (arr_range L1.out)
   have ht := Lib.hid (arr_there L0.out (n := T.toArray.size) (HZN.out.trans (by rw [List.size_toArray, hTl])))
   have hst := Lib.hid (arr_store L0.out (L := T) (HZN.out.trans hTl.symm))
   have hi1 : (Try.prog.info? 25).map (·.size) = some T.length := by rw [hTl]; exact info64
   have hi2 : (Try.prog.info? 25).map (·.size) = some T.toArray.size := by rw [List.size_toArray, hTl]; exact info64
   have HI1 := Lib.hid hi1
   have HI2 := Lib.hid hi2
   have HONE := Lib.hid hone
   have hbz := Lib.hid (below_cellsA (Nat.le_refl w.heap.size) T 0 wr HB.out)
   clear hT hone hi1 hi2
   go_wp2_with (first | refine wpList_load_mid rfl 25 _ rfl (w.heap.size + 1) 0 rfl T _ hr.out under64 rfl HI1.out ?_ | refine wpList_store_mid rfl 25 _ _ rfl w.heap.size 0 T.toArray rfl rfl ht.out HI2.out HONE.out ?_)
   refine bodyPost_ret (v := .agg T.toArray) (results_cell_arr Try.results11 _ _ w.heap.size T _ rfl (arr_range hst.out) under64 rfl HI1.out) rfl ⟨by rw [HT.out], hbz.out⟩
def dpF (s : List N2) (num : Nat) : Nat → Nat :=
 match s with
 | a :: b :: r => fun x => if x = a.2 ∨ x = b.2 then dpF (insL (sumW a.1 b.1, num) r) (num + 1) num + 1 else dpF (insL (sumW a.1 b.1, num) r) (num + 1) x
 | _ => fun _ => 0
termination_by s.length
decreasing_by all_goals simp [insL_length]
theorem dpF_step (a b : N2) (r : List N2) (num : Nat) (x : Nat) : dpF (a :: b :: r) num x = if x = a.2 ∨ x = b.2 then dpF (insL (sumW a.1 b.1, num) r) (num + 1) num + 1 else dpF (insL (sumW a.1 b.1, num) r) (num + 1) x := by
 conv => lhs; unfold dpF
theorem dpF_end (s : List N2) (num x : Nat) (h : s.length ≤ 1) : dpF s num x = 0 := by
 unfold dpF
 match s, h with
 | [], _ => rfl
 | [a], _ => rfl
theorem dpF_le : ∀ (n : Nat) (s : List N2) (num x : Nat), s.length = n → dpF s num x ≤ n - 1
 | 0, s, num, x, h => by rw [dpF_end _ _ _ (by omega)]; omega
 | 1, s, num, x, h => by rw [dpF_end _ _ _ (by omega)]; omega
 | n + 2, s, num, x, h => by
  match s, h with
  | a :: b :: r, h =>
   have hl : (insL (sumW a.1 b.1, num) r).length = n + 1 := by rw [insL_length]; simp at h; omega
   rw [dpF_step]
   have h1 := dpF_le (n + 1) _ (num + 1) num hl
   have h2 := dpF_le (n + 1) _ (num + 1) x hl
   split <;> omega
def kr (M : Nat) (D : Nat → Nat) (s : List N2) : Nat := (s.map fun p => 2 ^ (M - D p.2)).sum
theorem kr_perm {M : Nat} {D : Nat → Nat} {s t : List N2} (h : s.Perm t) : kr M D s = kr M D t := (h.map _).sum_nat
theorem kr_cons (M : Nat) (D : Nat → Nat) (p : N2) (s : List N2) : kr M D (p :: s) = 2 ^ (M - D p.2) + kr M D s := by simp [kr]
theorem kr_congr {M : Nat} {D E : Nat → Nat} {s : List N2} (h : ∀ p ∈ s, D p.2 = E p.2) : kr M D s = kr M E s := by
 unfold kr
 congr 1
 exact List.map_congr_left fun p hp => by rw [h p hp]
def NumOk (s : List N2) (num : Nat) : Prop := (∀ p ∈ s, p.2 < num) ∧ (s.map (·.2)).Nodup
theorem numOk_step {a b : N2} {r : List N2} {num w : Nat} (h : NumOk (a :: b :: r) num) : NumOk (insL (w, num) r) (num + 1) := by
 obtain ⟨h1, h2⟩ := h
 refine ⟨fun p hp => ?_, ?_⟩
 ·rcases List.mem_cons.1 ((insL_perm _ _).mem_iff.1 hp) with rfl | hp
  ·show num < num + 1; omega
  ·have := h1 p (by simp [hp]); omega
 ·have hp := (insL_perm (w, num) r).map (·.2)
  rw [hp.nodup_iff]
  simp only [List.map_cons, List.nodup_cons] at h2 ⊢
  refine ⟨fun hm => ?_, h2.2.2⟩
  obtain ⟨q, hq, he⟩ := List.mem_map.1 hm
  have := h1 q (by simp [hq])
  omega
theorem kraft : ∀ (n : Nat) (s : List N2) (num M : Nat), s.length = n + 1 → NumOk s num → n ≤ M → kr M (dpF s num) s = 2 ^ M
 | 0, s, num, M, h, hn, hM => by
  match s, h with
  | [p], h => rw [kr_cons, dpF_end _ _ _ (by simp)]; simp [kr]
 | n + 1, s, num, M, h, hn, hM => by
  match s, h with
  | a :: b :: r, h =>
   have hl : (insL (sumW a.1 b.1, num) r).length = n + 1 := by rw [insL_length]; simp at h; omega
   have ih := kraft n _ (num + 1) M hl (numOk_step hn) (by omega)
   have hp := kr_perm (M := M) (D := dpF (insL (sumW a.1 b.1, num) r) (num + 1)) (insL_perm (sumW a.1 b.1, num) r)
   rw [hp, kr_cons] at ih
   have hd := dpF_le (n + 1) _ (num + 1) num hl
   have ha : dpF (a :: b :: r) num a.2 = dpF (insL (sumW a.1 b.1, num) r) (num + 1) num + 1 := by rw [dpF_step, if_pos (.inl rfl)]
   have hb : dpF (a :: b :: r) num b.2 = dpF (insL (sumW a.1 b.1, num) r) (num + 1) num + 1 := by rw [dpF_step, if_pos (.inr rfl)]
   have hr : kr M (dpF (a :: b :: r) num) r = kr M (dpF (insL (sumW a.1 b.1, num) r) (num + 1)) r := kr_congr fun p hp => by
    have h2 := hn.2
    simp only [List.map_cons, List.nodup_cons] at h2
    rw [dpF_step, if_neg]
    rintro (e | e)
    ·exact h2.1 (List.mem_cons_of_mem _ (List.mem_map.2 ⟨p, hp, e⟩))
    ·exact h2.2.1 (List.mem_map.2 ⟨p, hp, e⟩)
   rw [kr_cons, kr_cons, ha, hb, hr]
   simp only at ih
   generalize dpF (insL (sumW a.1 b.1, num) r) (num + 1) num = d at *
   have e : 2 ^ (M - d) = 2 ^ (M - (d + 1)) + 2 ^ (M - (d + 1)) := by
    rw [show M - d = M - (d + 1) + 1 by omega, Nat.pow_succ]; omega
   omega
theorem mrgP_keep : ∀ (n : Nat) (s : List N2) (ps : List Nat) (x : Nat), s.length = n → (∀ p ∈ s, p.2 < ps.length) → x < ps.length → (∀ p ∈ s, p.2 ≠ x) → (mrgP s ps).getD x 0 = ps.getD x 0
 | 0, s, ps, x, h, hn, hx, hl => by rw [mrgP_end _ _ (by omega)]
 | 1, s, ps, x, h, hn, hx, hl => by rw [mrgP_end _ _ (by omega)]
 | n + 2, s, ps, x, h, hn, hx, hl => by
  match s, h with
  | a :: b :: r, h =>
   rw [mrgP_step, mrgP_keep (n + 1) _ _ x (by rw [insL_length]; simp at h; omega) (fun p hp => ?_) (by rw [ps2_length]; omega) (fun p hp => ?_),
    getD_ps2 ps a b (hn a (by simp)) (hn b (by simp)) x hx, if_neg (hl b (by simp)), if_neg (hl a (by simp))]
   ·rw [ps2_length]
    rcases List.mem_cons.1 ((insL_perm _ _).mem_iff.1 hp) with rfl | hp
    ·show ps.length < ps.length + 1; omega
    ·have := hn p (by simp [hp]); omega
   ·rcases List.mem_cons.1 ((insL_perm _ _).mem_iff.1 hp) with rfl | hp
    ·show ps.length ≠ x; omega
    ·exact hl p (by simp [hp])
theorem dp_parent : ∀ (n : Nat) (s : List N2) (ps : List Nat), s.length = n → NumOk s ps.length → ∀ x,
  x + 1 < (mrgP s ps).length → (∀ p ∈ s, s.length = 1 → p.2 + 1 = ps.length) → (∃ p ∈ s, p.2 = x) ∨ ps.length ≤ x →
  dpF s ps.length x = dpF s ps.length ((mrgP s ps).getD x 0) + 1 ∧ ps.length ≤ (mrgP s ps).getD x 0
 | 0, s, ps, h, hn, x, hx, h1, hor => by
  have : s = [] := List.length_eq_zero_iff.1 h
  subst this
  rw [mrgP_end _ _ (by simp)] at hx
  rcases hor with ⟨p, hp, _⟩ | hor
  ·cases hp
  ·omega
 | 1, s, ps, h, hn, x, hx, h1, hor => by
  rw [mrgP_end _ _ (by omega)] at hx
  rcases hor with ⟨p, hp, e⟩ | hor
  ·have := h1 p hp h; omega
  ·omega
 | n + 2, s, ps, h, hn, x, hx, h1, hor => by
  match s, h with
  | a :: b :: r, h =>
   have hl : (insL (sumW a.1 b.1, ps.length) r).length = n + 1 := by rw [insL_length]; simp at h; omega
   have ha := hn.1 a (by simp)
   have hb := hn.1 b (by simp)
   have hnd := hn.2
   simp only [List.map_cons, List.nodup_cons] at hnd
   rw [mrgP_step] at hx ⊢
   have hns : NumOk (insL (sumW a.1 b.1, ps.length) r) (ps2 ps a b).length := by rw [ps2_length]; exact numOk_step hn
   by_cases hab : x = a.2 ∨ x = b.2
   ·have hxl : x < ps.length := by rcases hab with h | h <;> omega
    have hP : (mrgP (insL (sumW a.1 b.1, ps.length) r) (ps2 ps a b)).getD x 0 = ps.length := by
     rw [mrgP_keep (n + 1) _ _ x hl hns.1 (by rw [ps2_length]; omega) (fun p hp => ?_), getD_ps2 ps a b ha hb x hxl]
     ·rcases hab with h | h
      ·by_cases hb2 : b.2 = x
       ·rw [if_pos hb2]
       ·rw [if_neg hb2, if_pos h.symm]
      ·rw [if_pos h.symm]
     ·rcases List.mem_cons.1 ((insL_perm _ _).mem_iff.1 hp) with rfl | hp
      ·show ps.length ≠ x; omega
      ·intro e
       rcases hab with h | h
       ·exact hnd.1 (List.mem_cons_of_mem _ (List.mem_map.2 ⟨p, hp, by rw [e, h]⟩))
       ·exact hnd.2.1 (List.mem_map.2 ⟨p, hp, by rw [e, h]⟩)
    rw [hP, dpF_step, if_pos hab, dpF_step, if_neg (by omega)]
    exact ⟨rfl, Nat.le_refl _⟩
   ·have hor' : (∃ p ∈ insL (sumW a.1 b.1, ps.length) r, p.2 = x) ∨ (ps2 ps a b).length ≤ x := by
     rw [ps2_length]
     rcases hor with ⟨p, hp, e⟩ | hor
     ·rcases List.mem_cons.1 hp with rfl | hp
      ·exact absurd (.inl e.symm) hab
      ·rcases List.mem_cons.1 hp with rfl | hp
       ·exact absurd (.inr e.symm) hab
       ·exact .inl ⟨p, (insL_perm _ _).mem_iff.2 (List.mem_cons_of_mem _ hp), e⟩
     ·by_cases hxe : x = ps.length
      ·exact .inl ⟨(sumW a.1 b.1, ps.length), (insL_perm _ _).mem_iff.2 (by simp), hxe.symm⟩
      ·exact .inr (by omega)
    have ih := dp_parent (n + 1) _ (ps2 ps a b) hl hns x hx (fun p hp e => by
     rw [ps2_length]
     have hr : r = [] := by
      rw [insL_length] at e
      exact List.length_eq_zero_iff.1 (by omega)
     subst hr
     simp [insL] at hp
     rw [hp]) hor'
    rw [ps2_length] at ih
    refine ⟨?_, by omega⟩
    rw [dpF_step, if_neg hab, dpF_step, if_neg (by omega)]
    exact ih.1
theorem dpF_root : ∀ (n : Nat) (s : List N2) (num x : Nat), s.length = n + 1 → (∀ p ∈ s, p.2 < num) → (0 < n → x = num + n - 1) → dpF s num x = 0
 | 0, s, num, x, h, _, _ => dpF_end _ _ _ (by omega)
 | n + 1, s, num, x, h, hn, hx => by
  match s, h with
  | a :: b :: r, h =>
   have hx' := hx (by omega)
   have ha := hn a (by simp)
   have hb := hn b (by simp)
   rw [dpF_step, if_neg (by omega)]
   exact dpF_root n _ (num + 1) x (by rw [insL_length]; simp at h; omega) (fun p hp => by
    rcases List.mem_cons.1 ((insL_perm _ _).mem_iff.1 hp) with rfl | hp
    ·show num < num + 1; omega
    ·have := hn p (by simp [hp]); omega) (fun _ => by omega)
section
variable (ws : List Nat)
theorem srt_num : NumOk (sortL (lvs ws)) (List.replicate (lvs ws).length 0).length := by
 rw [List.length_replicate]
 refine ⟨fun p hp => lvs_lt ws p ((sortL_perm _).mem_iff.1 hp), ?_⟩
 have hm : (lvs ws).map (·.2) = List.range (lvs ws).length := by
  apply List.ext_getElem?
  intro i
  rw [List.getElem?_map]
  by_cases hi : i < (lvs ws).length
  ·have hg := List.getElem?_eq_getElem hi
   rw [hg, List.getElem?_range hi]
   simp [(lvs_num _ ws rfl i _ hg).1]
  ·rw [List.getElem?_eq_none (by omega), List.getElem?_eq_none (by simp; omega)]; rfl
 rw [((sortL_perm (lvs ws)).map (·.2)).nodup_iff, hm]
 exact List.nodup_range
def dpW (x : Nat) : Nat := dpF (sortL (lvs ws)) (lvs ws).length x
theorem dpW_le (x : Nat) : dpW ws x ≤ (lvs ws).length - 1 := dpF_le _ _ _ _ (sortL_length _)
theorem dpW_parent (x : Nat) (hx : x + 1 < (parW ws).length) : dpW ws x = dpW ws ((parW ws).getD x 0) + 1 := by
 have h := dp_parent (lvs ws).length (sortL (lvs ws)) (List.replicate (lvs ws).length 0) (sortL_length _) (srt_num ws) x hx (fun p hp e => by
  rw [List.length_replicate]
  rw [sortL_length] at e
  have := lvs_lt ws p ((sortL_perm _).mem_iff.1 hp)
  omega) (by
  rw [List.length_replicate]
  by_cases hxn : x < (lvs ws).length
  ·have hg := List.getElem?_eq_getElem hxn
   exact .inl ⟨_, (sortL_perm _).mem_iff.2 (List.getElem_mem hxn), (lvs_num _ ws rfl x _ hg).1⟩
  ·exact .inr (by omega))
 rw [List.length_replicate] at h
 exact h.1
theorem depN_is (hn : 2 ≤ (lvs ws).length) (hn256 : (lvs ws).length ≤ 256) : ∀ t, t + 1 ≤ (parW ws).length → ∀ i, (parW ws).length - 1 - t ≤ i → i < (parW ws).length → (depN (parW ws) t).getD i 0 = dpW ws i
 | 0, ht, i, h1, h2 => by
  have hz : (depN (parW ws) 0).getD i 0 = 0 := by
   rw [depN, List.getD_eq_getElem?_getD, List.getElem?_replicate, if_pos h2]; rfl
  rw [hz]
  have hpl := parW_length ws
  exact (dpF_root ((lvs ws).length - 1) _ _ i (by rw [sortL_length]; omega) (fun p hp => lvs_lt ws p ((sortL_perm _).mem_iff.1 hp)) (fun _ => by omega)).symm
 | t + 1, ht, i, h1, h2 => by
  have hl := depN_length (parW ws) t
  rw [depN, getD_set _ _ _ _ (by omega)]
  by_cases hi : (parW ws).length - 2 - t = i
  ·rw [if_pos hi, hi]
   have ho := parW_on ws i (by omega)
   rw [depN_is hn hn256 t (by omega) _ (by omega) ho.2, ← dpW_parent ws i (by omega)]
   have := dpW_le ws i
   exact Nat.mod_eq_of_lt (by omega)
  ·rw [if_neg hi]
   exact depN_is hn hn256 t (by omega) i (by omega) h2
theorem lvs_le (hw : ws.length = 256) : (lvs ws).length ≤ 256 := by
 have h2 := lvs_length ws 256
 rwa [List.take_of_length_le (by rw [hw]; exact Nat.le_refl _)] at h2
theorem depW_is (hw : ws.length = 256) (hn : 2 ≤ (lvs ws).length) (i : Nat) (hi : i < (parW ws).length) : (depW ws).getD i 0 = dpW ws i := by
 unfold depW depA
 rw [if_neg (by omega)]
 have hpl := parW_length ws
 exact depN_is ws hn (lvs_le ws hw) _ (by omega) i (by omega) hi
theorem depW_one (hn : (lvs ws).length = 1) : (depW ws).getD 0 0 = 1 := by
 have hpl := parW_length ws
 unfold depW depA
 rw [if_pos hn, getD_set _ _ _ _ (by rw [depN_length]; omega), if_pos rfl]
theorem depW_pos (hw : ws.length = 256) (i : Nat) (hi : i < (lvs ws).length) : 1 ≤ (depW ws).getD i 0 := by
 have hpl := parW_length ws
 by_cases h1 : (lvs ws).length = 1
 ·obtain rfl : i = 0 := by omega
  rw [depW_one ws h1]; exact Nat.le_refl _
 ·rw [depW_is ws hw (by omega) i (by omega), dpW_parent ws i (by omega)]; omega
end
theorem lenP_get (ds : List Nat) : ∀ (ws : List Nat) (k i n : Nat), i < k → ws[i]? = some n → (lenP ds (ws.take k)).1.getD i 0 = if 0 < n then ds.getD (lvs (ws.take i)).length 0 else 0
 | ws, 0, i, n, h, _ => by omega
 | ws, k + 1, i, n, h, hn => by
  rcases hk : ws[k]? with _ | m
  ·have hlen : ws.length ≤ k := List.getElem?_eq_none_iff.1 hk
   have hil := (List.getElem?_eq_some_iff.1 hn).1
   have e : ws.take (k + 1) = ws.take k := by rw [List.take_of_length_le (by omega), List.take_of_length_le hlen]
   rw [e]
   exact lenP_get ds ws k i n (by omega) hn
  ·have hkl := (List.getElem?_eq_some_iff.1 hk).1
   have hl1 := lenP_length ds k (ws.take k) (by rw [List.length_take]; omega)
   have hls := lenP_snd ds _ (ws.take k) rfl
   rw [lenP_take hk]
   by_cases hik : i = k
   ·subst hik
    rw [hk] at hn
    have := Option.some.inj hn
    subst this
    unfold lenF
    by_cases h0 : 0 < m
    ·rw [if_pos h0, if_pos h0, hls, List.getD_eq_getElem?_getD, List.getElem?_append_right (by omega), hl1, Nat.sub_self]; rfl
    ·rw [if_neg h0, if_neg h0, List.getD_eq_getElem?_getD, List.getElem?_append_right (by omega), hl1, Nat.sub_self]; rfl
   ·have ih := lenP_get ds ws k i n (by omega) hn
    unfold lenF
    split
    ·rw [getD_append _ _ _ (by omega)]; exact ih
    ·rw [getD_append _ _ _ (by omega)]; exact ih
theorem lensW_get {ws : List Nat} (hw : ws.length = 256) {i n : Nat} (hn : ws[i]? = some n) : (lensW ws).getD i 0 = if 0 < n then (depW ws).getD (lvs (ws.take i)).length 0 else 0 := by
 have hi := (List.getElem?_eq_some_iff.1 hn).1
 have := lenP_get (depW ws) ws 256 i n (by omega) hn
 rwa [List.take_of_length_le (by omega)] at this
theorem lvs_at {ws : List Nat} {i n : Nat} (hn : ws[i]? = some n) (h0 : 0 < n) : (lvs (ws.take i)).length < (lvs ws).length := by
 have h1 := lvs_take hn
 have hi := (List.getElem?_eq_some_iff.1 hn).1
 have h2 := lvs_mono' ws (ws.length - (i + 1)) (i + 1)
 rw [show i + 1 + (ws.length - (i + 1)) = ws.length by omega, List.take_of_length_le (Nat.le_refl _), h1] at h2
 unfold lvF at h2
 rw [if_pos h0, List.length_append, List.length_singleton] at h2
 omega
theorem lensW_zero {ws : List Nat} (hw : ws.length = 256) {i n : Nat} (hn : ws[i]? = some n) : (lensW ws).getD i 0 = 0 ↔ n = 0 := by
 rw [lensW_get hw hn]
 by_cases h0 : 0 < n
 ·rw [if_pos h0]
  have := depW_pos ws hw _ (lvs_at hn h0)
  omega
 ·rw [if_neg h0]; omega
def gS (d : Nat) : Nat := if d = 0 then 0 else 2 ^ (56 - d)
theorem shr_sum (ls : List Nat) : ∀ b, shr ls b = ((ls.take b).map gS).sum
 | 0 => by simp [shr]
 | b + 1 => by
  rcases h : ls[b]? with _ | n
  ·have e : ls.take (b + 1) = ls.take b := by rw [List.take_add_one, h]; simp
   have := shr_sum ls b
   unfold shr at *
   rw [e]; exact this
  ·rw [shr_step h, shr_sum ls b, List.take_add_one, h]
   unfold shF gS
   simp only [Option.toList_some, List.map_append, List.sum_append, List.map_cons, List.map_nil, List.sum_cons, List.sum_nil]
   split <;> omega
theorem lenP_sum (ds : List Nat) (n : Nat) : ∀ ws : List Nat, ws.length = n → (((lenP ds ws).1).map gS).sum = ((lvs ws).map fun p => gS (ds.getD p.2 0)).sum := by
 induction n with
 | zero => intro ws h; rw [List.length_eq_zero_iff.1 h]; rfl
 | succ n ih =>
  intro ws h
  obtain ⟨ws', b, rfl⟩ : ∃ l b, ws = l ++ [b] := ⟨ws.dropLast, ws.getLast (by intro e; rw [e] at h; simp at h), (List.dropLast_concat_getLast _).symm⟩
  have h' : ws'.length = n := by simpa using h
  have i1 := ih ws' h'
  have i2 := lenP_snd ds _ ws' rfl
  rw [lvs_snoc]
  have e : lenP ds (ws' ++ [b]) = lenF ds (lenP ds ws') b := by unfold lenP; rw [List.foldl_append]; rfl
  rw [e]
  unfold lenF lvF
  by_cases h0 : 0 < b
  ·rw [if_pos h0, if_pos h0, List.map_append, List.sum_append, List.map_append, List.sum_append, i1, i2]; simp
  ·rw [if_neg h0, if_neg h0, List.map_append, List.sum_append, i1]; simp [gS]
theorem sum_scale : ∀ (l : List N2) (f g : N2 → Nat) (c : Nat), (∀ p ∈ l, f p = c * g p) → (l.map f).sum = c * (l.map g).sum
 | [], f, g, c, _ => by simp
 | p :: l, f, g, c, h => by
  rw [List.map_cons, List.sum_cons, List.map_cons, List.sum_cons, sum_scale l f g c (fun q hq => h q (List.mem_cons_of_mem _ hq)), h p (by simp), Nat.mul_add]
theorem lvs_byte' (m : Nat) : ∀ ws : List Nat, ws.length = m → ∀ i, i < (lvs ws).length → ∃ j n, ws[j]? = some n ∧ 0 < n ∧ (lvs (ws.take j)).length = i := by
 induction m with
 | zero => intro ws h i hi; rw [List.length_eq_zero_iff.1 h] at hi; simp [lvs] at hi
 | succ m ih =>
  intro ws h i hi
  obtain ⟨ws', b, rfl⟩ : ∃ l b, ws = l ++ [b] := ⟨ws.dropLast, ws.getLast (by intro e; rw [e] at h; simp at h), (List.dropLast_concat_getLast _).symm⟩
  have h' : ws'.length = m := by simpa using h
  by_cases hlt : i < (lvs ws').length
  ·obtain ⟨j, n, h1, h2, h3⟩ := ih ws' h' i hlt
   have hj := (List.getElem?_eq_some_iff.1 h1).1
   exact ⟨j, n, by rw [List.getElem?_append_left hj]; exact h1, h2, by rw [List.take_append_of_le_length (by omega)]; exact h3⟩
  ·rw [lvs_snoc] at hi
   unfold lvF at hi
   by_cases h0 : 0 < b
   ·rw [if_pos h0, List.length_append, List.length_singleton] at hi
    exact ⟨ws'.length, b, by rw [List.getElem?_append_right (Nat.le_refl _), Nat.sub_self]; rfl, h0, by rw [List.take_append_of_le_length (Nat.le_refl _), List.take_of_length_le (Nat.le_refl _)]; omega⟩
   ·rw [if_neg h0] at hi; omega
theorem lvs_byte (ws : List Nat) (i : Nat) (hi : i < (lvs ws).length) : ∃ j n, ws[j]? = some n ∧ 0 < n ∧ (lvs (ws.take j)).length = i := lvs_byte' _ ws rfl i hi
theorem lenP_count0 (ds : List Nat) (m : Nat) : ∀ ws : List Nat, ws.length = m → (∀ i, i < (lvs ws).length → 1 ≤ ds.getD i 0) → (lenP ds ws).1.count 0 + (lvs ws).length = m := by
 induction m with
 | zero => intro ws h _; rw [List.length_eq_zero_iff.1 h]; rfl
 | succ m ih =>
  intro ws h hd
  obtain ⟨ws', b, rfl⟩ : ∃ l b, ws = l ++ [b] := ⟨ws.dropLast, ws.getLast (by intro e; rw [e] at h; simp at h), (List.dropLast_concat_getLast _).symm⟩
  have h' : ws'.length = m := by simpa using h
  have i2 := lenP_snd ds _ ws' rfl
  have e : lenP ds (ws' ++ [b]) = lenF ds (lenP ds ws') b := by unfold lenP; rw [List.foldl_append]; rfl
  rw [lvs_snoc] at hd
  rw [e, lvs_snoc]
  unfold lenF lvF at *
  by_cases h0 : 0 < b
  ·rw [if_pos h0] at hd ⊢
   have i1 := ih ws' h' (fun i hi => hd i (by rw [List.length_append]; omega))
   have hb := hd (lvs ws').length (by rw [List.length_append, List.length_singleton]; omega)
   rw [if_pos h0, List.count_append, i2, List.length_append, List.length_singleton]
   have : [ds.getD (lvs ws').length 0].count 0 = 0 := List.count_eq_zero.2 (fun hm => by rw [List.mem_singleton] at hm; omega)
   omega
  ·rw [if_neg h0] at hd ⊢
   have i1 := ih ws' h' hd
   rw [if_neg h0, List.count_append]
   have : [0].count 0 = 1 := by decide
   omega
theorem lenP_count1 (ds : List Nat) (m : Nat) : ∀ ws : List Nat, ws.length = m → (∀ i, i < (lvs ws).length → ds.getD i 0 = 1) → (lenP ds ws).1.count 1 = (lvs ws).length := by
 induction m with
 | zero => intro ws h _; rw [List.length_eq_zero_iff.1 h]; rfl
 | succ m ih =>
  intro ws h hd
  obtain ⟨ws', b, rfl⟩ : ∃ l b, ws = l ++ [b] := ⟨ws.dropLast, ws.getLast (by intro e; rw [e] at h; simp at h), (List.dropLast_concat_getLast _).symm⟩
  have h' : ws'.length = m := by simpa using h
  have i2 := lenP_snd ds _ ws' rfl
  have e : lenP ds (ws' ++ [b]) = lenF ds (lenP ds ws') b := by unfold lenP; rw [List.foldl_append]; rfl
  rw [lvs_snoc] at hd
  rw [e, lvs_snoc]
  unfold lenF lvF at *
  by_cases h0 : 0 < b
  ·rw [if_pos h0] at hd ⊢
   have i1 := ih ws' h' (fun i hi => hd i (by rw [List.length_append]; omega))
   have hb := hd (lvs ws').length (by rw [List.length_append, List.length_singleton]; omega)
   rw [if_pos h0, List.count_append, i2, List.length_append, List.length_singleton, hb, i1]
   rfl
  ·rw [if_neg h0] at hd ⊢
   have i1 := ih ws' h' hd
   rw [if_neg h0, List.count_append, i1]
   rfl
theorem lens_whole {ws : List Nat} (hw : ws.length = 256) (h56 : ∀ x ∈ lensW ws, x ≤ 56) : wholeB (lensW ws) = true ∧ shr (lensW ws) 256 ≤ 2 ^ 56 := by
 have hl := lensW_length ws hw
 have hsum : shr (lensW ws) 256 = ((lvs ws).map fun p => gS ((depW ws).getD p.2 0)).sum := by
  rw [shr_sum, List.take_of_length_le (by omega)]
  exact lenP_sum (depW ws) _ ws rfl
 by_cases h2 : 2 ≤ (lvs ws).length
 ·have hk := kraft ((lvs ws).length - 1) (sortL (lvs ws)) (List.replicate (lvs ws).length 0).length 255 (by rw [sortL_length]; omega) (srt_num ws) (by have := lvs_le ws hw; omega)
  rw [List.length_replicate, kr_perm (sortL_perm _)] at hk
  have hpl := parW_length ws
  have hsc := sum_scale (lvs ws) (fun p => 2 ^ (255 - dpW ws p.2)) (fun p => gS ((depW ws).getD p.2 0)) (2 ^ 199) (fun p hp => by
   have hlt := lvs_lt ws p hp
   have hpos := depW_pos ws hw p.2 hlt
   have hd := depW_is ws hw h2 p.2 (by omega)
   have hle : (depW ws).getD p.2 0 ≤ 56 := by
    obtain ⟨i, hi, he⟩ := List.getElem_of_mem hp
    have hg : (lvs ws)[i]? = some p := by rw [List.getElem?_eq_getElem hi, he]
    have hnum := (lvs_num _ ws rfl i p hg).1
    -- the length of its byte
    obtain ⟨j, n, hj, hn0, hjl⟩ := lvs_byte ws i hi
    have hlg := lensW_get hw hj
    rw [if_pos hn0, hjl] at hlg
    rw [hnum, ← hlg]
    refine h56 _ ?_
    rw [List.getD_eq_getElem?_getD, List.getElem?_eq_getElem (by have := (List.getElem?_eq_some_iff.1 hj).1; omega)]
    exact List.getElem_mem _
   unfold gS
   rw [if_neg (by omega), hd, ← Nat.pow_add]
   congr 1
   omega)
  have hkr : kr 255 (dpF (sortL (lvs ws)) (lvs ws).length) (lvs ws) = ((lvs ws).map fun p => 2 ^ (255 - dpW ws p.2)).sum := rfl
  rw [hkr, hsc, ← hsum] at hk
  have hs : shr (lensW ws) 256 = 2 ^ 56 := by
   have e : (2 : Nat) ^ 255 = 2 ^ 199 * 2 ^ 56 := by rw [← Nat.pow_add]
   rw [e] at hk
   exact Nat.eq_of_mul_eq_mul_left (Nat.two_pow_pos 199) hk
  refine ⟨?_, by omega⟩
  unfold wholeB
  rw [decide_eq_true (.inr (.inr hs))]
 ·have hc0 := lenP_count0 (depW ws) _ ws rfl (fun i hi => depW_pos ws hw i hi)
  change (lensW ws).count 0 + _ = _ at hc0
  have hcod : cod (lensW ws) 256 = (lvs ws).length := by unfold cod; rw [ct_all _ _ _ (by omega)]; omega
  by_cases h1 : (lvs ws).length = 1
  ·have hc1 := lenP_count1 (depW ws) _ ws rfl (fun i hi => by
    obtain rfl : i = 0 := by omega
    exact depW_one ws h1)
   change (lensW ws).count 1 = _ at hc1
   refine ⟨?_, ?_⟩
   ·unfold wholeB
    rw [decide_eq_true (.inr (.inl ⟨by rw [hcod, h1], by rw [ct_all _ _ _ (by omega), hc1, h1]⟩))]
   ·obtain ⟨p, hp⟩ := List.length_eq_one_iff.1 h1
    have hn := lvs_lt ws p (by rw [hp]; simp)
    rw [hsum, hp]
    have : p.2 = 0 := by omega
    simp only [List.map_cons, List.map_nil, List.sum_cons, List.sum_nil, this, depW_one ws h1]
    decide
  ·have h0 : (lvs ws).length = 0 := by omega
   refine ⟨?_, ?_⟩
   ·unfold wholeB
    rw [decide_eq_true (.inl (by rw [hcod, h0]))]
   ·rw [hsum, List.length_eq_zero_iff.1 h0]; simp
def fcN (ls : List Nat) : Nat → Nat
 | 0 => 0
 | k + 1 => 2 * (fcN ls k + if k = 0 then 0 else ls.count k)
def shC (ls : List Nat) : Nat → Nat
 | 0 => 0
 | k + 1 => shC ls k + if k = 0 then 0 else ls.count k * 2 ^ (56 - k)
theorem shC_mono (ls : List Nat) : ∀ d k, shC ls k ≤ shC ls (k + d)
 | 0, k => Nat.le_refl _
 | d + 1, k => Nat.le_trans (shC_mono ls d k) (by rw [← Nat.add_assoc, shC]; omega)
theorem shC_sum : ∀ (ls : List Nat) (m : Nat), (∀ x ∈ ls, x < m) → shC ls m = (ls.map gS).sum
 | [], m, _ => by
  have : ∀ m, shC [] m = 0 := fun m => by induction m with
   | zero => rfl
   | succ m ih => rw [shC, ih]; simp
  rw [this]; rfl
 | x :: ls, m, h => by
  have ih := shC_sum ls m (fun y hy => h y (List.mem_cons_of_mem _ hy))
  have hx := h x (by simp)
  have hp : ∀ m, shC (x :: ls) m = shC ls m + if 0 < x ∧ x < m then 2 ^ (56 - x) else 0 := fun m => by
   induction m with
   | zero => simp [shC]
   | succ m ih2 =>
    rw [shC, shC, ih2]
    by_cases hm : m = 0
    ·subst hm; rw [if_pos rfl, if_pos rfl, if_neg (by omega), if_neg (by omega)]
    ·rw [if_neg hm, if_neg hm, List.count_cons]
     have e3 : (if (x == m) = true then 1 else 0) = if x = m then 1 else 0 := by simp
     rw [e3, Nat.add_mul]
     by_cases e : x = m
     ·subst e; rw [if_pos rfl, if_neg (by omega), if_pos (by omega)]; omega
     ·rw [if_neg e, Nat.zero_mul]
      split <;> split <;> omega
  rw [hp, ih, List.map_cons, List.sum_cons]
  unfold gS
  split <;> split <;> omega
theorem fcN_share (ls : List Nat) : ∀ k, k ≤ 56 → (fcN ls k + if k = 0 then 0 else ls.count k) * 2 ^ (56 - k) = shC ls (k + 1)
 | 0, _ => by simp [fcN, shC]
 | k + 1, h => by
  have ih := fcN_share ls k (by omega)
  rw [shC, ← ih, fcN, if_neg (show ¬ k + 1 = 0 by omega), if_neg (show ¬ k + 1 = 0 by omega)]
  have e : 2 ^ (56 - k) = 2 * 2 ^ (56 - (k + 1)) := by rw [← Nat.pow_succ']; congr 1; omega
  rw [e]
  generalize (fcN ls k + if k = 0 then 0 else ls.count k) = A
  generalize 2 ^ (56 - (k + 1)) = P
  rw [Nat.add_mul]
  congr 1
  rw [Nat.mul_comm 2 A, Nat.mul_assoc]
theorem fcN_room {ls : List Nat} (hl : ls.length = 256) (h56 : ∀ x ∈ ls, x ≤ 56) (hs : shr ls 256 ≤ 2 ^ 56) {k : Nat} (hk : k ≤ 56) : (fcN ls k + if k = 0 then 0 else ls.count k) ≤ 2 ^ k := by
 have h1 := fcN_share ls k hk
 have h2 := shC_mono ls (57 - (k + 1)) (k + 1)
 rw [show k + 1 + (57 - (k + 1)) = 57 by omega, shC_sum ls 57 (fun x hx => by have := h56 x hx; omega)] at h2
 rw [shr_sum, List.take_of_length_le (by omega)] at hs
 have h3 : (fcN ls k + if k = 0 then 0 else ls.count k) * 2 ^ (56 - k) ≤ 2 ^ k * 2 ^ (56 - k) := by
  rw [← Nat.pow_add, show k + (56 - k) = 56 by omega]; omega
 exact Nat.le_of_mul_le_mul_right h3 (Nat.two_pow_pos _)
theorem fcM_is {ls : List Nat} (hl : ls.length = 256) (h56 : ∀ x ∈ ls, x ≤ 56) (hs : shr ls 256 ≤ 2 ^ 56) : ∀ k, k ≤ 56 → fcM ls k = fcN ls k
 | 0, _ => rfl
 | k + 1, h => by
  have hr := fcN_room hl h56 hs (show k ≤ 56 by omega)
  have hp : 2 ^ k ≤ 2 ^ 55 := Nat.pow_le_pow_right (by decide) (by omega)
  have hp2 : (2 : Nat) ^ 55 = 36028797018963968 := by decide
  rw [fcM, fcN, fcM_is hl h56 hs k (by omega)]
  unfold M64'
  rw [Nat.mod_eq_of_lt (a := fcN ls k + _) (by omega), Nat.mod_eq_of_lt (by omega)]
theorem fcN_far (ls : List Nat) : ∀ d k, 0 < k → 2 ^ d * (fcN ls k + ls.count k) * (if d = 0 then 0 else 1) ≤ fcN ls (k + d)
 | 0, k, _ => by simp
 | d + 1, k, hk => by
  have ih := fcN_far ls d k hk
  rw [← Nat.add_assoc, fcN, if_neg (show ¬ d + 1 = 0 by omega), if_neg (show ¬ k + d = 0 by omega), Nat.mul_one]
  by_cases hd : d = 0
  ·subst hd
   rw [Nat.add_zero, Nat.pow_one]
   exact Nat.le_refl _
  ·rw [if_neg hd, Nat.mul_one] at ih
   rw [Nat.pow_succ', Nat.mul_assoc]
   omega
theorem codL_get {ls : List Nat} (hl : ls.length = 256) (h56 : ∀ x ∈ ls, x ≤ 56) (hs : shr ls 256 ≤ 2 ^ 56) {i k : Nat} (hi : ls[i]? = some k) (hk : 0 < k) : (codL ls).getD i 0 = fcN ls k + ct ls k i ∧ fcN ls k + ct ls k i < 2 ^ k := by
 have hil := (List.getElem?_eq_some_iff.1 hi).1
 have hg := getD_of hi
 have hk56 := h56 k (List.mem_of_getElem? hi)
 have hr := fcN_room hl h56 hs hk56
 rw [if_neg (by omega)] at hr
 have hc := ct_lt_all hi
 have hp : 2 ^ k ≤ 2 ^ 56 := Nat.pow_le_pow_right (by decide) hk56
 have hp2 : (2 : Nat) ^ 56 = 72057594037927936 := by decide
 refine ⟨?_, by omega⟩
 unfold codL
 rw [List.getD_eq_getElem?_getD, mapR_get _ (by omega), hg, if_pos hk]
 show cdV ls i = _
 unfold cdV
 rw [hg, fcM_is hl h56 hs k hk56]
 unfold M64'
 exact Nat.mod_eq_of_lt (by omega)
theorem prefix_free {ls : List Nat} (hl : ls.length = 256) (h56 : ∀ x ∈ ls, x ≤ 56) (hs : shr ls 256 ≤ 2 ^ 56) {a b ka kb : Nat} (ha : ls[a]? = some ka) (hb : ls[b]? = some kb) (ka0 : 0 < ka) (hab : a ≠ b) (hk : ka ≤ kb) :
  (codL ls).getD b 0 / 2 ^ (kb - ka) ≠ (codL ls).getD a 0 := by
 obtain ⟨ca, _⟩ := codL_get hl h56 hs ha ka0
 obtain ⟨cb, _⟩ := codL_get hl h56 hs hb (by omega)
 rw [ca, cb]
 have hca := ct_lt_all ha
 by_cases he : ka = kb
 ·subst he
  rw [Nat.sub_self, Nat.pow_zero, Nat.div_one]
  intro h
  exact hab (ct_inj ha hb (by omega))
 ·have hf := fcN_far ls (kb - ka) ka ka0
  rw [if_neg (show ¬ kb - ka = 0 by omega), Nat.mul_one, show ka + (kb - ka) = kb by omega] at hf
  have h2 : fcN ls ka + ls.count ka ≤ (fcN ls kb + ct ls kb b) / 2 ^ (kb - ka) := by
   rw [Nat.le_div_iff_mul_le (Nat.two_pow_pos _), Nat.mul_comm]
   omega
  omega
set_option maxHeartbeats 4000000 in
set_option maxRecDepth 100000 in
theorem free_walk (a0 : Option Addr) (len cap : Nat) (zs : List Int) (a b : Int) (w : World) (h : ArgInts .u64 w a0 len cap zs) (wa : (Lit.int .u8 a).wf = true) (wb : (Lit.int .u8 b).wf = true) :
  Calls Try.prog 8 #[.slice a0 len cap, .int .u8 a, .int .u8 b] w fun e w' => e = .returned (.bool true) ∧ Below w.heap.size w w' := by
 obtain ⟨l, hll, hl64, hseq, hlc, hcm⟩ := u64_list h
 clear h
 unfold maxLen at hcm
 have HSQ := Lib.hid hseq
 by_cases hgt : 60 < len
 ·have x1 : decide ((60 : Int) < (len : Int)) = true := by simp; omega
  have x2 : decide (60 < len) = true := by simpa using hgt
  clear hseq hll hl64
  go_enter Try.func8, Try.ntmps8
  go_wp2_with fail
  refine (huffAwake w).mono ?_
  rintro e w1 ⟨rfl, hb1⟩
  go_wp2_with fail
  refine (huffAwake w1).mono ?_
  rintro e w2 ⟨rfl, hb2⟩
  go_wp2
  go_ret
  exact ⟨rfl, hb1.trans (hb2.mono hb1.size)⟩
 have x1 : decide ((60 : Int) < (len : Int)) = false := by simp; omega
 have x2 : decide (60 < len) = false := by simpa using hgt
 obtain ⟨an, rfl, ha⟩ : ∃ n : Nat, a = (n : Int) ∧ n < 256 := by
  have := bounds_u8 wa
  exact ⟨a.toNat, by omega, by omega⟩
 obtain ⟨bn, rfl, hb⟩ : ∃ n : Nat, b = (n : Int) ∧ n < 256 := by
  have := bounds_u8 wb
  exact ⟨b.toNat, by omega, by omega⟩
 clear wa wb
 have hwl := wgN_length l len
 have hwo : WOk (wgN l len) := ⟨hwl, fun n hn => by have := wgN_lt l hl64 len (by omega) n hn; omega⟩
 have hwt := fun w => huffWeights a0 len cap l w hll (by omega) hl64 hlc (by omega)
 generalize wgN l len = ws at *
 have hln := fun w => huffLengths ws w hwo
 have hls := lensW_length ws hwl
 have hcd := fun w => huffCodes (lensW ws) w hls (lensW_lt ws)
 obtain ⟨kw, hkw⟩ : ∃ n, ws[an]? = some n := ⟨_, List.getElem?_eq_getElem (by omega)⟩
 have hzero := lensW_zero hwl hkw
 have hwhole := lens_whole (ws := ws) hwl
 generalize hls' : lensW ws = ls at *
 clear hls'
 obtain ⟨ka, hka⟩ : ∃ n, ls[an]? = some n := ⟨_, List.getElem?_eq_getElem (by omega)⟩
 obtain ⟨kb, hkb⟩ : ∃ n, ls[bn]? = some n := ⟨_, List.getElem?_eq_getElem (by omega)⟩
 rw [getD_of hka] at hzero
 obtain ⟨W, hW⟩ : ∃ W, W = cells64 ws := ⟨_, rfl⟩
 obtain ⟨L, hL⟩ : ∃ L, L = c8 ls := ⟨_, rfl⟩
 have hWl : W.length = 256 := by rw [hW, c64_length, hwl]
 have hLl : L.length = 256 := by rw [hL, c8_length, hls]
 have hW1 : W.toArray.all (·.oneCell') = true := by rw [hW]; exact c64_one _
 have hL1 : L.toArray.all (·.oneCell') = true := by rw [hL]; exact c8_one _
 obtain ⟨Z, hZ⟩ : ∃ Z, Z = c8 (List.replicate 256 0) := ⟨_, rfl⟩
 obtain ⟨Z6, hZ6⟩ : ∃ Z, Z = cells64 (List.replicate 256 0) := ⟨_, rfl⟩
 have hz := zero8
 have hy := zero64
 have hzz : (Array.replicate 256 (Value.int .u8 0)) = Z.toArray := by rw [hZ]; unfold c8; rw [List.map_replicate]; exact (List.toArray_replicate 256 _).symm
 have hyy : (Array.replicate 256 (Value.int .u64 0)) = Z6.toArray := by rw [hZ6]; unfold cells64; rw [List.map_replicate]; exact (List.toArray_replicate 256 _).symm
 rw [hzz] at hz
 rw [hyy] at hy
 have hZl : Z.length = 256 := by rw [hZ, c8_length, List.length_replicate]
 have hZ6l : Z6.length = 256 := by rw [hZ6, c64_length, List.length_replicate]
 have hiW : (Try.prog.info? 25).map (·.size) = some W.length := by rw [hWl]; exact info64
 have hiW2 : (Try.prog.info? 25).map (·.size) = some W.toArray.size := by rw [List.size_toArray, hWl]; exact info64
 have hiL : (Try.prog.info? 27).map (·.size) = some L.length := by rw [hLl]; exact info8
 have hiL2 : (Try.prog.info? 27).map (·.size) = some L.toArray.size := by rw [List.size_toArray, hLl]; exact info8
 rw [← hW] at hwt hln
 rw [← hL] at hln hcd
 have HIW := Lib.hid hiW
 have HIW2 := Lib.hid hiW2
 have HIL := Lib.hid hiL
 have HIL2 := Lib.hid hiL2
 have HW1 := Lib.hid hW1
 have HL1 := Lib.hid hL1
 have HW := Lib.hid hW
 have HL := Lib.hid hL
 have HWL := Lib.hid hWl
 have HLL := Lib.hid hLl
 have HZL := Lib.hid hZl
 have HZ6L := Lib.hid hZ6l
 have HLS := Lib.hid hls
 have HCD := Lib.hid hcd
 have HLN := Lib.hid hln
 have HWT := Lib.hid hwt
 have HWH := Lib.hid hwhole
 have HZR := Lib.hid hzero
 have HKW := Lib.hid hkw
 have HKA := Lib.hid hka
 have HKB := Lib.hid hkb
 clear hW hL hWl hLl hW1 hL1 hZ hZ6 hzz hyy hZl hZ6l hiW hiW2 hiL hiL2 hcd hln hwt hwhole hzero hkw hka hkb hls hwl hwo hll hl64
 clear hseq
 go_enter Try.func8, Try.ntmps8
 go_wp2_with fail
 refine (huffAwake w).mono ?_
 rintro e w1 ⟨rfl, hb1⟩
 go_wp2_with fail
 refine (HWT.out w1 (SeqAt.later_ HSQ.out hb1)).mono ?_
 rintro e w2 ⟨rfl, hb2⟩
 have HB2 := Lib.hid (hb1.trans (hb2.mono hb1.size))
 have hz2 : w.heap.size ≤ w2.heap.size := HB2.out.size
 obtain ⟨th, lk, hbk, hsz⟩ := newArr (B := w.heap.size) (w := w2) (t := 25) (zs := Z6.toArray) (L := W) (by rw [List.size_toArray, HZ6L.out, HWL.out]) hz2
 have TH := Lib.hid th
 have LW := Lib.hid lk
 have HB3 := Lib.hid (HB2.out.trans (hbk.mono hz2))
 have HRW := Lib.hid (arr_range lk)
 clear hb1 hb2 th lk hbk hsz HB2
 go_wp2_with (refine wpList_store_mid rfl 25 _ _ rfl w2.heap.size 0 W.toArray rfl rfl TH.out HIW2.out HW1.out ?_)
 obtain ⟨gw, hgw⟩ : ∃ gw, gw = w2.heap.size := ⟨_, rfl⟩
 generalize (w2.alloc (.cells Z6.toArray 25)).setCells w2.heap.size 0 W = w3 at *
 rw [← hgw] at LW HRW ⊢
 clear hgw TH hz2
 have hz3 : w.heap.size ≤ w3.heap.size := HB3.out.size
 refine wp_load_mid 25 _ rfl gw 0 rfl W _ HRW.out under64 rfl HIW.out ?_
 go_wp2_with fail
 refine (HLN.out w3).mono ?_
 rintro e w4 ⟨rfl, hb4⟩
 have HB4 := Lib.hid (HB3.out.trans (hb4.mono hz3))
 have hz4 : w.heap.size ≤ w4.heap.size := HB4.out.size
 have LW4 := Lib.hid (LW.out.below hb4 LW.out.lt)
 obtain ⟨th, lk, hbk, hsz⟩ := newArr (B := w.heap.size) (w := w4) (t := 27) (zs := Z.toArray) (L := L) (by rw [List.size_toArray, HZL.out, HLL.out]) hz4
 have TH := Lib.hid th
 have LL := Lib.hid lk
 have LW5 := Lib.hid (LW4.out.below hbk LW4.out.lt)
 have HB5 := Lib.hid (HB4.out.trans (hbk.mono hz4))
 have HRL := Lib.hid (arr_range lk)
 clear hb4 th lk hbk hsz HB4 HB3 LW LW4 HRW hz3
 go_wp2_with (first | refine wpList_store_mid rfl 27 _ _ rfl w4.heap.size 0 L.toArray rfl rfl TH.out HIL2.out HL1.out ?_ | refine wpList_load_mid rfl 27 _ rfl w4.heap.size 0 rfl L _ HRL.out under8 rfl HIL.out ?_)
 obtain ⟨gl, hgl⟩ : ∃ gl, gl = w4.heap.size := ⟨_, rfl⟩
 generalize (w4.alloc (.cells Z.toArray 27)).setCells w4.heap.size 0 L = w5 at *
 rw [← hgl] at LL HRL ⊢
 clear hgl TH hz4
 have hz5 : w.heap.size ≤ w5.heap.size := HB5.out.size
 have hgix : ∀ (i n : Nat), i < 256 → ls[i]? = some n → ∀ (w : World), (Instr.index 27 (.agg L.toArray) (.int .i64 (i : Int))).run Try.prog w = .ok (.int .u8 (n : Int)) w := fun i n hi hn w =>
  run_index_arr (P := Try.prog) 27 5 256 L.toArray .i64 i _ under8 isAgg8 sizeOf8 hi (by rw [HL.out, List.getElem?_toArray]; exact c8_get hn) w
 have HGI := Lib.hid hgix
 clear hgix
 go_loopw [10, 26] (fun x c wr => ∃ i : Nat, i ≤ 256 ∧ c = .int .i64 i ∧ (∀ y ∈ ls.take i, y ≤ 56) ∧ wr = w5)
  (fun _ c _ => 256 - (intOf c).toNat)
 case atStart => exact ⟨0, by omega, rfl, fun y hy => by simp at hy, rfl⟩
 case round =>
  obtain ⟨i, hi, rfl, h56, rfl⟩ := hrel
  have H56 := Lib.hid h56
  clear h56
  by_cases hlt : i < 256
  ·have hii : (i : Int) < 256 := by omega
   obtain ⟨n, hn⟩ : ∃ n, ls[i]? = some n := ⟨_, List.getElem?_eq_getElem (by rw [HLS.out]; exact hlt)⟩
   have hix := HGI.out i n hlt hn
   have HN := Lib.hid hn
   clear hn
   by_cases hg : 56 < n
   ·have hg' : (56 : Int) < (n : Int) := by omega
    go_wp2_with fail
    go_ret
    exact ⟨rfl, HB5.out⟩
   ·have hg' : ¬ (56 : Int) < (n : Int) := by omega
    go_wp2_with fail
    go_roundw
    case rel =>
     refine ⟨i + 1, by omega, by go_num, fun y hy => ?_, by first | rfl | trivial⟩
     rw [List.take_add_one, HN.out] at hy
     rcases List.mem_append.1 hy with hy | hy
     ·exact H56.out y hy
     ·simp at hy; omega
    case measure => simp [intOf]; omega
  ·obtain rfl : i = 256 := by omega
   have h56 := H56.out
   rw [List.take_of_length_le (by rw [HLS.out]; exact Nat.le_refl _)] at h56
   obtain ⟨hwb, hshr⟩ := HWH.out h56
   have hE : cdsE ls = 0 := by
    unfold cdsE
    have : greatB ls = false := by
     unfold greatB; rw [List.any_eq_false]; intro x hx; have := h56 x hx; simp; omega
    rw [this, hwb]; rfl
   have hO : cdsOf ls = codL ls := by unfold cdsOf; rw [hE]; rfl
   have hcd := HCD.out
   rw [hE, hO] at hcd
   have HCD2 := Lib.hid hcd
   have hpf := fun (x y kx ky : Nat) (hx : ls[x]? = some kx) (hy : ls[y]? = some ky) (k0 : 0 < kx) (hxy : x ≠ y) (hk : kx ≤ ky) => prefix_free HLS.out h56 hshr hx hy k0 hxy hk
   have hcl : (codL ls).length = 256 := codL_length ls
   obtain ⟨ca, hca⟩ : ∃ n, (codL ls)[an]? = some n := ⟨_, List.getElem?_eq_getElem (by omega)⟩
   obtain ⟨cb, hcb⟩ : ∃ n, (codL ls)[bn]? = some n := ⟨_, List.getElem?_eq_getElem (by omega)⟩
   have hpf2 := fun k0 hxy hk => hpf an bn ka kb HKA.out HKB.out k0 hxy hk
   rw [getD_of hca, getD_of hcb] at hpf2
   have hka56 : ka ≤ 56 := h56 ka (List.mem_of_getElem? HKA.out)
   have hkb56 : kb ≤ 56 := h56 kb (List.mem_of_getElem? HKB.out)
   obtain ⟨C, hC⟩ : ∃ C, C = cells64 (codL ls) := ⟨_, rfl⟩
   have hCl : C.length = 256 := by rw [hC, c64_length, hcl]
   have hC1 : C.toArray.all (·.oneCell') = true := by rw [hC]; exact c64_one _
   have hiC2 : (Try.prog.info? 25).map (·.size) = some C.toArray.size := by rw [List.size_toArray, hCl]; exact info64
   rw [← hC] at HCD2
   have HC1 := Lib.hid hC1
   have HIC2 := Lib.hid hiC2
   have cca : C.toArray[an]? = some (.int .u64 (ca : Int)) := by rw [hC]; exact c64_get hca
   have ccb : C.toArray[bn]? = some (.int .u64 (cb : Int)) := by rw [hC]; exact c64_get hcb
   have HCA := Lib.hid cca
   have HCB := Lib.hid ccb
   have HPF := Lib.hid hpf2
   have HCL := Lib.hid hCl
   clear hpf hpf2 cca ccb hC1 hiC2 hC hcl hca hcb hcd hE hO hwb hshr h56 hCl
   go_wp2_with fail
   refine wp_load_mid 27 _ rfl gl 0 rfl L _ HRL.out under8 rfl HIL.out ?_
   go_wp2_with fail
   refine (HCD2.out wr).mono ?_
   rintro e w6 ⟨rfl, hb6⟩
   have HB6 := Lib.hid (HB5.out.trans (hb6.mono hz5))
   have hz6 : w.heap.size ≤ w6.heap.size := HB6.out.size
   have LW6 := Lib.hid (LW5.out.below hb6 LW5.out.lt)
   have LL6 := Lib.hid (LL.out.below hb6 LL.out.lt)
   obtain ⟨th, lk, hbk, hsz⟩ := newArr (B := w.heap.size) (w := w6) (t := 25) (zs := Z6.toArray) (L := C) (by rw [List.size_toArray, HZ6L.out, HCL.out]) hz6
   have TH := Lib.hid th
   have LC := Lib.hid lk
   have LW7 := Lib.hid (LW6.out.below hbk LW6.out.lt)
   have LL7 := Lib.hid (LL6.out.below hbk LL6.out.lt)
   have HB7 := Lib.hid (HB6.out.trans (hbk.mono hz6))
   clear hb6 th lk hbk hsz HB6 HB5 LW5 LL LW6 LL6 HRL
   go_wp2_with (refine wpList_store_mid rfl 25 _ _ rfl w6.heap.size 0 C.toArray rfl rfl TH.out HIC2.out HC1.out ?_)
   obtain ⟨gc, hgc⟩ : ∃ gc, gc = w6.heap.size := ⟨_, rfl⟩
   generalize (w6.alloc (.cells Z6.toArray 25)).setCells w6.heap.size 0 C = w7 at *
   rw [← hgc] at LC ⊢
   clear hgc TH hz6
   have d1 : w7.cell? ⟨gw, an, none⟩ = some (.int .u64 (kw : Int)) := (LW7.out.cell an).trans (by rw [HW.out]; exact c64_get HKW.out)
   have d2 : w7.cell? ⟨gl, an, none⟩ = some (.int .u8 (ka : Int)) := (LL7.out.cell an).trans (by rw [HL.out, List.getElem?_toArray]; exact c8_get HKA.out)
   have d3 : w7.cell? ⟨gl, bn, none⟩ = some (.int .u8 (kb : Int)) := (LL7.out.cell bn).trans (by rw [HL.out, List.getElem?_toArray]; exact c8_get HKB.out)
   have d4 : w7.cell? ⟨gc, an, none⟩ = some (.int .u64 (ca : Int)) := (LC.out.cell an).trans HCA.out
   have d5 : w7.cell? ⟨gc, bn, none⟩ = some (.int .u64 (cb : Int)) := (LC.out.cell bn).trans HCB.out
   have ia : (an : Int) < 256 := by omega
   have ib : (bn : Int) < 256 := by omega
   clear HSQ
   have hbe : ∀ n m, Below w.heap.size w ((w7.drewN n).drewN m) := fun n m => below_drewN (below_drewN HB7.out n) m
   have hbe1 : ∀ n, Below w.heap.size w (w7.drewN n) := fun n => below_drewN HB7.out n
   have HBE := Lib.hid hbe
   have HBE1 := Lib.hid hbe1
   clear hbe hbe1
   obtain ⟨zb, hzb⟩ : ∃ zb, zb = ((ka : Int) == 0) := ⟨_, rfl⟩
   have hzw : ((kw : Int) == 0) = zb := by
    have h := HZR.out
    rw [hzb, Bool.eq_iff_iff, beq_iff_eq, beq_iff_eq]
    omega
   have hza : ((ka : Int) == 0) = zb := hzb.symm
   clear hzb
   go_quiet (fail)
   go_wp2_with fail
   clear hzw d1
   have hbe3 : ∀ l n m, Below w.heap.size w (((w7.drewN l).drewN n).drewN m) := fun l n m => below_drewN (HBE.out l n) m
   have HBE3 := Lib.hid hbe3
   clear hbe3 HBE1
   by_cases hab : an = bn
   ·have hab' : ((an : Int) == (bn : Int)) = true := by rw [beq_iff_eq]; omega
    go_quiet (fail)
    all_goals
     go_wp2_with fail
     go_ret
     exact ⟨rfl, HBE.out _ _⟩
   have hab' : ((an : Int) == (bn : Int)) = false := by rw [beq_eq_false_iff_ne]; omega
   by_cases h0 : ka = 0
   ·have hz1 : zb = true := by rw [← hza, beq_iff_eq]; omega
    subst hz1
    go_quiet (fail)
    all_goals
     go_wp2_with fail
     go_ret
     exact ⟨rfl, HBE.out _ _⟩
   have hz1 : zb = false := by rw [← hza, beq_eq_false_iff_ne]; omega
   subst hz1
   by_cases hb0 : kb = 0
   ·have hb0' : ((kb : Int) == 0) = true := by rw [beq_iff_eq]; omega
    go_quiet (fail)
    all_goals
     go_wp2_with fail
     go_ret
     exact ⟨rfl, HBE.out _ _⟩
   have hb0' : ((kb : Int) == 0) = false := by rw [beq_eq_false_iff_ne]; omega
   by_cases hlt : kb < ka
   ·have hlt' : (kb : Int) < (ka : Int) := by omega
    go_quiet (fail)
    all_goals
     go_wp2_with fail
     go_ret
     exact ⟨rfl, HBE.out _ _⟩
   have hlt' : ¬ (kb : Int) < (ka : Int) := by omega
   have hne : ((cb : Int) / 2 ^ (kb - ka) != (ca : Int)) = true := by
    rw [bne_iff_ne]
    intro e
    have e2 : ((cb / 2 ^ (kb - ka) : Nat) : Int) = (ca : Int) := by rw [Int.natCast_ediv, Int.natCast_pow]; exact e
    exact HPF.out (by omega) hab (by omega) (Int.ofNat.inj e2)
   have HNE := Lib.hid hne
   clear hne
   go_quiet (fail)
   all_goals
    go_wp2_with fail
    go_quiet (fail)
    all_goals
     go_wp2_with fail
     go_ret
     exact ⟨ret_bool (by exact HNE.out), by first | exact HBE.out _ _ | exact HBE3.out _ _ _⟩
end Go.Proofs.Ytakdpnlohknniaa
