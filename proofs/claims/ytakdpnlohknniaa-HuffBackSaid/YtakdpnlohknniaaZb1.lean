import Derived.WalkKit
import Derived.ProofKit
import Derived.Lib.Hide
import Derived.Lib.AppendStr
import Derived.Lib.SlBytesRow
import Derived.Laws.AppendOwnNone
import Derived.Deep.AppendLies
import Derived.Deep.Draws
import Derived.BigQuiet
import Derived.Deep.QuietTactic
import Derived.Deep.RegionWith
import Derived.OpenShut
import Derived.Outline
import Derived.Deep.Slices
import Derived.ChangeSame
import Derived.Laws.IdiomStrings
import Derived.SliceStrings
import Derived.Laws.DeepStrings4
import Derived.SizedLaws
import Derived.Laws.OwnMore
import Derived.Test.YtakdpnlohknniaaRows
import Derived.Deep.OwnRows
import Derived.Deep.MidRow
import Derived.IntWalk
import Derived.Lib.BufferRead
import Derived.Laws.BitsAllLaws
import Derived.Laws.Bits64
import Derived.Laws.Bits64b
import Derived.Deep.RegionHeld3
import Derived.RegionTactic
import Derived.StillTailTactics
import Derived.Deep.RegionLaw
import Derived.Laws.CopyOwn
import Derived.Deep.DeepFit
import Derived.Deep.DeepCutAuto
import Derived.ShutString
import Derived.ChangeOld
import Derived.Below
import Derived.Test.YtakdpnlohknniaaZz5
namespace Go.Proofs.Ytakdpnlohknniaa
open Go.RowKit
set_option linter.unusedVariables false
set_option linter.unusedSimpArgs false
theorem rdV_leb (f : Nat) : ∀ k v n r, f + k = 9 → n < 128 ^ (f + 1) → (k = 9 → n < 2) → (0 < k → 0 < n) → (n * 128 ^ k < M64) →
  rdV (f + 1) k v (leb f n ++ r) = (v + n * 128 ^ k, 0, (leb f n).length) := by
 induction f with
 | zero =>
  intro k v n r hk hn h9 h0 hm
  have hn2 : n < 2 := h9 (by omega)
  have hb : (UInt8.ofNat n).toNat = n := by simp; omega
  have hz : UInt8.ofNat n = 0 ↔ n = 0 := by
   constructor
   ·intro h; have := congrArg UInt8.toNat h; rw [hb] at this; simpa using this
   ·rintro rfl; rfl
  rw [leb, List.singleton_append, rdV, if_neg, if_pos (by rw [hb]; omega), hb]
  ·rfl
  ·rintro (⟨a, b⟩ | ⟨_, b⟩)
   ·have := h0 a; rw [hz] at b; omega
   ·rw [hb] at b; omega
 | succ f ih =>
  intro k v n r hk hn h9 h0 hm
  by_cases h : n < 128
  ·have hb : (UInt8.ofNat n).toNat = n := by simp; omega
   have hz : UInt8.ofNat n = 0 ↔ n = 0 := by
    constructor
    ·intro h; have := congrArg UInt8.toNat h; rw [hb] at this; simpa using this
    ·rintro rfl; rfl
   rw [leb_small _ _ h, List.singleton_append, rdV, if_neg, if_pos (by rw [hb]; omega), hb]
   ·rfl
   ·rintro (⟨a, b⟩ | ⟨a, b⟩)
    ·have := h0 a; rw [hz] at b; omega
    ·omega
  ·have hb : (UInt8.ofNat (n % 128 + 128)).toNat = n % 128 + 128 := by simp; omega
   have hz : UInt8.ofNat (n % 128 + 128) ≠ 0 := by
    intro h; have := congrArg UInt8.toNat h; rw [hb] at this; simp at this
   have hpow : n / 128 * 128 ^ (k + 1) ≤ n * 128 ^ k := by
    rw [pow128_succ, Nat.mul_comm (128 ^ k), ← Nat.mul_assoc]
    exact Nat.mul_le_mul_right _ (Nat.div_mul_le_self n 128)
   have hr := ih (k + 1) (v + n % 128 * 128 ^ k) (n / 128) r (by omega) (lt_div _ _ hn) (by
    intro h9'
    have : k = 8 := by omega
    subst this
    unfold M64 at hm
    have e : (128 : Nat) ^ 8 = 72057594037927936 := by decide
    rw [e] at hm
    omega) (by intro _; omega) (Nat.lt_of_le_of_lt hpow hm)
   rw [leb_big _ _ h, List.cons_append, rdV, if_neg, if_neg (by rw [hb]; omega), hb, Nat.add_sub_cancel, hr]
   ·simp only [List.length_cons]
    congr 1
    rw [pow128_succ, Nat.mul_comm (128 ^ k), ← Nat.mul_assoc, Nat.add_assoc, ← Nat.add_mul]
    congr 2
    omega
   ·rintro (⟨_, b⟩ | ⟨a, _⟩)
    ·exact hz b
    ·omega
theorem rd_enc (n : Nat) (r : List UInt8) (hn : n < M64) : rd (enc n ++ r) = (n, 0, (enc n).length) := by
 have := rdV_leb 9 0 0 n r rfl (Nat.lt_of_lt_of_le hn m64_lt) (by omega) (by omega) (by simpa using hn)
 simpa [rd, enc] using this
def dpF (s : List N2) (num : Nat) : Nat → Nat :=
 match s with
 | a :: b :: r => fun x => if x = a.2 ∨ x = b.2 then dpF (insL (sumW a.1 b.1, num) r) (num + 1) num + 1 else dpF (insL (sumW a.1 b.1, num) r) (num + 1) x
 | _ => fun _ => 0
termination_by s.length
decreasing_by all_goals simp [insL_length]
theorem dpF_step (a b : N2) (r : List N2) (num : Nat) (x : Nat) : dpF (a :: b :: r) num x = if x = a.2 ∨ x = b.2 then dpF (insL (sumW a.1 b.1, num) r) (num + 1) num + 1 else dpF (insL (sumW a.1 b.1, num) r) (num + 1) x := by
 conv => lhs; unfold dpF
theorem dpF_end (s : List N2) (num x : Nat) (h : s.length ≤ 1) : dpF s num x = 0 := by
 unfold dpF
 match s, h with
 | [], _ => rfl
 | [a], _ => rfl
theorem dpF_le : ∀ (n : Nat) (s : List N2) (num x : Nat), s.length = n → dpF s num x ≤ n - 1
 | 0, s, num, x, h => by rw [dpF_end _ _ _ (by omega)]; omega
 | 1, s, num, x, h => by rw [dpF_end _ _ _ (by omega)]; omega
 | n + 2, s, num, x, h => by
  match s, h with
  | a :: b :: r, h =>
   have hl : (insL (sumW a.1 b.1, num) r).length = n + 1 := by rw [insL_length]; simp at h; omega
   rw [dpF_step]
   have h1 := dpF_le (n + 1) _ (num + 1) num hl
   have h2 := dpF_le (n + 1) _ (num + 1) x hl
   split <;> omega
def kr (M : Nat) (D : Nat → Nat) (s : List N2) : Nat := (s.map fun p => 2 ^ (M - D p.2)).sum
theorem kr_perm {M : Nat} {D : Nat → Nat} {s t : List N2} (h : s.Perm t) : kr M D s = kr M D t := (h.map _).sum_nat
theorem kr_cons (M : Nat) (D : Nat → Nat) (p : N2) (s : List N2) : kr M D (p :: s) = 2 ^ (M - D p.2) + kr M D s := by simp [kr]
theorem kr_congr {M : Nat} {D E : Nat → Nat} {s : List N2} (h : ∀ p ∈ s, D p.2 = E p.2) : kr M D s = kr M E s := by
 unfold kr
 congr 1
 exact List.map_congr_left fun p hp => by rw [h p hp]
def NumOk (s : List N2) (num : Nat) : Prop := (∀ p ∈ s, p.2 < num) ∧ (s.map (·.2)).Nodup
theorem numOk_step {a b : N2} {r : List N2} {num w : Nat} (h : NumOk (a :: b :: r) num) : NumOk (insL (w, num) r) (num + 1) := by
 obtain ⟨h1, h2⟩ := h
 refine ⟨fun p hp => ?_, ?_⟩
 ·rcases List.mem_cons.1 ((insL_perm _ _).mem_iff.1 hp) with rfl | hp
  ·show num < num + 1; omega
  ·have := h1 p (by simp [hp]); omega
 ·have hp := (insL_perm (w, num) r).map (·.2)
  rw [hp.nodup_iff]
  simp only [List.map_cons, List.nodup_cons] at h2 ⊢
  refine ⟨fun hm => ?_, h2.2.2⟩
  obtain ⟨q, hq, he⟩ := List.mem_map.1 hm
  have := h1 q (by simp [hq])
  omega
theorem kraft : ∀ (n : Nat) (s : List N2) (num M : Nat), s.length = n + 1 → NumOk s num → n ≤ M → kr M (dpF s num) s = 2 ^ M
 | 0, s, num, M, h, hn, hM => by
  match s, h with
  | [p], h => rw [kr_cons, dpF_end _ _ _ (by simp)]; simp [kr]
 | n + 1, s, num, M, h, hn, hM => by
  match s, h with
  | a :: b :: r, h =>
   have hl : (insL (sumW a.1 b.1, num) r).length = n + 1 := by rw [insL_length]; simp at h; omega
   have ih := kraft n _ (num + 1) M hl (numOk_step hn) (by omega)
   have hp := kr_perm (M := M) (D := dpF (insL (sumW a.1 b.1, num) r) (num + 1)) (insL_perm (sumW a.1 b.1, num) r)
   rw [hp, kr_cons] at ih
   have hd := dpF_le (n + 1) _ (num + 1) num hl
   have ha : dpF (a :: b :: r) num a.2 = dpF (insL (sumW a.1 b.1, num) r) (num + 1) num + 1 := by rw [dpF_step, if_pos (.inl rfl)]
   have hb : dpF (a :: b :: r) num b.2 = dpF (insL (sumW a.1 b.1, num) r) (num + 1) num + 1 := by rw [dpF_step, if_pos (.inr rfl)]
   have hr : kr M (dpF (a :: b :: r) num) r = kr M (dpF (insL (sumW a.1 b.1, num) r) (num + 1)) r := kr_congr fun p hp => by
    have h2 := hn.2
    simp only [List.map_cons, List.nodup_cons] at h2
    rw [dpF_step, if_neg]
    rintro (e | e)
    ·exact h2.1 (List.mem_cons_of_mem _ (List.mem_map.2 ⟨p, hp, e⟩))
    ·exact h2.2.1 (List.mem_map.2 ⟨p, hp, e⟩)
   rw [kr_cons, kr_cons, ha, hb, hr]
   simp only at ih
   generalize dpF (insL (sumW a.1 b.1, num) r) (num + 1) num = d at *
   have e : 2 ^ (M - d) = 2 ^ (M - (d + 1)) + 2 ^ (M - (d + 1)) := by
    rw [show M - d = M - (d + 1) + 1 by omega, Nat.pow_succ]; omega
   omega
theorem mrgP_keep : ∀ (n : Nat) (s : List N2) (ps : List Nat) (x : Nat), s.length = n → (∀ p ∈ s, p.2 < ps.length) → x < ps.length → (∀ p ∈ s, p.2 ≠ x) → (mrgP s ps).getD x 0 = ps.getD x 0
 | 0, s, ps, x, h, hn, hx, hl => by rw [mrgP_end _ _ (by omega)]
 | 1, s, ps, x, h, hn, hx, hl => by rw [mrgP_end _ _ (by omega)]
 | n + 2, s, ps, x, h, hn, hx, hl => by
  match s, h with
  | a :: b :: r, h =>
   rw [mrgP_step, mrgP_keep (n + 1) _ _ x (by rw [insL_length]; simp at h; omega) (fun p hp => ?_) (by rw [ps2_length]; omega) (fun p hp => ?_),
    getD_ps2 ps a b (hn a (by simp)) (hn b (by simp)) x hx, if_neg (hl b (by simp)), if_neg (hl a (by simp))]
   ·rw [ps2_length]
    rcases List.mem_cons.1 ((insL_perm _ _).mem_iff.1 hp) with rfl | hp
    ·show ps.length < ps.length + 1; omega
    ·have := hn p (by simp [hp]); omega
   ·rcases List.mem_cons.1 ((insL_perm _ _).mem_iff.1 hp) with rfl | hp
    ·show ps.length ≠ x; omega
    ·exact hl p (by simp [hp])
theorem dp_parent : ∀ (n : Nat) (s : List N2) (ps : List Nat), s.length = n → NumOk s ps.length → ∀ x,
  x + 1 < (mrgP s ps).length → (∀ p ∈ s, s.length = 1 → p.2 + 1 = ps.length) → (∃ p ∈ s, p.2 = x) ∨ ps.length ≤ x →
  dpF s ps.length x = dpF s ps.length ((mrgP s ps).getD x 0) + 1 ∧ ps.length ≤ (mrgP s ps).getD x 0
 | 0, s, ps, h, hn, x, hx, h1, hor => by
  have : s = [] := List.length_eq_zero_iff.1 h
  subst this
  rw [mrgP_end _ _ (by simp)] at hx
  rcases hor with ⟨p, hp, _⟩ | hor
  ·cases hp
  ·omega
 | 1, s, ps, h, hn, x, hx, h1, hor => by
  rw [mrgP_end _ _ (by omega)] at hx
  rcases hor with ⟨p, hp, e⟩ | hor
  ·have := h1 p hp h; omega
  ·omega
 | n + 2, s, ps, h, hn, x, hx, h1, hor => by
  match s, h with
  | a :: b :: r, h =>
   have hl : (insL (sumW a.1 b.1, ps.length) r).length = n + 1 := by rw [insL_length]; simp at h; omega
   have ha := hn.1 a (by simp)
   have hb := hn.1 b (by simp)
   have hnd := hn.2
   simp only [List.map_cons, List.nodup_cons] at hnd
   rw [mrgP_step] at hx ⊢
   have hns : NumOk (insL (sumW a.1 b.1, ps.length) r) (ps2 ps a b).length := by rw [ps2_length]; exact numOk_step hn
   by_cases hab : x = a.2 ∨ x = b.2
   ·have hxl : x < ps.length := by rcases hab with h | h <;> omega
    have hP : (mrgP (insL (sumW a.1 b.1, ps.length) r) (ps2 ps a b)).getD x 0 = ps.length := by
     rw [mrgP_keep (n + 1) _ _ x hl hns.1 (by rw [ps2_length]; omega) (fun p hp => ?_), getD_ps2 ps a b ha hb x hxl]
     ·rcases hab with h | h
      ·by_cases hb2 : b.2 = x
       ·rw [if_pos hb2]
       ·rw [if_neg hb2, if_pos h.symm]
      ·rw [if_pos h.symm]
     ·rcases List.mem_cons.1 ((insL_perm _ _).mem_iff.1 hp) with rfl | hp
      ·show ps.length ≠ x; omega
      ·intro e
       rcases hab with h | h
       ·exact hnd.1 (List.mem_cons_of_mem _ (List.mem_map.2 ⟨p, hp, by rw [e, h]⟩))
       ·exact hnd.2.1 (List.mem_map.2 ⟨p, hp, by rw [e, h]⟩)
    rw [hP, dpF_step, if_pos hab, dpF_step, if_neg (by omega)]
    exact ⟨rfl, Nat.le_refl _⟩
   ·have hor' : (∃ p ∈ insL (sumW a.1 b.1, ps.length) r, p.2 = x) ∨ (ps2 ps a b).length ≤ x := by
     rw [ps2_length]
     rcases hor with ⟨p, hp, e⟩ | hor
     ·rcases List.mem_cons.1 hp with rfl | hp
      ·exact absurd (.inl e.symm) hab
      ·rcases List.mem_cons.1 hp with rfl | hp
       ·exact absurd (.inr e.symm) hab
       ·exact .inl ⟨p, (insL_perm _ _).mem_iff.2 (List.mem_cons_of_mem _ hp), e⟩
     ·by_cases hxe : x = ps.length
      ·exact .inl ⟨(sumW a.1 b.1, ps.length), (insL_perm _ _).mem_iff.2 (by simp), hxe.symm⟩
      ·exact .inr (by omega)
    have ih := dp_parent (n + 1) _ (ps2 ps a b) hl hns x hx (fun p hp e => by
     rw [ps2_length]
     have hr : r = [] := by
      rw [insL_length] at e
      exact List.length_eq_zero_iff.1 (by omega)
     subst hr
     simp [insL] at hp
     rw [hp]) hor'
    rw [ps2_length] at ih
    refine ⟨?_, by omega⟩
    rw [dpF_step, if_neg hab, dpF_step, if_neg (by omega)]
    exact ih.1
theorem dpF_root : ∀ (n : Nat) (s : List N2) (num x : Nat), s.length = n + 1 → (∀ p ∈ s, p.2 < num) → (0 < n → x = num + n - 1) → dpF s num x = 0
 | 0, s, num, x, h, _, _ => dpF_end _ _ _ (by omega)
 | n + 1, s, num, x, h, hn, hx => by
  match s, h with
  | a :: b :: r, h =>
   have hx' := hx (by omega)
   have ha := hn a (by simp)
   have hb := hn b (by simp)
   rw [dpF_step, if_neg (by omega)]
   exact dpF_root n _ (num + 1) x (by rw [insL_length]; simp at h; omega) (fun p hp => by
    rcases List.mem_cons.1 ((insL_perm _ _).mem_iff.1 hp) with rfl | hp
    ·show num < num + 1; omega
    ·have := hn p (by simp [hp]); omega) (fun _ => by omega)
section
variable (ws : List Nat)
theorem srt_num : NumOk (sortL (lvs ws)) (List.replicate (lvs ws).length 0).length := by
 rw [List.length_replicate]
 refine ⟨fun p hp => lvs_lt ws p ((sortL_perm _).mem_iff.1 hp), ?_⟩
 have hm : (lvs ws).map (·.2) = List.range (lvs ws).length := by
  apply List.ext_getElem?
  intro i
  rw [List.getElem?_map]
  by_cases hi : i < (lvs ws).length
  ·have hg := List.getElem?_eq_getElem hi
   rw [hg, List.getElem?_range hi]
   simp [(lvs_num _ ws rfl i _ hg).1]
  ·rw [List.getElem?_eq_none (by omega), List.getElem?_eq_none (by simp; omega)]; rfl
 rw [((sortL_perm (lvs ws)).map (·.2)).nodup_iff, hm]
 exact List.nodup_range
def dpW (x : Nat) : Nat := dpF (sortL (lvs ws)) (lvs ws).length x
theorem dpW_le (x : Nat) : dpW ws x ≤ (lvs ws).length - 1 := dpF_le _ _ _ _ (sortL_length _)
theorem dpW_parent (x : Nat) (hx : x + 1 < (parW ws).length) : dpW ws x = dpW ws ((parW ws).getD x 0) + 1 := by
 have h := dp_parent (lvs ws).length (sortL (lvs ws)) (List.replicate (lvs ws).length 0) (sortL_length _) (srt_num ws) x hx (fun p hp e => by
  rw [List.length_replicate]
  rw [sortL_length] at e
  have := lvs_lt ws p ((sortL_perm _).mem_iff.1 hp)
  omega) (by
  rw [List.length_replicate]
  by_cases hxn : x < (lvs ws).length
  ·have hg := List.getElem?_eq_getElem hxn
   exact .inl ⟨_, (sortL_perm _).mem_iff.2 (List.getElem_mem hxn), (lvs_num _ ws rfl x _ hg).1⟩
  ·exact .inr (by omega))
 rw [List.length_replicate] at h
 exact h.1
theorem depN_is (hn : 2 ≤ (lvs ws).length) (hn256 : (lvs ws).length ≤ 256) : ∀ t, t + 1 ≤ (parW ws).length → ∀ i, (parW ws).length - 1 - t ≤ i → i < (parW ws).length → (depN (parW ws) t).getD i 0 = dpW ws i
 | 0, ht, i, h1, h2 => by
  have hz : (depN (parW ws) 0).getD i 0 = 0 := by
   rw [depN, List.getD_eq_getElem?_getD, List.getElem?_replicate, if_pos h2]; rfl
  rw [hz]
  have hpl := parW_length ws
  exact (dpF_root ((lvs ws).length - 1) _ _ i (by rw [sortL_length]; omega) (fun p hp => lvs_lt ws p ((sortL_perm _).mem_iff.1 hp)) (fun _ => by omega)).symm
 | t + 1, ht, i, h1, h2 => by
  have hl := depN_length (parW ws) t
  rw [depN, getD_set _ _ _ _ (by omega)]
  by_cases hi : (parW ws).length - 2 - t = i
  ·rw [if_pos hi, hi]
   have ho := parW_on ws i (by omega)
   rw [depN_is hn hn256 t (by omega) _ (by omega) ho.2, ← dpW_parent ws i (by omega)]
   have := dpW_le ws i
   exact Nat.mod_eq_of_lt (by omega)
  ·rw [if_neg hi]
   exact depN_is hn hn256 t (by omega) i (by omega) h2
theorem lvs_le (hw : ws.length = 256) : (lvs ws).length ≤ 256 := by
 have h2 := lvs_length ws 256
 rwa [List.take_of_length_le (by rw [hw]; exact Nat.le_refl _)] at h2
theorem depW_is (hw : ws.length = 256) (hn : 2 ≤ (lvs ws).length) (i : Nat) (hi : i < (parW ws).length) : (depW ws).getD i 0 = dpW ws i := by
 unfold depW depA
 rw [if_neg (by omega)]
 have hpl := parW_length ws
 exact depN_is ws hn (lvs_le ws hw) _ (by omega) i (by omega) hi
theorem depW_one (hn : (lvs ws).length = 1) : (depW ws).getD 0 0 = 1 := by
 have hpl := parW_length ws
 unfold depW depA
 rw [if_pos hn, getD_set _ _ _ _ (by rw [depN_length]; omega), if_pos rfl]
theorem depW_pos (hw : ws.length = 256) (i : Nat) (hi : i < (lvs ws).length) : 1 ≤ (depW ws).getD i 0 := by
 have hpl := parW_length ws
 by_cases h1 : (lvs ws).length = 1
 ·obtain rfl : i = 0 := by omega
  rw [depW_one ws h1]; exact Nat.le_refl _
 ·rw [depW_is ws hw (by omega) i (by omega), dpW_parent ws i (by omega)]; omega
end
theorem lenP_get (ds : List Nat) : ∀ (ws : List Nat) (k i n : Nat), i < k → ws[i]? = some n → (lenP ds (ws.take k)).1.getD i 0 = if 0 < n then ds.getD (lvs (ws.take i)).length 0 else 0
 | ws, 0, i, n, h, _ => by omega
 | ws, k + 1, i, n, h, hn => by
  rcases hk : ws[k]? with _ | m
  ·have hlen : ws.length ≤ k := List.getElem?_eq_none_iff.1 hk
   have hil := (List.getElem?_eq_some_iff.1 hn).1
   have e : ws.take (k + 1) = ws.take k := by rw [List.take_of_length_le (by omega), List.take_of_length_le hlen]
   rw [e]
   exact lenP_get ds ws k i n (by omega) hn
  ·have hkl := (List.getElem?_eq_some_iff.1 hk).1
   have hl1 := lenP_length ds k (ws.take k) (by rw [List.length_take]; omega)
   have hls := lenP_snd ds _ (ws.take k) rfl
   rw [lenP_take hk]
   by_cases hik : i = k
   ·subst hik
    rw [hk] at hn
    have := Option.some.inj hn
    subst this
    unfold lenF
    by_cases h0 : 0 < m
    ·rw [if_pos h0, if_pos h0, hls, List.getD_eq_getElem?_getD, List.getElem?_append_right (by omega), hl1, Nat.sub_self]; rfl
    ·rw [if_neg h0, if_neg h0, List.getD_eq_getElem?_getD, List.getElem?_append_right (by omega), hl1, Nat.sub_self]; rfl
   ·have ih := lenP_get ds ws k i n (by omega) hn
    unfold lenF
    split
    ·rw [getD_append _ _ _ (by omega)]; exact ih
    ·rw [getD_append _ _ _ (by omega)]; exact ih
theorem lensW_get {ws : List Nat} (hw : ws.length = 256) {i n : Nat} (hn : ws[i]? = some n) : (lensW ws).getD i 0 = if 0 < n then (depW ws).getD (lvs (ws.take i)).length 0 else 0 := by
 have hi := (List.getElem?_eq_some_iff.1 hn).1
 have := lenP_get (depW ws) ws 256 i n (by omega) hn
 rwa [List.take_of_length_le (by omega)] at this
theorem lvs_at {ws : List Nat} {i n : Nat} (hn : ws[i]? = some n) (h0 : 0 < n) : (lvs (ws.take i)).length < (lvs ws).length := by
 have h1 := lvs_take hn
 have hi := (List.getElem?_eq_some_iff.1 hn).1
 have h2 := lvs_mono' ws (ws.length - (i + 1)) (i + 1)
 rw [show i + 1 + (ws.length - (i + 1)) = ws.length by omega, List.take_of_length_le (Nat.le_refl _), h1] at h2
 unfold lvF at h2
 rw [if_pos h0, List.length_append, List.length_singleton] at h2
 omega
theorem lensW_zero {ws : List Nat} (hw : ws.length = 256) {i n : Nat} (hn : ws[i]? = some n) : (lensW ws).getD i 0 = 0 ↔ n = 0 := by
 rw [lensW_get hw hn]
 by_cases h0 : 0 < n
 ·rw [if_pos h0]
  have := depW_pos ws hw _ (lvs_at hn h0)
  omega
 ·rw [if_neg h0]; omega
def gS (d : Nat) : Nat := if d = 0 then 0 else 2 ^ (56 - d)
theorem shr_sum (ls : List Nat) : ∀ b, shr ls b = ((ls.take b).map gS).sum
 | 0 => by simp [shr]
 | b + 1 => by
  rcases h : ls[b]? with _ | n
  ·have e : ls.take (b + 1) = ls.take b := by rw [List.take_add_one, h]; simp
   have := shr_sum ls b
   unfold shr at *
   rw [e]; exact this
  ·rw [shr_step h, shr_sum ls b, List.take_add_one, h]
   unfold shF gS
   simp only [Option.toList_some, List.map_append, List.sum_append, List.map_cons, List.map_nil, List.sum_cons, List.sum_nil]
   split <;> omega
theorem lenP_sum (ds : List Nat) (n : Nat) : ∀ ws : List Nat, ws.length = n → (((lenP ds ws).1).map gS).sum = ((lvs ws).map fun p => gS (ds.getD p.2 0)).sum := by
 induction n with
 | zero => intro ws h; rw [List.length_eq_zero_iff.1 h]; rfl
 | succ n ih =>
  intro ws h
  obtain ⟨ws', b, rfl⟩ : ∃ l b, ws = l ++ [b] := ⟨ws.dropLast, ws.getLast (by intro e; rw [e] at h; simp at h), (List.dropLast_concat_getLast _).symm⟩
  have h' : ws'.length = n := by simpa using h
  have i1 := ih ws' h'
  have i2 := lenP_snd ds _ ws' rfl
  rw [lvs_snoc]
  have e : lenP ds (ws' ++ [b]) = lenF ds (lenP ds ws') b := by unfold lenP; rw [List.foldl_append]; rfl
  rw [e]
  unfold lenF lvF
  by_cases h0 : 0 < b
  ·rw [if_pos h0, if_pos h0, List.map_append, List.sum_append, List.map_append, List.sum_append, i1, i2]; simp
  ·rw [if_neg h0, if_neg h0, List.map_append, List.sum_append, i1]; simp [gS]
theorem sum_scale : ∀ (l : List N2) (f g : N2 → Nat) (c : Nat), (∀ p ∈ l, f p = c * g p) → (l.map f).sum = c * (l.map g).sum
 | [], f, g, c, _ => by simp
 | p :: l, f, g, c, h => by
  rw [List.map_cons, List.sum_cons, List.map_cons, List.sum_cons, sum_scale l f g c (fun q hq => h q (List.mem_cons_of_mem _ hq)), h p (by simp), Nat.mul_add]
theorem lvs_byte' (m : Nat) : ∀ ws : List Nat, ws.length = m → ∀ i, i < (lvs ws).length → ∃ j n, ws[j]? = some n ∧ 0 < n ∧ (lvs (ws.take j)).length = i := by
 induction m with
 | zero => intro ws h i hi; rw [List.length_eq_zero_iff.1 h] at hi; simp [lvs] at hi
 | succ m ih =>
  intro ws h i hi
  obtain ⟨ws', b, rfl⟩ : ∃ l b, ws = l ++ [b] := ⟨ws.dropLast, ws.getLast (by intro e; rw [e] at h; simp at h), (List.dropLast_concat_getLast _).symm⟩
  have h' : ws'.length = m := by simpa using h
  by_cases hlt : i < (lvs ws').length
  ·obtain ⟨j, n, h1, h2, h3⟩ := ih ws' h' i hlt
   have hj := (List.getElem?_eq_some_iff.1 h1).1
   exact ⟨j, n, by rw [List.getElem?_append_left hj]; exact h1, h2, by rw [List.take_append_of_le_length (by omega)]; exact h3⟩
  ·rw [lvs_snoc] at hi
   unfold lvF at hi
   by_cases h0 : 0 < b
   ·rw [if_pos h0, List.length_append, List.length_singleton] at hi
    exact ⟨ws'.length, b, by rw [List.getElem?_append_right (Nat.le_refl _), Nat.sub_self]; rfl, h0, by rw [List.take_append_of_le_length (Nat.le_refl _), List.take_of_length_le (Nat.le_refl _)]; omega⟩
   ·rw [if_neg h0] at hi; omega
theorem lvs_byte (ws : List Nat) (i : Nat) (hi : i < (lvs ws).length) : ∃ j n, ws[j]? = some n ∧ 0 < n ∧ (lvs (ws.take j)).length = i := lvs_byte' _ ws rfl i hi
theorem lenP_count0 (ds : List Nat) (m : Nat) : ∀ ws : List Nat, ws.length = m → (∀ i, i < (lvs ws).length → 1 ≤ ds.getD i 0) → (lenP ds ws).1.count 0 + (lvs ws).length = m := by
 induction m with
 | zero => intro ws h _; rw [List.length_eq_zero_iff.1 h]; rfl
 | succ m ih =>
  intro ws h hd
  obtain ⟨ws', b, rfl⟩ : ∃ l b, ws = l ++ [b] := ⟨ws.dropLast, ws.getLast (by intro e; rw [e] at h; simp at h), (List.dropLast_concat_getLast _).symm⟩
  have h' : ws'.length = m := by simpa using h
  have i2 := lenP_snd ds _ ws' rfl
  have e : lenP ds (ws' ++ [b]) = lenF ds (lenP ds ws') b := by unfold lenP; rw [List.foldl_append]; rfl
  rw [lvs_snoc] at hd
  rw [e, lvs_snoc]
  unfold lenF lvF at *
  by_cases h0 : 0 < b
  ·rw [if_pos h0] at hd ⊢
   have i1 := ih ws' h' (fun i hi => hd i (by rw [List.length_append]; omega))
   have hb := hd (lvs ws').length (by rw [List.length_append, List.length_singleton]; omega)
   rw [if_pos h0, List.count_append, i2, List.length_append, List.length_singleton]
   have : [ds.getD (lvs ws').length 0].count 0 = 0 := List.count_eq_zero.2 (fun hm => by rw [List.mem_singleton] at hm; omega)
   omega
  ·rw [if_neg h0] at hd ⊢
   have i1 := ih ws' h' hd
   rw [if_neg h0, List.count_append]
   have : [0].count 0 = 1 := by decide
   omega
theorem lenP_count1 (ds : List Nat) (m : Nat) : ∀ ws : List Nat, ws.length = m → (∀ i, i < (lvs ws).length → ds.getD i 0 = 1) → (lenP ds ws).1.count 1 = (lvs ws).length := by
 induction m with
 | zero => intro ws h _; rw [List.length_eq_zero_iff.1 h]; rfl
 | succ m ih =>
  intro ws h hd
  obtain ⟨ws', b, rfl⟩ : ∃ l b, ws = l ++ [b] := ⟨ws.dropLast, ws.getLast (by intro e; rw [e] at h; simp at h), (List.dropLast_concat_getLast _).symm⟩
  have h' : ws'.length = m := by simpa using h
  have i2 := lenP_snd ds _ ws' rfl
  have e : lenP ds (ws' ++ [b]) = lenF ds (lenP ds ws') b := by unfold lenP; rw [List.foldl_append]; rfl
  rw [lvs_snoc] at hd
  rw [e, lvs_snoc]
  unfold lenF lvF at *
  by_cases h0 : 0 < b
  ·rw [if_pos h0] at hd ⊢
   have i1 := ih ws' h' (fun i hi => hd i (by rw [List.length_append]; omega))
   have hb := hd (lvs ws').length (by rw [List.length_append, List.length_singleton]; omega)
   rw [if_pos h0, List.count_append, i2, List.length_append, List.length_singleton, hb, i1]
   rfl
  ·rw [if_neg h0] at hd ⊢
   have i1 := ih ws' h' hd
   rw [if_neg h0, List.count_append, i1]
   rfl
theorem lens_whole {ws : List Nat} (hw : ws.length = 256) (h56 : ∀ x ∈ lensW ws, x ≤ 56) : wholeB (lensW ws) = true ∧ shr (lensW ws) 256 ≤ 2 ^ 56 := by
 have hl := lensW_length ws hw
 have hsum : shr (lensW ws) 256 = ((lvs ws).map fun p => gS ((depW ws).getD p.2 0)).sum := by
  rw [shr_sum, List.take_of_length_le (by omega)]
  exact lenP_sum (depW ws) _ ws rfl
 by_cases h2 : 2 ≤ (lvs ws).length
 ·have hk := kraft ((lvs ws).length - 1) (sortL (lvs ws)) (List.replicate (lvs ws).length 0).length 255 (by rw [sortL_length]; omega) (srt_num ws) (by have := lvs_le ws hw; omega)
  rw [List.length_replicate, kr_perm (sortL_perm _)] at hk
  have hpl := parW_length ws
  have hsc := sum_scale (lvs ws) (fun p => 2 ^ (255 - dpW ws p.2)) (fun p => gS ((depW ws).getD p.2 0)) (2 ^ 199) (fun p hp => by
   have hlt := lvs_lt ws p hp
   have hpos := depW_pos ws hw p.2 hlt
   have hd := depW_is ws hw h2 p.2 (by omega)
   have hle : (depW ws).getD p.2 0 ≤ 56 := by
    obtain ⟨i, hi, he⟩ := List.getElem_of_mem hp
    have hg : (lvs ws)[i]? = some p := by rw [List.getElem?_eq_getElem hi, he]
    have hnum := (lvs_num _ ws rfl i p hg).1
    -- the length of its byte
    obtain ⟨j, n, hj, hn0, hjl⟩ := lvs_byte ws i hi
    have hlg := lensW_get hw hj
    rw [if_pos hn0, hjl] at hlg
    rw [hnum, ← hlg]
    refine h56 _ ?_
    rw [List.getD_eq_getElem?_getD, List.getElem?_eq_getElem (by have := (List.getElem?_eq_some_iff.1 hj).1; omega)]
    exact List.getElem_mem _
   unfold gS
   rw [if_neg (by omega), hd, ← Nat.pow_add]
   congr 1
   omega)
  have hkr : kr 255 (dpF (sortL (lvs ws)) (lvs ws).length) (lvs ws) = ((lvs ws).map fun p => 2 ^ (255 - dpW ws p.2)).sum := rfl
  rw [hkr, hsc, ← hsum] at hk
  have hs : shr (lensW ws) 256 = 2 ^ 56 := by
   have e : (2 : Nat) ^ 255 = 2 ^ 199 * 2 ^ 56 := by rw [← Nat.pow_add]
   rw [e] at hk
   exact Nat.eq_of_mul_eq_mul_left (Nat.two_pow_pos 199) hk
  refine ⟨?_, by omega⟩
  unfold wholeB
  rw [decide_eq_true (.inr (.inr hs))]
 ·have hc0 := lenP_count0 (depW ws) _ ws rfl (fun i hi => depW_pos ws hw i hi)
  change (lensW ws).count 0 + _ = _ at hc0
  have hcod : cod (lensW ws) 256 = (lvs ws).length := by unfold cod; rw [ct_all _ _ _ (by omega)]; omega
  by_cases h1 : (lvs ws).length = 1
  ·have hc1 := lenP_count1 (depW ws) _ ws rfl (fun i hi => by
    obtain rfl : i = 0 := by omega
    exact depW_one ws h1)
   change (lensW ws).count 1 = _ at hc1
   refine ⟨?_, ?_⟩
   ·unfold wholeB
    rw [decide_eq_true (.inr (.inl ⟨by rw [hcod, h1], by rw [ct_all _ _ _ (by omega), hc1, h1]⟩))]
   ·obtain ⟨p, hp⟩ := List.length_eq_one_iff.1 h1
    have hn := lvs_lt ws p (by rw [hp]; simp)
    rw [hsum, hp]
    have : p.2 = 0 := by omega
    simp only [List.map_cons, List.map_nil, List.sum_cons, List.sum_nil, this, depW_one ws h1]
    decide
  ·have h0 : (lvs ws).length = 0 := by omega
   refine ⟨?_, ?_⟩
   ·unfold wholeB
    rw [decide_eq_true (.inl (by rw [hcod, h0]))]
   ·rw [hsum, List.length_eq_zero_iff.1 h0]; simp
def fcN (ls : List Nat) : Nat → Nat
 | 0 => 0
 | k + 1 => 2 * (fcN ls k + if k = 0 then 0 else ls.count k)
def shC (ls : List Nat) : Nat → Nat
 | 0 => 0
 | k + 1 => shC ls k + if k = 0 then 0 else ls.count k * 2 ^ (56 - k)
theorem shC_mono (ls : List Nat) : ∀ d k, shC ls k ≤ shC ls (k + d)
 | 0, k => Nat.le_refl _
 | d + 1, k => Nat.le_trans (shC_mono ls d k) (by rw [← Nat.add_assoc, shC]; omega)
theorem shC_sum : ∀ (ls : List Nat) (m : Nat), (∀ x ∈ ls, x < m) → shC ls m = (ls.map gS).sum
 | [], m, _ => by
  have : ∀ m, shC [] m = 0 := fun m => by induction m with
   | zero => rfl
   | succ m ih => rw [shC, ih]; simp
  rw [this]; rfl
 | x :: ls, m, h => by
  have ih := shC_sum ls m (fun y hy => h y (List.mem_cons_of_mem _ hy))
  have hx := h x (by simp)
  have hp : ∀ m, shC (x :: ls) m = shC ls m + if 0 < x ∧ x < m then 2 ^ (56 - x) else 0 := fun m => by
   induction m with
   | zero => simp [shC]
   | succ m ih2 =>
    rw [shC, shC, ih2]
    by_cases hm : m = 0
    ·subst hm; rw [if_pos rfl, if_pos rfl, if_neg (by omega), if_neg (by omega)]
    ·rw [if_neg hm, if_neg hm, List.count_cons]
     have e3 : (if (x == m) = true then 1 else 0) = if x = m then 1 else 0 := by simp
     rw [e3, Nat.add_mul]
     by_cases e : x = m
     ·subst e; rw [if_pos rfl, if_neg (by omega), if_pos (by omega)]; omega
     ·rw [if_neg e, Nat.zero_mul]
      split <;> split <;> omega
  rw [hp, ih, List.map_cons, List.sum_cons]
  unfold gS
  split <;> split <;> omega
theorem fcN_share (ls : List Nat) : ∀ k, k ≤ 56 → (fcN ls k + if k = 0 then 0 else ls.count k) * 2 ^ (56 - k) = shC ls (k + 1)
 | 0, _ => by simp [fcN, shC]
 | k + 1, h => by
  have ih := fcN_share ls k (by omega)
  rw [shC, ← ih, fcN, if_neg (show ¬ k + 1 = 0 by omega), if_neg (show ¬ k + 1 = 0 by omega)]
  have e : 2 ^ (56 - k) = 2 * 2 ^ (56 - (k + 1)) := by rw [← Nat.pow_succ']; congr 1; omega
  rw [e]
  generalize (fcN ls k + if k = 0 then 0 else ls.count k) = A
  generalize 2 ^ (56 - (k + 1)) = P
  rw [Nat.add_mul]
  congr 1
  rw [Nat.mul_comm 2 A, Nat.mul_assoc]
theorem fcN_room {ls : List Nat} (hl : ls.length = 256) (h56 : ∀ x ∈ ls, x ≤ 56) (hs : shr ls 256 ≤ 2 ^ 56) {k : Nat} (hk : k ≤ 56) : (fcN ls k + if k = 0 then 0 else ls.count k) ≤ 2 ^ k := by
 have h1 := fcN_share ls k hk
 have h2 := shC_mono ls (57 - (k + 1)) (k + 1)
 rw [show k + 1 + (57 - (k + 1)) = 57 by omega, shC_sum ls 57 (fun x hx => by have := h56 x hx; omega)] at h2
 rw [shr_sum, List.take_of_length_le (by omega)] at hs
 have h3 : (fcN ls k + if k = 0 then 0 else ls.count k) * 2 ^ (56 - k) ≤ 2 ^ k * 2 ^ (56 - k) := by
  rw [← Nat.pow_add, show k + (56 - k) = 56 by omega]; omega
 exact Nat.le_of_mul_le_mul_right h3 (Nat.two_pow_pos _)
theorem fcM_is {ls : List Nat} (hl : ls.length = 256) (h56 : ∀ x ∈ ls, x ≤ 56) (hs : shr ls 256 ≤ 2 ^ 56) : ∀ k, k ≤ 56 → fcM ls k = fcN ls k
 | 0, _ => rfl
 | k + 1, h => by
  have hr := fcN_room hl h56 hs (show k ≤ 56 by omega)
  have hp : 2 ^ k ≤ 2 ^ 55 := Nat.pow_le_pow_right (by decide) (by omega)
  have hp2 : (2 : Nat) ^ 55 = 36028797018963968 := by decide
  rw [fcM, fcN, fcM_is hl h56 hs k (by omega)]
  unfold M64'
  rw [Nat.mod_eq_of_lt (a := fcN ls k + _) (by omega), Nat.mod_eq_of_lt (by omega)]
theorem fcN_far (ls : List Nat) : ∀ d k, 0 < k → 2 ^ d * (fcN ls k + ls.count k) * (if d = 0 then 0 else 1) ≤ fcN ls (k + d)
 | 0, k, _ => by simp
 | d + 1, k, hk => by
  have ih := fcN_far ls d k hk
  rw [← Nat.add_assoc, fcN, if_neg (show ¬ d + 1 = 0 by omega), if_neg (show ¬ k + d = 0 by omega), Nat.mul_one]
  by_cases hd : d = 0
  ·subst hd
   rw [Nat.add_zero, Nat.pow_one]
   exact Nat.le_refl _
  ·rw [if_neg hd, Nat.mul_one] at ih
   rw [Nat.pow_succ', Nat.mul_assoc]
   omega
theorem codL_get {ls : List Nat} (hl : ls.length = 256) (h56 : ∀ x ∈ ls, x ≤ 56) (hs : shr ls 256 ≤ 2 ^ 56) {i k : Nat} (hi : ls[i]? = some k) (hk : 0 < k) : (codL ls).getD i 0 = fcN ls k + ct ls k i ∧ fcN ls k + ct ls k i < 2 ^ k := by
 have hil := (List.getElem?_eq_some_iff.1 hi).1
 have hg := getD_of hi
 have hk56 := h56 k (List.mem_of_getElem? hi)
 have hr := fcN_room hl h56 hs hk56
 rw [if_neg (by omega)] at hr
 have hc := ct_lt_all hi
 have hp : 2 ^ k ≤ 2 ^ 56 := Nat.pow_le_pow_right (by decide) hk56
 have hp2 : (2 : Nat) ^ 56 = 72057594037927936 := by decide
 refine ⟨?_, by omega⟩
 unfold codL
 rw [List.getD_eq_getElem?_getD, mapR_get _ (by omega), hg, if_pos hk]
 show cdV ls i = _
 unfold cdV
 rw [hg, fcM_is hl h56 hs k hk56]
 unfold M64'
 exact Nat.mod_eq_of_lt (by omega)
def gB : Nat → Nat → Nat → Nat
 | 0, m, w => w
 | d + 1, m, w => gB d w (w + m)
theorem gB_mono : ∀ d {m m' w w' : Nat}, m ≤ m' → w ≤ w' → gB d m w ≤ gB d m' w'
 | 0, _, _, _, _, _, h => h
 | d + 1, _, _, _, _, h1, h2 => gB_mono d h2 (by omega)
theorem gB_pow : ∀ d {c m w : Nat}, c ≤ m → c ≤ w → c * 2 ^ (d / 2) ≤ gB d m w
 | 0, c, m, w, _, h => by simpa [gB] using h
 | 1, c, m, w, h1, h2 => by
  show c * 2 ^ 0 ≤ w + m
  omega
 | d + 2, c, m, w, h1, h2 => by
  have := gB_pow d (c := 2 * c) (m := w + m) (w := w + m + w) (by omega) (by omega)
  show _ ≤ gB d (w + m) (w + m + w)
  rw [show (d + 2) / 2 = d / 2 + 1 by omega, Nat.pow_succ]
  rw [show c * (2 ^ (d / 2) * 2) = 2 * c * 2 ^ (d / 2) by rw [Nat.mul_comm (2 ^ (d / 2)) 2, ← Nat.mul_assoc, Nat.mul_comm c 2]]
  exact this
def wsum (s : List N2) : Nat := (s.map (·.1)).sum
theorem wsum_cons (p : N2) (s : List N2) : wsum (p :: s) = p.1 + wsum s := by simp [wsum]
theorem wsum_perm {s t : List N2} (h : s.Perm t) : wsum s = wsum t := (h.map _).sum_nat
theorem wsum_mem : ∀ {s : List N2} {p : N2}, p ∈ s → p.1 ≤ wsum s
 | q :: s, p, h => by
  rw [wsum_cons]
  rcases List.mem_cons.1 h with rfl | h
  ·omega
  ·have := wsum_mem h; omega
theorem kf_le {p q : N2} (h : kf p ≤ kf q) (hq : q.2 < 1024) : p.1 ≤ q.1 := by
 unfold kf at h; omega
theorem dp_heavy : ∀ (n : Nat) (s : List N2) (num m : Nat), s.length = n + 1 → SrtL s → NumOk s num → num + n < 1024 → wsum s < 18446744073709551616 → (∀ p ∈ s, m ≤ p.1) → ∀ p ∈ s, gB (dpF s num p.2) m p.1 ≤ wsum s
 | 0, s, num, m, hl, hs, hn, hnum, hw, hm, p, hp => by
  rw [dpF_end _ _ _ (by omega)]
  exact wsum_mem hp
 | n + 1, s, num, m, hl, hs, hn, hnum, hw, hm, p, hp => by
  match s, hl with
  | a :: b :: r, hl =>
   have hlt : ∀ q ∈ a :: b :: r, q.2 < 1024 := fun q hq => by have := hn.1 q hq; omega
   have hab : a.1 ≤ b.1 := kf_le (hs.1 b (by simp)) (hlt b (by simp))
   have hbr : ∀ q ∈ r, b.1 ≤ q.1 := fun q hq => kf_le (hs.2.1 q hq) (hlt q (by simp [hq]))
   have hma := hm a (by simp)
   have hmb := hm b (by simp)
   have hw2 : wsum (a :: b :: r) = a.1 + b.1 + wsum r := by rw [wsum_cons, wsum_cons]; omega
   have hsum : sumW a.1 b.1 = a.1 + b.1 := by unfold sumW; rw [if_pos (by omega)]
   have hn' := numOk_step (w := sumW a.1 b.1) hn
   have hs' := insL_srt (sumW a.1 b.1, num) r hs.2.2
   have hpm := insL_perm (sumW a.1 b.1, num) r
   have hw' : wsum (insL (sumW a.1 b.1, num) r) = wsum (a :: b :: r) := by
    rw [wsum_perm hpm, wsum_cons, hw2, hsum]
   have hl' : (insL (sumW a.1 b.1, num) r).length = n + 1 := by rw [insL_length]; simp at hl; omega
   have ih := fun m hm => dp_heavy n (insL (sumW a.1 b.1, num) r) (num + 1) m hl' hs' hn' (by omega) (by rw [hw']; exact hw) hm
   have hnew := (hpm.mem_iff (a := (sumW a.1 b.1, num))).2 (by simp)
   have hall : ∀ c, c ≤ b.1 → ∀ q ∈ insL (sumW a.1 b.1, num) r, c ≤ q.1 := fun c hc q hq => by
    rcases List.mem_cons.1 (hpm.mem_iff.1 hq) with rfl | hq
    ·show c ≤ sumW a.1 b.1; omega
    ·have := hbr q hq; omega
   rw [dpF_step]
   rw [hw'] at ih
   rcases List.mem_cons.1 hp with rfl | hp
   ·rw [if_pos (.inl rfl)]
    refine Nat.le_trans ?_ (ih p.1 (hall _ hab) _ hnew)
    show gB _ p.1 (p.1 + m) ≤ gB _ p.1 (sumW p.1 b.1)
    exact gB_mono _ (Nat.le_refl _) (by omega)
   rcases List.mem_cons.1 hp with rfl | hp
   ·rw [if_pos (.inr rfl)]
    refine Nat.le_trans ?_ (ih p.1 (hall _ (Nat.le_refl _)) _ hnew)
    show gB _ p.1 (p.1 + m) ≤ gB _ p.1 (sumW a.1 p.1)
    exact gB_mono _ (Nat.le_refl _) (by omega)
   ·have hnd := hn.2
    simp only [List.map_cons, List.nodup_cons, List.mem_cons, not_or] at hnd
    have hpr : p.2 ∈ r.map (·.2) := List.mem_map.2 ⟨p, hp, rfl⟩
    rw [if_neg (by
     rintro (e | e)
     ·exact hnd.1.2 (e ▸ hpr)
     ·exact hnd.2.1 (e ▸ hpr))]
    exact ih m (hall _ hmb) p (hpm.mem_iff.2 (by simp [hp]))
theorem lvs_pos (m : Nat) : ∀ ws : List Nat, ws.length = m → wsum (lvs ws) = ws.sum ∧ ∀ p ∈ lvs ws, 1 ≤ p.1 := by
 induction m with
 | zero => intro ws h; rw [List.length_eq_zero_iff.1 h]; exact ⟨rfl, fun p hp => by simp [lvs] at hp⟩
 | succ m ih =>
  intro ws h
  obtain ⟨ws', b, rfl⟩ : ∃ l b, ws = l ++ [b] := ⟨ws.dropLast, ws.getLast (by intro e; rw [e] at h; simp at h), (List.dropLast_concat_getLast _).symm⟩
  have h' : ws'.length = m := by simpa using h
  obtain ⟨h1, h2⟩ := ih ws' h'
  rw [lvs_snoc, List.sum_append]
  unfold lvF
  by_cases h0 : 0 < b
  ·rw [if_pos h0]
   refine ⟨?_, fun p hp => ?_⟩
   ·unfold wsum at *; rw [List.map_append, List.sum_append, h1]; simp
   ·rcases List.mem_append.1 hp with hp | hp
    ·exact h2 p hp
    ·rw [List.mem_singleton] at hp; rw [hp]; exact h0
  ·rw [if_neg h0]
   exact ⟨by rw [h1]; simp; omega, h2⟩
theorem dpW_small {ws : List Nat} (hw : ws.length = 256) {T : Nat} (hT : ws.sum ≤ T) (hT2 : T < 4096) (i : Nat) (hi : i < (lvs ws).length) : dpW ws i ≤ 24 := by
 obtain ⟨h1, h2⟩ := lvs_pos _ ws rfl
 have hg := List.getElem?_eq_getElem hi
 have hnum := (lvs_num _ ws rfl i _ hg).1
 have hle := lvs_le ws hw
 have hsn := srt_num ws
 rw [List.length_replicate] at hsn
 have hh := dp_heavy ((lvs ws).length - 1) (sortL (lvs ws)) (lvs ws).length 1 (by rw [sortL_length]; omega) (sortL_srt _) hsn (by omega) (by rw [wsum_perm (sortL_perm _), h1]; omega)
  (fun p hp => h2 p ((sortL_perm _).mem_iff.1 hp)) _ ((sortL_perm _).mem_iff.2 (List.getElem_mem hi))
 rw [hnum, wsum_perm (sortL_perm _), h1] at hh
 have hp := gB_pow (dpF (sortL (lvs ws)) (lvs ws).length i) (c := 1) (m := 1) (w := ((lvs ws)[i]'hi).1) (Nat.le_refl _) (h2 _ (List.getElem_mem hi))
 rw [Nat.one_mul] at hp
 show dpF (sortL (lvs ws)) (lvs ws).length i ≤ 24
 generalize dpF (sortL (lvs ws)) (lvs ws).length i = d at *
 rcases Nat.lt_or_ge d 24 with h | h
 ·omega
 ·have h12 : 2 ^ 12 ≤ 2 ^ (d / 2) := Nat.pow_le_pow_right (by decide) (by omega)
  have : (2 : Nat) ^ 12 = 4096 := by decide
  omega
theorem lensW_small {ws : List Nat} (hw : ws.length = 256) {T : Nat} (hT : ws.sum ≤ T) (hT2 : T < 4096) : ∀ x ∈ lensW ws, x ≤ 24 := by
 intro x hx
 obtain ⟨j, hj, rfl⟩ := List.getElem_of_mem hx
 rw [lensW_length ws hw] at hj
 have hn : ws[j]? = some (ws[j]'(by omega)) := List.getElem?_eq_getElem (by omega)
 have hlg := lensW_get hw hn
 rw [List.getD_eq_getElem?_getD, List.getElem?_eq_getElem (by rw [lensW_length ws hw]; exact hj)] at hlg
 rw [show (lensW ws)[j] = _ from hlg]
 by_cases h0 : 0 < ws[j]'(by omega)
 ·rw [if_pos h0]
  have hlt := lvs_at hn h0
  have hpl := parW_length ws
  by_cases h1 : (lvs ws).length = 1
  ·rw [show (lvs (ws.take j)).length = 0 by omega, depW_one ws h1]; decide
  ·rw [depW_is ws hw (by omega) _ (by omega)]
   exact dpW_small hw hT hT2 _ hlt
 ·rw [if_neg h0]; exact Nat.zero_le _
theorem sum_zeros : ∀ n : Nat, (List.replicate n 0).sum = 0
 | 0 => rfl
 | n + 1 => by rw [List.replicate_succ, List.sum_cons, sum_zeros n]
theorem cntL_sum (n : Nat) : ∀ bs : List UInt8, bs.length = n → (cntL bs).sum = n := by
 induction n with
 | zero => intro bs h; rw [List.length_eq_zero_iff.1 h, cntL_nil]; exact sum_zeros _
 | succ n ih =>
  intro bs h
  obtain ⟨bs', b, rfl⟩ : ∃ l b, bs = l ++ [b] := ⟨bs.dropLast, bs.getLast (by intro e; rw [e] at h; simp at h), (List.dropLast_concat_getLast _).symm⟩
  have h' : bs'.length = n := by simpa using h
  rw [cntL_snoc]
  have hs : ∀ (l : List Nat) (i : Nat), i < l.length → (l.set i (l.getD i 0 + 1)).sum = l.sum + 1 := fun l => by
   induction l with
   | nil => intro i hi; simp at hi
   | cons x l ihl =>
    intro i hi
    cases i with
    | zero => simp; omega
    | succ i =>
     have := ihl i (by simpa using hi)
     simp only [List.set_cons_succ, List.sum_cons, List.getD_cons_succ, this]
     omega
  unfold cntF
  rw [hs _ _ (by rw [cntL_length]; exact b.toNat_lt), ih bs' h']
theorem lens_text (bs : List UInt8) (h : bs.length ≤ 2000) : ∀ x ∈ lensW (cntL bs), x ≤ 56 := fun x hx => by
 have := lensW_small (cntL_length bs) (T := 2000) (by rw [cntL_sum _ bs rfl]; exact h) (by decide) x hx
 omega
theorem bitsN_top (c m : Nat) : bitsN c (m + 1) = decide (c / 2 ^ m % 2 = 1) :: bitsN c m := by
 apply List.ext_getElem?
 intro i
 by_cases hi : i < m + 1
 ·rw [bitsN_get _ _ _ hi]
  cases i with
  | zero => simp
  | succ i =>
   rw [List.getElem?_cons_succ, bitsN_get _ _ _ (by omega)]
   rw [show m + 1 - 1 - (i + 1) = m - 1 - i by omega]
 ·rw [List.getElem?_eq_none (by rw [bitsN_length]; omega), List.getElem?_eq_none (by rw [List.length_cons, bitsN_length]; omega)]
theorem nx_run {ls : List Nat} {k c : Nat} (h1 : fcN ls k ≤ c) (h2 : c < fcN ls k + ls.count k) (hk : 0 < k) (t : List Bool) : ∀ (m j f a : Nat), j + m = k → 0 < j → m < f → 2 * a + fcN ls j = 2 * (c / 2 ^ (m + 1)) →
  nxS ls f j a (bitsN c (m + 1) ++ t) = (some (pre ls k + (c - fcN ls k)), m + 1)
 | m, j, 0, a, hj, hj0, hf, ha => by omega
 | m, j, f + 1, a, hj, hj0, hf, ha => by
  rw [bitsN_top, List.cons_append, nxS]
  have hb : 2 * (c / 2 ^ (m + 1)) + (decide (c / 2 ^ m % 2 = 1)).toNat = c / 2 ^ m := by
   rw [Nat.pow_succ, ← Nat.div_div_eq_div_mul]
   by_cases h : c / 2 ^ m % 2 = 1
   ·rw [decide_eq_true h]; show _ + 1 = _; omega
   ·rw [decide_eq_false h]; show _ + 0 = _; omega
  generalize (decide (c / 2 ^ m % 2 = 1)).toNat = bt at *
  cases m with
  | zero =>
   rw [Nat.pow_zero, Nat.div_one] at hb
   obtain rfl : j = k := by omega
   rw [if_pos (by omega)]
   rw [show 2 * a + bt = c - fcN ls j by omega]
  | succ m =>
   have hfar := fcN_far ls (m + 1) j hj0
   rw [if_neg (show ¬ m + 1 = 0 by omega), Nat.mul_one, hj] at hfar
   have hge : fcN ls j + ls.count j ≤ c / 2 ^ (m + 1) := by
    rw [Nat.le_div_iff_mul_le (Nat.two_pow_pos _), Nat.mul_comm]; omega
   rw [if_neg (by omega)]
   have ih := nx_run h1 h2 hk t m (j + 1) f (2 * a + bt - ls.count j) (by omega) (by omega) (by omega) (by
    rw [fcN, if_neg (show ¬ j = 0 by omega)]; omega)
   rw [ih]
theorem nx_code {ls : List Nat} {k c : Nat} (h1 : fcN ls k ≤ c) (h2 : c < fcN ls k + ls.count k) (h2' : c < 2 ^ k) (hk : 0 < k) (hk56 : k ≤ 56) (t : List Bool) :
  nxS ls 56 1 0 (bitsN c k ++ t) = (some (pre ls k + (c - fcN ls k)), k) := by
 obtain ⟨m, rfl⟩ : ∃ m, k = m + 1 := ⟨k - 1, by omega⟩
 exact nx_run h1 h2 hk t m 1 56 0 (by omega) (by omega) (by omega) (by
  rw [Nat.div_eq_of_lt h2']
  show 2 * 0 + 2 * (0 + 0) = _
  rfl)
theorem nx_byte {ls : List Nat} (hl : ls.length = 256) (h56 : ∀ x ∈ ls, x ≤ 56) (hs : shr ls 256 ≤ 2 ^ 56) {i k : Nat} (hi : ls[i]? = some k) (hk : 0 < k) (t : List Bool) :
  ∃ p, nxS ls 56 1 0 (putL ((codL ls).getD i 0) k ++ t) = (some p, k) ∧ (byL ls).getD p 0 = i := by
 obtain ⟨hc, hlt⟩ := codL_get hl h56 hs hi hk
 have hct := ct_lt_all hi
 have hk56 := h56 k (List.mem_of_getElem? hi)
 have hil := (List.getElem?_eq_some_iff.1 hi).1
 refine ⟨pre ls k + ct ls k i, ?_, ?_⟩
 ·unfold putL
  rw [if_pos (by omega), hc, nx_code (by omega) (by omega) (by omega) hk hk56, Nat.add_sub_cancel_left]
 ·have := (byL_ok hl h56).2 i k (by omega) hi hk
  exact getD_of this
theorem dc_back {ls : List Nat} (hl : ls.length = 256) (h56 : ∀ x ∈ ls, x ≤ 56) (hs : shr ls 256 ≤ 2 ^ 56) (L : List Bool) : ∀ (bs : List UInt8) (i : Nat) (t : List Bool),
  (∀ b ∈ bs, 0 < ls.getD b.toNat 0) → L.drop i = pkB (codL ls) ls bs ++ t → i ≤ L.length → dcD ls L bs.length i = (bs, i + (pkB (codL ls) ls bs).length, true)
 | [], i, t, _, _, _ => by rw [List.length_nil, dcD_zero]; rfl
 | b :: bs, i, t, hb, hd, hi => by
  have hb0 := hb b (by simp)
  have hbl := b.toNat_lt
  have hg : ls[b.toNat]? = some (ls.getD b.toNat 0) := by rw [List.getD_eq_getElem?_getD, List.getElem?_eq_getElem (by omega)]; rfl
  have e : pkB (codL ls) ls (b :: bs) = putL ((codL ls).getD b.toNat 0) (ls.getD b.toNat 0) ++ pkB (codL ls) ls bs := by unfold pkB; rw [List.flatMap_cons]
  rw [e, List.append_assoc] at hd
  obtain ⟨p, hn, hp⟩ := nx_byte hl h56 hs hg hb0 (pkB (codL ls) ls bs ++ t)
  have hk56 := h56 _ (List.mem_of_getElem? hg)
  have hpl : (putL ((codL ls).getD b.toNat 0) (ls.getD b.toNat 0)).length = ls.getD b.toNat 0 := by unfold putL; rw [if_pos (by omega), bitsN_length]
  have hn1 : (nxS ls 56 1 0 (L.drop i)).1 = some p := by rw [hd, hn]
  have hn2 : (nxS ls 56 1 0 (L.drop i)).2 = ls.getD b.toNat 0 := by rw [hd, hn]
  have hdl := congrArg List.length hd
  rw [List.length_drop, List.length_append, hpl] at hdl
  have hd2 : L.drop (i + ls.getD b.toNat 0) = pkB (codL ls) ls bs ++ t := by
   rw [← List.drop_drop, hd]; exact List.drop_left' hpl
  have ih := dc_back hl h56 hs L bs (i + ls.getD b.toNat 0) t (fun x hx => hb x (by simp [hx])) hd2 (by omega)
  rw [List.length_cons, dcD_some hn1, hn2, ih, hp, e, List.length_append, hpl]
  simp only [Prod.mk.injEq, List.cons.injEq, and_true, true_and]
  exact ⟨UInt8.ofNat_toNat, by omega⟩
theorem cntL_pos (n : Nat) : ∀ bs : List UInt8, bs.length = n → ∀ b ∈ bs, 0 < (cntL bs).getD b.toNat 0 := by
 induction n with
 | zero => intro bs h b hb; rw [List.length_eq_zero_iff.1 h] at hb; simp at hb
 | succ n ih =>
  intro bs h b hb
  obtain ⟨bs', x, rfl⟩ : ∃ l b, bs = l ++ [b] := ⟨bs.dropLast, bs.getLast (by intro e; rw [e] at h; simp at h), (List.dropLast_concat_getLast _).symm⟩
  have h' : bs'.length = n := by simpa using h
  rw [cntL_snoc]
  unfold cntF
  have hl := cntL_length bs'
  rw [getD_set _ _ _ _ (by rw [hl]; exact x.toNat_lt)]
  split
  ·omega
  ·next hne =>
   rcases List.mem_append.1 hb with hb | hb
   ·exact ih bs' h' b hb
   ·rw [List.mem_singleton] at hb; exact absurd (by rw [hb]) hne
theorem text_coded (bs : List UInt8) : ∀ b ∈ bs, 0 < (lnT bs).getD b.toNat 0 := fun b hb => by
 have h := cntL_pos _ bs rfl b hb
 have hl := cntL_length bs
 have hbl := b.toNat_lt
 have hg : (cntL bs)[b.toNat]? = some ((cntL bs).getD b.toNat 0) := by rw [List.getD_eq_getElem?_getD, List.getElem?_eq_getElem (by omega)]; rfl
 have hz := lensW_zero hl hg
 show 0 < (lensW (cntL bs)).getD b.toNat 0
 omega
def okFrom : List (Nat × Nat) → List (Nat × Nat) → Prop
 | _, [] => True
 | bef, p :: rest => p.2 ≠ 0 ∧ lastIs bef p.1 = false ∧ okFrom (bef ++ [p]) rest
theorem okFrom_snoc : ∀ (rs bef : List (Nat × Nat)) (p : Nat × Nat), okFrom bef (rs ++ [p]) ↔ okFrom bef rs ∧ p.2 ≠ 0 ∧ lastIs (bef ++ rs) p.1 = false
 | [], bef, p => by simp [okFrom]
 | q :: rs, bef, p => by
  simp only [List.cons_append, okFrom]
  rw [okFrom_snoc rs (bef ++ [q]) p]
  simp [and_assoc]
theorem total_cons (p : Nat × Nat) (rs : List (Nat × Nat)) : (spreads (p :: rs)).length = p.2 + (spreads rs).length := by simp [spreads]
theorem ok_push (rs : List (Nat × Nat)) (n : Nat) (h : okFrom [] rs) : okFrom [] (pushRun rs n) := by
 rcases runs_cases rs with rfl | ⟨d, v, c, rfl⟩
 ·rw [pushRun_nil]; exact ⟨by simp, rfl, trivial⟩
 ·by_cases e : v = n
  ·subst e
   rw [pushRun_same]
   rw [okFrom_snoc] at h ⊢
   exact ⟨h.1, by simp, h.2.2⟩
  ·rw [pushRun_new _ _ _ _ e, okFrom_snoc]
   refine ⟨h, by simp, ?_⟩
   rw [List.nil_append, lastIs_snoc]; simpa using e
theorem spreads_push (rs : List (Nat × Nat)) (n : Nat) : spreads (pushRun rs n) = spreads rs ++ [n] := by
 rcases runs_cases rs with rfl | ⟨d, v, c, rfl⟩
 ·rfl
 ·by_cases e : v = n
  ·subst e
   rw [pushRun_same, spreads_append, spreads_append, spreads_one, spreads_one, List.replicate_succ', List.append_assoc]
  ·rw [pushRun_new _ _ _ _ e, spreads_append, spreads_one]; rfl
theorem packs_ok (l : List Nat) : okFrom [] (packs l) := by
 suffices h : ∀ (l : List Nat) rs, okFrom [] rs → okFrom [] (l.foldl pushRun rs) from h l [] trivial
 intro l
 induction l with
 | nil => intro rs h; exact h
 | cons n l ih => intro rs h; exact ih _ (ok_push rs n h)
theorem spreads_packs (l : List Nat) : spreads (packs l) = l := by
 suffices h : ∀ (l : List Nat) rs, spreads (l.foldl pushRun rs) = spreads rs ++ l by
  have := h l []
  simpa [packs, spreads] using this
 intro l
 induction l with
 | nil => intro rs; simp
 | cons n l ih => intro rs; rw [List.foldl_cons, ih, spreads_push]; simp
theorem restOf_add (s : ByteArray) (p k : Nat) : restOf s (p + k) = (restOf s p).drop k := by unfold restOf; rw [List.drop_drop]
theorem read_body : ∀ (rs bef : List (Nat × Nat)) (room p : Nat) (s : ByteArray) (r : List UInt8), okFrom bef rs → (spreads rs).length ≤ room → room < M64 → (∀ q ∈ rs, q.1 < M64) → restOf s p = bodyR rs ++ r →
  readR rs.length s p bef room = (bef ++ rs, 0, p + (bodyR rs).length)
 | [], bef, room, p, s, r, _, _, _, _, _ => by simp [readR, bodyR]
 | (x, c) :: rs, bef, room, p, s, r, ⟨h1, h2, h3⟩, ht, hr, hm, he => by
  simp only at h1 h2
  rw [total_cons] at ht
  simp only at ht
  have hx := hm (x, c) (by simp)
  simp only at hx
  have eb : bodyR ((x, c) :: rs) = enc x ++ (enc (c - 1) ++ bodyR rs) := by simp [bodyR]
  rw [eb] at he
  have r1 : rd (restOf s p) = (x, 0, (enc x).length) := by rw [he, List.append_assoc]; exact rd_enc x _ hx
  have he2 : restOf s (p + (enc x).length) = enc (c - 1) ++ (bodyR rs ++ r) := by
   rw [restOf_add, he, List.append_assoc, List.drop_left, List.append_assoc]
  have r2 : rd (restOf s (p + (enc x).length)) = (c - 1, 0, (enc (c - 1)).length) := by rw [he2]; exact rd_enc (c - 1) _ (by omega)
  have he3 : restOf s (p + (enc x).length + (enc (c - 1)).length) = bodyR rs ++ r := by rw [restOf_add, he2, List.drop_left]
  have hn : nextR s p bef room = ((x, c), 0, p + (enc x).length + (enc (c - 1)).length) := by
   unfold nextR
   rw [r1]
   simp only
   rw [r2]
   simp only [ne_eq, not_true_eq_false, if_false, h2]
   rw [if_neg (by decide), if_neg (by omega), show c - 1 + 1 = c by omega]
  rw [List.length_cons, readR, hn]
  simp only [if_true]
  rw [read_body rs (bef ++ [(x, c)]) (room - c) _ s r h3 (by omega) (by omega) (fun q hq => hm q (by simp [hq])) he3, eb]
  simp only [List.append_assoc, List.length_append, List.singleton_append, Prod.mk.injEq, true_and]
  omega
theorem read_printed (l : List Nat) (r : List UInt8) (s : ByteArray) (p : Nat) (hs : restOf s p = printR l ++ r) (hl : l.length < M64) (hm : ∀ n ∈ l, n < M64) :
  redE s p (l.length : Nat) = 0 ∧ redAt s p (l.length : Nat) = p + (printR l).length ∧ redOf s p (l.length : Nat) = l := by
 have h0 : restOf s p = enc (packs l).length ++ (bodyR (packs l) ++ r) := by rw [hs, printR, List.append_assoc]
 have hpl := (packs_in l).1
 have r1 : rd (restOf s p) = ((packs l).length, 0, (enc (packs l).length).length) := by rw [h0]; exact rd_enc _ _ (by omega)
 have h1 : restOf s (p + (enc (packs l).length).length) = bodyR (packs l) ++ r := by rw [restOf_add, h0, List.drop_left]
 have hb := read_body (packs l) [] l.length _ s r (packs_ok l) (by rw [spreads_packs]; exact Nat.le_refl _) hl (packs_mem l hm) h1
 have e1 : redE s p (l.length : Nat) = 0 := by
  unfold redE
  rw [if_neg (by omega), r1]
  simp only [ne_eq, not_true_eq_false, if_false, Int.toNat_natCast]
  rw [hb]
 refine ⟨e1, ?_, ?_⟩
 ·unfold redAt
  rw [if_neg (by omega), r1]
  simp only [ne_eq, not_true_eq_false, if_false, Int.toNat_natCast]
  rw [hb, printR, List.length_append, Nat.add_assoc]
 ·unfold redOf
  rw [if_pos e1, r1]
  simp only [Int.toNat_natCast]
  rw [hb]
  exact spreads_packs l
theorem cutB_rest (s : ByteArray) (i : Nat) : cutB s i (8 * s.size - i) = (allB s).drop i := by
 unfold cutB; rw [List.take_of_length_le]; rw [List.length_drop, allB_length]; omega
theorem bitD_get (l : List Bool) (m : Nat) (h : m < l.length) : l[m]? = some (decide (bitD l m = 1)) := by
 unfold bitD
 rw [List.getD_eq_getElem?_getD, List.getElem?_eq_getElem h]
 cases l[m] <;> simp
theorem byteN_bit (l : List Bool) (j r : Nat) (hr : r < 8) : byteN l j / 2 ^ (7 - r) % 2 = bitD l (8 * j + r) := by
 unfold byteN
 have := bitD_le l (8 * j); have := bitD_le l (8 * j + 1); have := bitD_le l (8 * j + 2); have := bitD_le l (8 * j + 3)
 have := bitD_le l (8 * j + 4); have := bitD_le l (8 * j + 5); have := bitD_le l (8 * j + 6); have := bitD_le l (8 * j + 7)
 rcases (show r = 0 ∨ r = 1 ∨ r = 2 ∨ r = 3 ∨ r = 4 ∨ r = 5 ∨ r = 6 ∨ r = 7 by omega) with rfl | rfl | rfl | rfl | rfl | rfl | rfl | rfl
 all_goals simp only [Nat.add_zero, Nat.reducePow, Nat.reduceSub]; omega
theorem allB_pack (l : List Bool) : allB (textB (packB l)) = l ++ List.replicate (8 * ((l.length + 7) / 8) - l.length) false := by
 have hsz : (textB (packB l)).size = (l.length + 7) / 8 := by rw [textB_size, packB_length]
 apply List.ext_getElem?
 intro p
 by_cases hp : p / 8 < (l.length + 7) / 8
 ·rw [allB_get _ p (by rw [hsz]; exact hp)]
  have hb : ((textB (packB l))[p / 8]'(by rw [hsz]; exact hp)).toNat = byteN l (p / 8) := by
   have h1 := byte_of (textB (packB l)) (p / 8) (by rw [hsz]; exact hp)
   have h2 := packB_get l (p / 8) hp
   have h3 : (textB (packB l)).data.toList = packB l := by simp [textB]
   rw [h3, h2] at h1
   injection h1 with h1
   rw [← h1, byte_val]
  rw [hb, byteN_bit l (p / 8) (p % 8) (by omega), show 8 * (p / 8) + p % 8 = p by omega]
  rcases Nat.lt_or_ge p l.length with h | h
  ·rw [List.getElem?_append_left h, bitD_get l p h]
  ·rw [List.getElem?_append_right h, bitD_out l p h, List.getElem?_replicate, if_pos (by omega)]
   rfl
 ·rw [List.getElem?_eq_none (by rw [allB_length, hsz]; omega), List.getElem?_eq_none (by rw [List.length_append, List.length_replicate]; omega)]
theorem numB_zeros (n : Nat) : numB (List.replicate n false) = 0 := by
 induction n with
 | zero => rfl
 | succ n ih => rw [List.replicate_succ, numB_cons, ih]; simp
theorem done_pack (l : List Bool) : doneE (textB (packB l)) l.length = 0 := by
 have hsz : (textB (packB l)).size = (l.length + 7) / 8 := by rw [textB_size, packB_length]
 unfold doneE doneB
 rw [cutB_rest, allB_pack, List.drop_left' rfl, numB_zeros, hsz, decide_eq_true ⟨by omega, rfl⟩, if_pos rfl]
theorem cut_text (a b : List UInt8) : (textB (a ++ b)).extract a.length (textB (a ++ b)).size = textB b := by
 apply ByteArray.ext
 apply Array.toList_inj.1
 rw [textB_size, ByteArray.data_extract, Array.toList_extract, List.extract_eq_take_drop]
 show ((a ++ b).drop a.length).take _ = b
 rw [List.drop_left, List.take_of_length_le (by rw [List.length_append]; omega)]
theorem text_whole (bs : List UInt8) (h : bs.length ≤ 2000) : wholeB (lnT bs) = true ∧ shr (lnT bs) 256 ≤ 2 ^ 56 := lens_whole (cntL_length bs) (lens_text bs h)
theorem text_codes (bs : List UInt8) (h : bs.length ≤ 2000) : cdT bs = codL (lnT bs) := by
 have h56 : ∀ x ∈ lnT bs, x ≤ 56 := lens_text bs h
 have hg : greatB (lnT bs) = false := by
  unfold greatB; rw [List.any_eq_false]; intro x hx; have := h56 x hx; simp; omega
 have hE : cdsE (lnT bs) = 0 := by
  unfold cdsE
  rw [hg, (text_whole bs h).1]; rfl
 unfold cdT cdsOf
 rw [hE]; rfl
theorem un_back (bs : List UInt8) (h : bs.length ≤ 2000) : unE (textB (pkT bs)) (bs.length : Nat) = 0 ∧ unT (textB (pkT bs)) (bs.length : Nat) = bs := by
 have h56 : ∀ x ∈ lnT bs, x ≤ 56 := lens_text bs h
 have hll : (lnT bs).length = 256 := lensW_length _ (cntL_length bs)
 obtain ⟨hwb, hsh⟩ := text_whole bs h
 obtain ⟨B, hB⟩ : ∃ B, B = pkB (codL (lnT bs)) (lnT bs) bs := ⟨_, rfl⟩
 have hpk : pkT bs = enc bs.length ++ (printR (lnT bs) ++ packB B) := by unfold pkT; rw [text_codes bs h, hB]
 obtain ⟨s, hs⟩ : ∃ s, s = textB (pkT bs) := ⟨_, rfl⟩
 rw [← hs]
 have h0 : restOf s 0 = enc bs.length ++ (printR (lnT bs) ++ packB B) := by rw [hs, hpk]; rfl
 have r1 : rd (restOf s 0) = (bs.length, 0, (enc bs.length).length) := by rw [h0]; exact rd_enc _ _ (by unfold M64; omega)
 have hA : unA s = (enc bs.length).length := by unfold unA; rw [r1]
 have h1 : restOf s (unA s) = printR (lnT bs) ++ packB B := by
  have := restOf_add s 0 (enc bs.length).length
  rw [Nat.zero_add, h0, List.drop_left] at this
  rw [hA]; exact this
 obtain ⟨e1, e2, e3⟩ := read_printed (lnT bs) (packB B) s (unA s) h1 (by rw [hll]; decide) (fun n hn => by have := h56 n hn; unfold M64; omega)
 rw [hll] at e1 e2 e3
 have c256 : ((256 : Nat) : Int) = 256 := rfl
 rw [c256] at e1 e2 e3
 have hrA : rlA s (unA s) = true := by
  unfold rlA
  rw [e1, e3, hll]
  simp only [decide_true, Bool.true_and, List.all_eq_true, decide_eq_true_eq]
  exact h56
 have hL : unL s = lnT bs := by unfold unL rlL; rw [if_pos hrA, e3]
 have hrB : rlB s (unA s) = true := by
  unfold rlB
  rw [hrA, show rlL s (unA s) = lnT bs from hL, hwb]; rfl
 have hZ : s.extract (unZ s) s.size = textB (packB B) := by
  have := cut_text (enc bs.length ++ printR (lnT bs)) (packB B)
  rw [List.append_assoc, ← hpk, ← hs, List.length_append] at this
  unfold unZ
  rw [e2, hA]; exact this
 have hd := dc_back hll h56 hsh (allB (textB (packB B))) bs 0 (List.replicate (8 * ((B.length + 7) / 8) - B.length) false) (text_coded bs) (by rw [List.drop_zero, allB_pack, hB]) (Nat.zero_le _)
 rw [← hB, Nat.zero_add] at hd
 have hdT : dcT (lnT bs) (textB (packB B)) bs.length = bs := by unfold dcT; rw [hd]; rfl
 have hdB : dcB (lnT bs) (textB (packB B)) bs.length = true := by
  unfold dcB; rw [hd]
  show (true && decide (doneE _ B.length = 0)) = true
  rw [done_pack]; rfl
 have hTx : unTx s = bs := by unfold unTx; rw [hL, hZ, r1]; exact hdT
 have hE : unE s (bs.length : Nat) = 0 := by
  unfold unE
  rw [if_neg (by omega), r1]
  simp only [ne_eq, not_true_eq_false, if_false]
  rw [if_neg (by omega), hrB, if_neg (by decide), hL, hZ, hdB, if_neg (by decide), hTx, if_pos hs.symm]
 exact ⟨hE, by unfold unT; rw [if_pos hE, hTx]⟩
theorem pkT_small (bs : List UInt8) (h : bs.length ≤ 4294967296) : (pkT bs).length ≤ 1099511627776 := by
 have h1 := (enc_length bs.length).2
 have h2 := printR_le (lnT bs)
 have h3 : (lnT bs).length = 256 := lensW_length _ (cntL_length bs)
 have h4 := pkB_le (cdT bs) (lnT bs) bs
 unfold pkT
 rw [List.length_append, List.length_append, packB_length]
 omega
theorem text_again (s : ByteArray) : textB s.data.toList = s := by
 apply ByteArray.ext
 apply Array.toList_inj.1
 rfl
set_option maxHeartbeats 4000000 in
set_option maxRecDepth 100000 in
theorem back_walk (s : ByteArray) (w : World) (hs : s.size ≤ maxLen) :
  Calls Try.prog 6 #[.string s] w fun e w' => e = .returned (.bool true) ∧ Below w.heap.size w w' := by
 unfold maxLen at hs
 by_cases hgt : 2000 < s.size
 ·have x1 : decide ((2000 : Int) < (s.size : Int)) = true := by simp; omega
  have x2 : decide (2000 < s.size) = true := by simpa using hgt
  go_enter Try.func6, Try.ntmps6
  go_wp2_with fail
  refine (huffAwake w).mono ?_
  rintro e w1 ⟨rfl, hb1⟩
  go_wp2_with fail
  refine (huffAwake w1).mono ?_
  rintro e w2 ⟨rfl, hb2⟩
  go_wp2
  go_ret
  exact ⟨rfl, hb1.trans (hb2.mono hb1.size)⟩
 have x1 : decide ((2000 : Int) < (s.size : Int)) = false := by simp; omega
 have x2 : decide (2000 < s.size) = false := by simpa using hgt
 have hsl : s.data.toList.length = s.size := by simp
 obtain ⟨hE, hT⟩ := un_back s.data.toList (by omega)
 rw [hsl] at hE hT
 have hpk := fun w => huffPack s w (by omega)
 have hsm := pkT_small s.data.toList (by omega)
 have hup := fun w => huffUnpack (textB (pkT s.data.toList)) (s.size : Nat) w (by rw [textB_size]; exact hsm) (by omega) (by omega)
 rw [hE, hT, text_again] at hup
 generalize textB (pkT s.data.toList) = P at *
 have HPK := Lib.hid hpk
 have HUP := Lib.hid hup
 clear hpk hup hE hT hsm hsl
 go_enter Try.func6, Try.ntmps6
 go_wp2_with fail
 refine (huffAwake w).mono ?_
 rintro e w1 ⟨rfl, hb1⟩
 go_wp2_with fail
 refine (HPK.out w1).mono ?_
 rintro e w2 ⟨rfl, hb2⟩
 have HB2 := Lib.hid (hb1.trans (hb2.mono hb1.size))
 clear hb1 hb2
 go_wp2_with fail
 refine (HUP.out w2).mono ?_
 rintro e w3 ⟨rfl, hb3⟩
 have HB3 := Lib.hid (HB2.out.trans (hb3.mono HB2.out.size))
 clear hb3 HB2
 go_wp2_with fail
 go_ret
 exact ⟨rfl, HB3.out⟩
end Go.Proofs.Ytakdpnlohknniaa
