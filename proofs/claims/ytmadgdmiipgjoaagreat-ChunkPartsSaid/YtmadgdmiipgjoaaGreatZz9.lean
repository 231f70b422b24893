import Derived.Test.YtmadgdmiipgjoaaGreatZz8
namespace Go.Proofs.YtmadgdmiipgjoaaGreat
open Go.RowKit
set_option linter.unusedVariables false
set_option linter.unusedSimpArgs false
def setT (o : List Nat) (t : List (Nat × Nat)) : List Nat := t.foldl (fun o q => o.set q.1 (q.2 % 256)) o
theorem setT_length : ∀ (t : List (Nat × Nat)) (o : List Nat), (setT o t).length = o.length
 | [], o => rfl
 | q :: t, o => by
  show (setT (o.set q.1 (q.2 % 256)) t).length = _
  rw [setT_length t, List.length_set]
theorem setT_far : ∀ (t : List (Nat × Nat)) (o : List Nat) (i : Nat), (∀ q ∈ t, q.1 < o.length) → (∀ q ∈ t, q.1 ≠ i) → (setT o t).getD i 0 = o.getD i 0
 | [], o, i, _, _ => rfl
 | q :: t, o, i, hb, hi => by
  show (setT (o.set q.1 (q.2 % 256)) t).getD i 0 = _
  rw [setT_far t _ i (fun x hx => by rw [List.length_set]; exact hb x (by simp [hx])) (fun x hx => hi x (by simp [hx])), getD_set _ _ _ _ (hb q (by simp)), if_neg (hi q (by simp))]
theorem setT_near : ∀ (t : List (Nat × Nat)) (o : List Nat) (q : Nat × Nat), (t.map (·.1)).Nodup → (∀ x ∈ t, x.1 < o.length) → q ∈ t → (setT o t).getD q.1 0 = q.2 % 256
 | x :: t, o, q, hn, hb, hq => by
  rw [List.map_cons, List.nodup_cons] at hn
  show (setT (o.set x.1 (x.2 % 256)) t).getD q.1 0 = _
  have hb' : ∀ y ∈ t, y.1 < (o.set x.1 (x.2 % 256)).length := fun y hy => by rw [List.length_set]; exact hb y (by simp [hy])
  rcases List.mem_cons.1 hq with rfl | hq
  ·rw [setT_far t _ q.1 hb' (fun y hy e => hn.1 (by rw [← e]; exact List.mem_map.2 ⟨y, hy, rfl⟩)), getD_set _ _ _ _ (hb q (by simp)), if_pos rfl]
  ·exact setT_near t _ q hn.2 hb' hq
def lvB (ws : List Nat) : Nat → List Nat
 | 0 => []
 | k + 1 => if 0 < ws.getD k 0 then lvB ws k ++ [k] else lvB ws k
theorem lvB_all (ws : List Nat) : ∀ k, k ≤ ws.length → (lvB ws k).length = (lvs (ws.take k)).length ∧
  (∀ i, i < (lvB ws k).length → (lvB ws k).getD i 0 < k ∧ 0 < ws.getD ((lvB ws k).getD i 0) 0 ∧ (lvs (ws.take ((lvB ws k).getD i 0))).length = i) ∧
  (∀ j, j < k → 0 < ws.getD j 0 → (lvB ws k).getD (lvs (ws.take j)).length 0 = j)
 | 0, _ => ⟨rfl, fun i hi => by simp [lvB] at hi, fun j hj => by omega⟩
 | k + 1, hk => by
  obtain ⟨h1, h2, h3⟩ := lvB_all ws k (by omega)
  rw [lv_step (by omega), lvB]
  unfold lvF
  by_cases h0 : 0 < ws.getD k 0
  ·rw [if_pos h0, if_pos h0]
   have hlast : (lvB ws k ++ [k]).getD (lvs (ws.take k)).length 0 = k := by
    rw [List.getD_eq_getElem?_getD, List.getElem?_append_right (by omega), h1, Nat.sub_self]; rfl
   refine ⟨by rw [List.length_append, List.length_append, h1]; rfl, fun i hi => ?_, fun j hj hj0 => ?_⟩
   ·rw [List.length_append, List.length_singleton] at hi
    by_cases hi' : i < (lvB ws k).length
    ·rw [getD_append _ _ _ hi']
     obtain ⟨a, b, c⟩ := h2 i hi'
     exact ⟨by omega, b, c⟩
    ·obtain rfl : i = (lvs (ws.take k)).length := by omega
     rw [hlast]
     exact ⟨by omega, h0, rfl⟩
   ·by_cases hjk : j = k
    ·subst hjk; exact hlast
    ·have hlt : (lvs (ws.take j)).length < (lvB ws k).length := by
      have hg : ws[j]? = some (ws.getD j 0) := by rw [List.getD_eq_getElem?_getD, List.getElem?_eq_getElem (by omega)]; rfl
      have s1 := lvs_take hg
      unfold lvF at s1
      rw [if_pos hj0] at s1
      have s2 := lvs_mono' ws (k - (j + 1)) (j + 1)
      rw [show j + 1 + (k - (j + 1)) = k by omega, s1, List.length_append, List.length_singleton] at s2
      omega
     rw [getD_append _ _ _ hlt]
     exact h3 j (by omega) hj0
  ·rw [if_neg h0, if_neg h0]
   refine ⟨h1, fun i hi => ?_, fun j hj hj0 => ?_⟩
   ·obtain ⟨a, b, c⟩ := h2 i hi
    exact ⟨by omega, b, c⟩
   ·have : j ≠ k := fun e => h0 (e ▸ hj0)
    exact h3 j (by omega) hj0
def leafT (ws : List Nat) (x : Nat) : List (Nat × Nat) := [((lvB ws 256).getD x 0, 0)]
theorem lens_doc {ws : List Nat} (hw : ws.length = 256) (h2 : 2 ≤ (lvs ws).length) : setT (List.replicate 256 0) (trF (sortL (lvs ws)) (lvs ws).length (leafT ws)) = lensW ws := by
 obtain ⟨b1, b2, b3⟩ := lvB_all ws 256 (by omega)
 rw [List.take_of_length_le (by omega)] at b1
 have hsn := srt_num ws
 rw [List.length_replicate] at hsn
 have hle := lvs_le ws hw
 have hpl := parW_length ws
 have hp := trF_is ((lvs ws).length - 1) (sortL (lvs ws)) (lvs ws).length (leafT ws) (by rw [sortL_length]; omega) hsn
 have hflat : ∀ s : List N2, (s.flatMap fun p => deeper (dpF (sortL (lvs ws)) (lvs ws).length p.2) (leafT ws p.2)) = s.map fun p => ((lvB ws 256).getD p.2 0, 0 + dpW ws p.2) := fun s => by
  induction s with
  | nil => rfl
  | cons p s ih => rw [List.flatMap_cons, ih]; rfl
 rw [hflat] at hp
 obtain ⟨t, ht⟩ : ∃ t, t = trF (sortL (lvs ws)) (lvs ws).length (leafT ws) := ⟨_, rfl⟩
 rw [← ht] at hp ⊢
 have hin : ∀ q ∈ t, ∃ p ∈ lvs ws, q = ((lvB ws 256).getD p.2 0, 0 + dpW ws p.2) := fun q hq => by
  obtain ⟨p, hp1, hp2⟩ := List.mem_map.1 (hp.mem_iff.1 hq)
  exact ⟨p, (sortL_perm _).mem_iff.1 hp1, hp2.symm⟩
 have hb : ∀ q ∈ t, q.1 < (List.replicate 256 0).length := fun q hq => by
  obtain ⟨p, hp1, rfl⟩ := hin q hq
  rw [List.length_replicate]
  exact (b2 p.2 (by have := lvs_lt ws p hp1; omega)).1
 have hnd : (t.map (·.1)).Nodup := by
  rw [(hp.map (·.1)).nodup_iff, List.map_map]
  have h := hsn.2
  unfold List.Nodup at h ⊢
  rw [List.pairwise_map] at h ⊢
  refine h.imp_of_mem (fun {p q} hp1 hq1 hne e => hne ?_)
  have l1 := lvs_lt ws p ((sortL_perm _).mem_iff.1 hp1)
  have l2 := lvs_lt ws q ((sortL_perm _).mem_iff.1 hq1)
  have e' : (lvB ws 256).getD p.2 0 = (lvB ws 256).getD q.2 0 := e
  rw [← (b2 p.2 (by omega)).2.2, ← (b2 q.2 (by omega)).2.2, e']
 have hll := lensW_length ws hw
 apply List.ext_getElem?
 intro i
 by_cases hi : i < 256
 ·have hg : ws[i]? = some (ws.getD i 0) := by rw [List.getD_eq_getElem?_getD, List.getElem?_eq_getElem (by omega)]; rfl
  have key : (setT (List.replicate 256 0) t).getD i 0 = (lensW ws).getD i 0 := by
   rw [lensW_get hw hg]
   by_cases h0 : 0 < ws.getD i 0
   ·rw [if_pos h0]
    have hlt := lvs_at hg h0
    obtain ⟨x, hx⟩ : ∃ x, x = (lvs (ws.take i)).length := ⟨_, rfl⟩
    rw [← hx] at hlt ⊢
    have hpg := List.getElem?_eq_getElem hlt
    have hnum := (lvs_num _ ws rfl x _ hpg).1
    have hm : (i, 0 + dpW ws x) ∈ t := hp.mem_iff.2 (List.mem_map.2 ⟨_, (sortL_perm _).mem_iff.2 (List.getElem_mem hlt), by rw [hnum, hx, b3 i hi h0]⟩)
    have := setT_near t (List.replicate 256 0) _ hnd hb hm
    rw [this, depW_is ws hw h2 x (by omega)]
    have := dpW_le ws x
    rw [Nat.zero_add]
    exact Nat.mod_eq_of_lt (by omega)
   ·rw [if_neg h0, setT_far t _ i hb (fun q hq e => by
     obtain ⟨p, hp1, rfl⟩ := hin q hq
     have := (b2 p.2 (by have := lvs_lt ws p hp1; omega)).2.1
     have e' : (lvB ws 256).getD p.2 0 = i := e
     rw [e'] at this
     omega), List.getD_eq_getElem?_getD, List.getElem?_replicate, if_pos hi]
    rfl
  have l1 : (setT (List.replicate 256 0) t).length = 256 := by rw [setT_length, List.length_replicate]
  rw [List.getD_eq_getElem?_getD, List.getD_eq_getElem?_getD, List.getElem?_eq_getElem (by omega), List.getElem?_eq_getElem (by omega)] at key
  rw [List.getElem?_eq_getElem (by omega), List.getElem?_eq_getElem (by omega)]
  exact congrArg some key
 ·rw [List.getElem?_eq_none (by rw [setT_length, List.length_replicate]; omega), List.getElem?_eq_none (by omega)]
abbrev D3 := Nat × Value × Value
def dtC (x : D3) : List Value := [.int .u64 (x.1 : Int), x.2.1, x.2.2]
theorem dtC_len (x : D3) : (dtC x).length = 3 := rfl
def gone : Value → Bool
 | .slice (some _) _ _ => false
 | _ => true
def LsAt (L : List D3) (but : Int) (i : Nat) (z : Int) : Prop :=
 (z = -1 ∧ ∀ (k : Nat) (y : D3), k < i → L[k]? = some y → (k : Int) ≠ but → gone y.2.1 = true) ∨
 ∃ (j : Nat) (x : D3), z = (j : Int) ∧ j < i ∧ L[j]? = some x ∧ (j : Int) ≠ but ∧ gone x.2.1 = false ∧ ∀ (k : Nat) (y : D3), k < i → L[k]? = some y → (k : Int) ≠ but → gone y.2.1 = false → (x.1 < y.1 ∨ x.1 = y.1 ∧ j ≤ k)
theorem lsAt_zero (L : List D3) (but : Int) : LsAt L but 0 (-1) := .inl ⟨rfl, fun k y hk => absurd hk (Nat.not_lt_zero _)⟩
section
variable {L : List D3} {but : Int} {i : Nat} {z : Int} {y : D3}
theorem lsAt_skip (h : LsAt L but i z) (hy : L[i]? = some y) (hs : (i : Int) = but ∨ gone y.2.1 = true) : LsAt L but (i + 1) z := by
 rcases h with ⟨h1, h2⟩ | ⟨j, x, h1, h2, h3, h4, h5, h6⟩
 ·refine .inl ⟨h1, fun k u hk hu hb => ?_⟩
  rcases Nat.lt_succ_iff_lt_or_eq.1 hk with hk | rfl
  ·exact h2 k u hk hu hb
  ·rw [hy] at hu
   obtain rfl := Option.some.inj hu
   exact hs.resolve_left hb
 ·refine .inr ⟨j, x, h1, by omega, h3, h4, h5, fun k u hk hu hb hg => ?_⟩
  rcases Nat.lt_succ_iff_lt_or_eq.1 hk with hk | rfl
  ·exact h6 k u hk hu hb hg
  ·rw [hy] at hu
   obtain rfl := Option.some.inj hu
   rcases hs with hs | hs
   ·exact absurd hs hb
   ·rw [hs] at hg; cases hg
theorem lsAt_first (h : LsAt L but i (-1)) (hy : L[i]? = some y) (hb : (i : Int) ≠ but) (hg : gone y.2.1 = false) : LsAt L but (i + 1) (i : Int) := by
 rcases h with ⟨h1, h2⟩ | ⟨j, x, h1, _⟩
 ·refine .inr ⟨i, y, rfl, by omega, hy, hb, hg, fun k u hk hu hb' hg' => ?_⟩
  rcases Nat.lt_succ_iff_lt_or_eq.1 hk with hk | rfl
  ·rw [h2 k u hk hu hb'] at hg'; cases hg'
  ·rw [hy] at hu
   obtain rfl := Option.some.inj hu
   exact .inr ⟨rfl, Nat.le_refl _⟩
 ·omega
theorem lsAt_next {j : Nat} {x : D3} (h : LsAt L but i (j : Int)) (hx : L[j]? = some x) (hy : L[i]? = some y) (hb : (i : Int) ≠ but) (hg : gone y.2.1 = false) :
  LsAt L but (i + 1) (if y.1 < x.1 then (i : Int) else (j : Int)) := by
 rcases h with ⟨h1, _⟩ | ⟨j', x', h1, h2, h3, h4, h5, h6⟩
 ·omega
 ·obtain rfl : j = j' := by omega
  rw [hx] at h3
  obtain rfl := Option.some.inj h3
  by_cases hlt : y.1 < x.1
  ·rw [if_pos hlt]
   refine .inr ⟨i, y, rfl, by omega, hy, hb, hg, fun k u hk hu hb' hg' => ?_⟩
   rcases Nat.lt_succ_iff_lt_or_eq.1 hk with hk | rfl
   ·have := h6 k u hk hu hb' hg'
    exact .inl (by omega)
   ·rw [hy] at hu
    obtain rfl := Option.some.inj hu
    exact .inr ⟨rfl, Nat.le_refl _⟩
  ·rw [if_neg hlt]
   refine .inr ⟨j, x, rfl, by omega, hx, h4, h5, fun k u hk hu hb' hg' => ?_⟩
   rcases Nat.lt_succ_iff_lt_or_eq.1 hk with hk | rfl
   ·exact h6 k u hk hu hb' hg'
   ·rw [hy] at hu
    obtain rfl := Option.some.inj hu
    by_cases he : x.1 = y.1
    ·exact .inr ⟨he, by omega⟩
    ·exact .inl (by omega)
theorem lsAt_there {j : Nat} (h : LsAt L but i (j : Int)) : j < i ∧ ∃ x, L[j]? = some x := by
 rcases h with ⟨h1, _⟩ | ⟨j', x', h1, h2, h3, _⟩
 ·omega
 ·obtain rfl : j = j' := by omega
  exact ⟨h2, _, h3⟩
end
structure Lft (L : List D3) (s : List N2) : Prop where
 srt : SrtL s
 few : L.length ≤ 1000
 nod : (s.map (·.2)).Nodup
 at_ : ∀ p ∈ s, ∃ b d, L[p.2]? = some (p.1, b, d) ∧ gone b = false
 in_ : ∀ (j : Nat) (x : D3), L[j]? = some x → gone x.2.1 = false → (x.1, j) ∈ s
theorem kf_cmp {p q : N2} (h : kf p ≤ kf q) (hp : p.2 < 1024) (hq : q.2 < 1024) : p.1 < q.1 ∨ p.1 = q.1 ∧ p.2 ≤ q.2 := by
 unfold kf at h; omega
theorem Lft.lt {L : List D3} {s : List N2} (h : Lft L s) {p : N2} (hp : p ∈ s) : p.2 < L.length := by
 obtain ⟨b, d, h1, _⟩ := h.at_ p hp
 exact (List.getElem?_eq_some_iff.1 h1).1
theorem ls_head {L : List D3} {a : N2} {r : List N2} {z : Int} (h : Lft L (a :: r)) (hz : LsAt L (-1) L.length z) : z = (a.2 : Int) := by
 have hla := h.lt (p := a) (by simp)
 obtain ⟨b, d, ha, hg⟩ := h.at_ a (by simp)
 rcases hz with ⟨_, h2⟩ | ⟨j, x, h1, h2, h3, h4, h5, h6⟩
 ·have := h2 a.2 _ hla ha (by omega)
  rw [show (a.1, b, d).2.1 = b from rfl, hg] at this; cases this
 ·have hin := h.in_ j x h3 h5
  have hf := h.few
  have k1 := h6 a.2 _ hla ha (by omega) hg
  have k2 : x.1 = a.1 ∧ j = a.2 ∨ (a.1 < x.1 ∨ a.1 = x.1 ∧ a.2 ≤ j) := by
   rcases List.mem_cons.1 hin with e | hr
   ·exact .inl ⟨by rw [← e], by rw [← e]⟩
   ·exact .inr (kf_cmp (p := a) (q := (x.1, j)) (h.srt.1 _ hr) (by omega) (by show j < 1024; omega))
  simp only at k1
  omega
theorem ls_next {L : List D3} {a b : N2} {r : List N2} {z : Int} (h : Lft L (a :: b :: r)) (hz : LsAt L (a.2 : Int) L.length z) : z = (b.2 : Int) := by
 have hlb := h.lt (p := b) (by simp)
 have hla := h.lt (p := a) (by simp)
 have hn := h.nod
 simp only [List.map_cons, List.nodup_cons, List.mem_cons, not_or] at hn
 obtain ⟨c, d, hb, hg⟩ := h.at_ b (by simp)
 rcases hz with ⟨_, h2⟩ | ⟨j, x, h1, h2, h3, h4, h5, h6⟩
 ·have := h2 b.2 _ hlb hb (fun e => hn.1.1 (by omega))
  rw [show (b.1, c, d).2.1 = c from rfl, hg] at this; cases this
 ·have hin := h.in_ j x h3 h5
  have hf := h.few
  have k1 := h6 b.2 _ hlb hb (fun e => hn.1.1 (by omega)) hg
  have k2 : x.1 = b.1 ∧ j = b.2 ∨ (b.1 < x.1 ∨ b.1 = x.1 ∧ b.2 ≤ j) := by
   rcases List.mem_cons.1 hin with e | hr
   ·exact absurd (show (j : Int) = (a.2 : Int) by rw [← e]) h4
   ·rcases List.mem_cons.1 hr with e | hr
    ·exact .inl ⟨by rw [← e], by rw [← e]⟩
    ·exact .inr (kf_cmp (p := b) (q := (x.1, j)) (h.srt.2.1 _ hr) (by omega) (by show j < 1024; omega))
  simp only at k1
  omega
theorem nilNo (A : Addr) (n c : Nat) (w : World) : (binOp .neq 49 (.slice (some A) n c) (.slice none 0 0)).run Tryz.prog w = .ok (.bool true) w := by kernel_rfl
theorem nilYes (n c : Nat) (w : World) : (binOp .neq 49 (.slice none n c) (.slice none 0 0)).run Tryz.prog w = .ok (.bool false) w := by kernel_rfl
theorem nilGuard : Tryz.prog.eqGuardType Tryz.prog.depth 49 = false := by kernel_rfl
set_option maxHeartbeats 2000000 in
set_option maxRecDepth 100000 in
theorem refLeast (A : Option Addr) (c : Nat) (L : List D3) (but : Int) (w : World) (hs : SeqS w 3 (.slice A L.length c) L.length (rowsOf dtC L)) (hl : L.length ≤ 1000) (hv : ∀ x ∈ L, ∃ B n c, x.2.1 = .slice B n c) :
  Calls Tryz.prog 85 #[.slice A L.length c, .int .i64 but] w fun e w' => ∃ z, e = .returned (.int .i64 z) ∧ LsAt L but L.length z ∧ ∃ m, w' = w.drewN m := by
 have HS := Lib.hid hs
 have HV := Lib.hid hv
 obtain ⟨n, hn⟩ : ∃ n, n = L.length := ⟨_, rfl⟩
 have HN := Lib.hid hn
 have H0 := Lib.hid (lsAt_zero L but)
 rw [← hn] at hl ⊢
 rw [← hn] at HS
 clear hs hv hn
 go_enter Tryz.func85, Tryz.ntmps85
 go_wp2
 go_loopw [5, 6] (fun t u wr => ∃ (i : Nat) (z : Int), i ≤ n ∧ u = .int .i64 i ∧ t = .int .i64 z ∧ Hid (LsAt L but i z) ∧ ∃ m, wr = w.drewN m) (fun _ u _ => n - (intOf u).toNat)
 case atStart => exact ⟨0, -1, by omega, rfl, rfl, H0, 0, rfl⟩
 case round =>
  clear H0
  obtain ⟨i, z, hi, rfl, rfl, hz, nd, rfl⟩ := hrel
  by_cases hlt : i < n
  ·have hii : (i : Int) < (n : Int) := by omega
   obtain ⟨y, hy⟩ : ∃ y, L[i]? = some y := ⟨_, List.getElem?_eq_getElem (by rw [← HN.out]; exact hlt)⟩
   have HY := Lib.hid hy
   obtain ⟨Bv, nv, cv, hyv⟩ := HV.out y (List.mem_of_getElem? hy)
   by_cases hb : (i : Int) = but
   ·have HZ := Lib.hid (lsAt_skip hz.out hy (.inl hb))
    clear hy hz
    subst hb
    go_wp2
    go_quiet (fail)
    go_wp2
    go_roundw
    case rel => exact ⟨i + 1, z, by omega, by go_num, rfl, HZ, _, rfl⟩
    case measure => simp [intOf]; omega
   ·have hbb : ((i : Int) != but) = true := by simpa using hb
    have hng := nilGuard
    obtain ⟨b, off, rfl, _, hc⟩ := SeqS.at_ dtC_len (by decide) HS.out hy
    have c0 := hc 0 _ (by decide) rfl
    have c1 := hc 1 _ (by decide) rfl
    rw [Nat.add_zero] at c0
    clear hc
    rw [hyv] at c1
    cases Bv with
    | none =>
     have hq := nilYes nv cv
     have HZ := Lib.hid (lsAt_skip hz.out hy (.inr (by rw [hyv]; rfl)))
     clear hy hz c0
     go_wp2
     go_quiet (fail)
     go_wp2
     go_roundw
     case rel => exact ⟨i + 1, z, by omega, by go_num, rfl, HZ, _, rfl⟩
     case measure => simp [intOf]; omega
    | some Ba =>
     have hq := nilNo Ba nv cv
     have hg : gone y.2.1 = false := by rw [hyv]; rfl
     by_cases hz0 : z < 0
     ·have hz1 : z = -1 := by
       rcases hz.out with ⟨h, _⟩ | ⟨j, _, h, _⟩
       ·exact h
       ·omega
      subst hz1
      have HZ := Lib.hid (lsAt_first hz.out hy hb hg)
      clear hy hz c0 hz0 hg
      go_wp2
      go_quiet (fail)
      go_wp2
      go_roundw
      case rel => exact ⟨i + 1, (i : Int), by omega, by go_num, rfl, HZ, _, rfl⟩
      case measure => simp [intOf]; omega
     ·obtain ⟨j, rfl⟩ : ∃ j : Nat, z = (j : Int) := ⟨z.toNat, by omega⟩
      obtain ⟨hji, x, hx⟩ := lsAt_there hz.out
      have hjn : (j : Int) < (n : Int) := by omega
      obtain ⟨b2, off2, hA, _, hc2⟩ := SeqS.at_ dtC_len (by decide) HS.out hx
      have d0 := hc2 0 _ (by decide) rfl
      rw [Nat.add_zero] at d0
      simp only [Option.some.injEq, Addr.mk.injEq, and_true] at hA
      obtain ⟨rfl, rfl⟩ := hA
      have hnx := lsAt_next hz.out hx hy hb hg
      obtain ⟨y1, hy1⟩ : ∃ y1, y.1 = y1 := ⟨_, rfl⟩
      obtain ⟨x1, hx1⟩ : ∃ x1, x.1 = x1 := ⟨_, rfl⟩
      rw [hy1, hx1] at hnx
      rw [hy1] at c0
      rw [hx1] at d0
      have HZ := Lib.hid hnx
      clear hy hz hg hc2 hx hz0 hy1 hx1 hnx
      have x0 : decide ((j : Int) < 0) = false := by simp
      by_cases hlt2 : y1 < x1
      ·have x1 : decide ((y1 : Int) < (x1 : Int)) = true := by simp; omega
       have HZ2 : Hid (LsAt L but (i + 1) (i : Int)) := by have := HZ.out; rwa [if_pos hlt2] at this
       clear HZ
       go_wp2
       go_quiet (fail)
       go_wp2
       go_roundw
       case rel => exact ⟨i + 1, (i : Int), by omega, by go_num, rfl, HZ2, _, rfl⟩
       case measure => simp [intOf]; omega
      ·have x1 : decide ((y1 : Int) < (x1 : Int)) = false := by simp; omega
       have HZ2 : Hid (LsAt L but (i + 1) (j : Int)) := by have := HZ.out; rwa [if_neg hlt2] at this
       clear HZ
       go_wp2
       go_quiet (fail)
       go_wp2
       go_roundw
       case rel => exact ⟨i + 1, (j : Int), by omega, by go_num, rfl, HZ2, _, rfl⟩
       case measure => simp [intOf]; omega
  ·obtain rfl : i = n := by omega
   have HZ := Lib.hid hz.out
   clear hz
   go_wp2
   go_ret
   exact ⟨_, rfl, by rw [HN.out] at HZ; rw [HN.out]; exact HZ.out, nd, rfl⟩
theorem infoTree : (Tryz.prog.info? 125).map (fun i => (i.zero, i.size, i.bytes)) = some (some (.agg #[.int .u64 0, .slice none 0 0, .slice none 0 0]), 3, 56) := by kernel_rfl
def TrB (w : World) (B : Nat) (t : List (Nat × Nat)) (b d : Value) : Prop :=
 w.ownsRow B 3 1 b t.length (cI (t.map (·.1))) ∧ w.ownsRow B 3 1 d t.length (cI (t.map (·.2)))
section
variable {w w' : World} {B : Nat} {t : List (Nat × Nat)} {b d : Value}
theorem TrB.below (h : TrB w B t b d) (k : Below w.heap.size w w') : TrB w' B t b d := ⟨owned_below h.1 k, owned_below h.2 k⟩
theorem TrB.kept {S : Nat → Prop} (h : TrB w B t b d) (k : Kept S w w') (hs : ∀ r cur, S r → ¬ Lies w r 3 cur) : TrB w' B t b d :=
 ⟨owns_kept h.1 k (fun r cur _ hl hr => hs r cur hr hl), owns_kept h.2 k (fun r cur _ hl hr => hs r cur hr hl)⟩
theorem own_gone {n : Nat} {e : TypeId} {sz : Nat} {v : Value} {xs : List Value} (h : w.ownsRow B e sz v n xs) (hn : 0 < n) : gone v = false := by
 rcases owns_row h with ⟨_, h0, _⟩ | ⟨r, cap, cur, rfl, _⟩
 ·omega
 ·rfl
theorem lit_own (w : World) (e : TypeId) (x : Value) (hB : B ≤ w.heap.size) : (w.alloc (.cells #[x] e)).ownsRow B e 1 (.slice (some ⟨w.heap.size, 0, none⟩) 1 1) 1 [x] :=
 ⟨rfl, .inr ⟨w.heap.size, 1, #[x], rfl, hB, heap_alloc_new w _, Nat.le_refl _, by unfold maxLen; omega, rfl, rfl⟩⟩
end
structure DtAt (w : World) (B : Nat) (v : Value) (L : List D3) (s : List N2) (T : Nat → List (Nat × Nat)) (n0 : Nat) : Prop where
 row : w.ownsRow B 125 3 v L.length (rowsOf dtC L)
 lft : Lft L s
 tr : ∀ p ∈ s, p.1 < 18446744073709551616 ∧ 0 < (T p.2).length ∧ (∀ q ∈ T p.2, q.1 < 256 ∧ q.2 ≤ L.length) ∧ ∃ b d, L[p.2]? = some (p.1, b, d) ∧ TrB w B (T p.2) b d
 sl : ∀ x ∈ L, (∃ A n c, x.2.1 = .slice A n c) ∧ ∃ A n c, x.2.2 = .slice A n c
 sum : (s.map fun p => (T p.2).length).sum ≤ 256
 last : L.length - 1 ∈ s.map (·.2)
 len : L.length + s.length = 2 * n0
def mrgD (L : List D3) (a b : N2) (da db : Value) (sm : Nat) (vb vd : Value) : List D3 :=
 ((L.set a.2 (a.1, .slice none 0 0, da)).set b.2 (b.1, .slice none 0 0, db)) ++ [(sm, vb, vd)]
theorem mrgD_length (L : List D3) (a b : N2) (da db : Value) (sm : Nat) (vb vd : Value) : (mrgD L a b da db sm vb vd).length = L.length + 1 := by simp [mrgD]
section
variable {L : List D3} {a b : N2} {r : List N2} {da db vb vd : Value} {sm : Nat}
theorem mrgD_old {j : Nat} (hj : j < L.length) (h1 : j ≠ a.2) (h2 : j ≠ b.2) : (mrgD L a b da db sm vb vd)[j]? = L[j]? := by
 unfold mrgD
 rw [List.getElem?_append_left (by simp; exact hj), List.getElem?_set_ne (Ne.symm h2), List.getElem?_set_ne (Ne.symm h1)]
theorem mrgD_new : (mrgD L a b da db sm vb vd)[L.length]? = some (sm, vb, vd) := by
 unfold mrgD
 rw [List.getElem?_append_right (by simp)]; simp
theorem mrgD_gone {j : Nat} {x : D3} (hj : j = a.2 ∨ j = b.2) (ha : a.2 < L.length) (hb : b.2 < L.length) (h : (mrgD L a b da db sm vb vd)[j]? = some x) : gone x.2.1 = true := by
 unfold mrgD at h
 rw [List.getElem?_append_left (by simp; omega)] at h
 by_cases h2 : b.2 = j
 ·rw [h2, List.getElem?_set_self (by simp; omega)] at h
  rw [← Option.some.inj h]; rfl
 ·rw [List.getElem?_set_ne h2] at h
  have h1 : a.2 = j := by omega
  rw [h1, List.getElem?_set_self (by omega)] at h
  rw [← Option.some.inj h]; rfl
theorem lft_step (h : Lft L (a :: b :: r)) (hl : L.length < 1000) (hv : gone vb = false) : Lft (mrgD L a b da db sm vb vd) (insL (sm, L.length) r) := by
 have hla := h.lt (p := a) (by simp)
 have hlb := h.lt (p := b) (by simp)
 have hn := h.nod
 simp only [List.map_cons, List.nodup_cons, List.mem_cons, not_or] at hn
 have hne : ∀ p ∈ r, p.2 ≠ a.2 ∧ p.2 ≠ b.2 := fun p hp => ⟨fun e => hn.1.2 (by rw [← e]; exact List.mem_map.2 ⟨p, hp, rfl⟩), fun e => hn.2.1 (by rw [← e]; exact List.mem_map.2 ⟨p, hp, rfl⟩)⟩
 refine ⟨insL_srt _ _ h.srt.2.2, by rw [mrgD_length]; omega, ?_, fun p hp => ?_, fun j x hj hg => ?_⟩
 ·exact (numOk_step (a := a) (b := b) (num := L.length) (w := sm) ⟨fun p hp => h.lt hp, h.nod⟩).2
 ·rcases List.mem_cons.1 ((insL_perm _ _).mem_iff.1 hp) with rfl | hp
  ·exact ⟨vb, vd, mrgD_new, hv⟩
  ·obtain ⟨c, d, h1, h2⟩ := h.at_ p (by simp [hp])
   have h3 := hne p hp
   exact ⟨c, d, by rw [mrgD_old (h.lt (by simp [hp])) h3.1 h3.2, h1], h2⟩
 ·have hjl : j < L.length + 1 := by
   have := (List.getElem?_eq_some_iff.1 hj).1
   rwa [mrgD_length] at this
  by_cases hjn : j = L.length
  ·subst hjn
   rw [mrgD_new] at hj
   rw [← Option.some.inj hj]
   exact (insL_perm _ _).mem_iff.2 (by simp)
  ·by_cases h12 : j = a.2 ∨ j = b.2
   ·rw [mrgD_gone h12 hla hlb hj] at hg; cases hg
   ·rw [mrgD_old (by omega) (fun e => h12 (.inl e)) (fun e => h12 (.inr e))] at hj
    have := h.in_ j x hj hg
    rcases List.mem_cons.1 this with e | h3
    ·exact absurd (.inl (by rw [← e])) h12
    ·rcases List.mem_cons.1 h3 with e | h3
     ·exact absurd (.inr (by rw [← e])) h12
     ·exact (insL_perm _ _).mem_iff.2 (by simp [h3])
theorem joinT_length (x y : List (Nat × Nat)) : (joinT x y).length = x.length + y.length := by simp [joinT]
theorem DtAt.step {w w' : World} {B n0 : Nat} {v v' : Value} {T : Nat → List (Nat × Nat)} (h : DtAt w B v L (a :: b :: r) T n0) (hn0 : n0 ≤ 256) (hsm : sm < 18446744073709551616)
  (hda : ∃ A n c, da = .slice A n c) (hdb : ∃ A n c, db = .slice A n c)
  (hrow : w'.ownsRow B 125 3 v' (L.length + 1) (rowsOf dtC (mrgD L a b da db sm vb vd)))
  (hold : ∀ t x y, TrB w B t x y → TrB w' B t x y) (hnew : TrB w' B (joinT (T a.2) (T b.2)) vb vd) :
  DtAt w' B v' (mrgD L a b da db sm vb vd) (insL (sm, L.length) r) (putT T L.length (joinT (T a.2) (T b.2))) n0 := by
 have hlen := h.len
 simp only [List.length_cons] at hlen
 have hta := h.tr a (by simp)
 have htb := h.tr b (by simp)
 have hjl := joinT_length (T a.2) (T b.2)
 have hvb : gone vb = false := own_gone hnew.1 (by omega)
 have hput : ∀ p ∈ r, putT T L.length (joinT (T a.2) (T b.2)) p.2 = T p.2 := fun p hp => by
  have := h.lft.lt (p := p) (by simp [hp])
  unfold putT; rw [if_neg (by omega)]
 have hself : putT T L.length (joinT (T a.2) (T b.2)) L.length = joinT (T a.2) (T b.2) := by unfold putT; rw [if_pos rfl]
 have hn := h.lft.nod
 simp only [List.map_cons, List.nodup_cons, List.mem_cons, not_or] at hn
 refine ⟨by rw [mrgD_length]; exact hrow, lft_step h.lft (by omega) hvb, fun p hp => ?_, fun x hx => ?_, ?_, ?_, ?_⟩
 ·rw [mrgD_length]
  rcases List.mem_cons.1 ((insL_perm _ _).mem_iff.1 hp) with rfl | hp
  ·simp only
   rw [hself]
   refine ⟨hsm, by omega, fun q hq => ?_, vb, vd, mrgD_new, hnew⟩
   obtain ⟨q', hq', rfl⟩ := List.mem_map.1 hq
   rcases List.mem_append.1 hq' with h3 | h3
   ·have := hta.2.2.1 q' h3
    exact ⟨this.1, by show q'.2 + 1 ≤ _; omega⟩
   ·have := htb.2.2.1 q' h3
    exact ⟨this.1, by show q'.2 + 1 ≤ _; omega⟩
  ·have hp' : p ∈ a :: b :: r := by simp [hp]
   obtain ⟨h1, h2, h3, x, y, h4, h5⟩ := h.tr p hp'
   rw [hput p hp]
   refine ⟨h1, h2, fun q hq => ⟨(h3 q hq).1, by have := (h3 q hq).2; omega⟩, x, y, ?_, hold _ _ _ h5⟩
   rw [mrgD_old (h.lft.lt hp') (fun e => hn.1.2 (by rw [← e]; exact List.mem_map.2 ⟨p, hp, rfl⟩)) (fun e => hn.2.1 (by rw [← e]; exact List.mem_map.2 ⟨p, hp, rfl⟩)), h4]
 ·unfold mrgD at hx
  rcases List.mem_append.1 hx with hx | hx
  ·rcases List.mem_or_eq_of_mem_set hx with hx | rfl
   ·rcases List.mem_or_eq_of_mem_set hx with hx | rfl
    ·exact h.sl x hx
    ·exact ⟨⟨_, _, _, rfl⟩, hda⟩
   ·exact ⟨⟨_, _, _, rfl⟩, hdb⟩
  ·rw [List.mem_singleton] at hx
   subst hx
   refine ⟨?_, ?_⟩
   ·rcases owns_row hnew.1 with ⟨h3, _⟩ | ⟨_, _, _, h3, _⟩ <;> exact ⟨_, _, _, h3⟩
   ·rcases owns_row hnew.2 with ⟨h3, _⟩ | ⟨_, _, _, h3, _⟩ <;> exact ⟨_, _, _, h3⟩
 ·have hs := h.sum
  rw [((insL_perm (sm, L.length) r).map _).sum_nat]
  simp only [List.map_cons, List.sum_cons] at hs ⊢
  rw [hself, hjl]
  have : (r.map fun p => (putT T L.length (joinT (T a.2) (T b.2)) p.2).length) = r.map fun p => (T p.2).length := List.map_congr_left fun p hp => by rw [hput p hp]
  rw [this]
  omega
 ·rw [mrgD_length, Nat.add_sub_cancel]
  exact List.mem_map.2 ⟨(sm, L.length), (insL_perm _ _).mem_iff.2 (by simp), rfl⟩
 ·rw [mrgD_length, insL_length]
  omega
theorem DtAt.below {w w' : World} {B n0 : Nat} {v : Value} {L : List D3} {s : List N2} {T : Nat → List (Nat × Nat)} (h : DtAt w B v L s T n0) (k : Below w.heap.size w w') : DtAt w' B v L s T n0 :=
 ⟨owned_below h.row k, h.lft, fun p hp => by
  obtain ⟨h1, h2, h3, x, y, h4, h5⟩ := h.tr p hp
  exact ⟨h1, h2, h3, x, y, h4, h5.below k⟩, h.sl, h.sum, h.last, h.len⟩
end
structure LvAt (w : World) (B : Nat) (v : Value) (ws : List Nat) (i : Nat) (L : List D3) : Prop where
 row : w.ownsRow B 125 3 v L.length (rowsOf dtC L)
 len : L.length = (lvs (ws.take i)).length
 tr : ∀ p ∈ lvs (ws.take i), ∃ b d, L[p.2]? = some (p.1, b, d) ∧ TrB w B (leafT ws p.2) b d
 sl : ∀ x ∈ L, (∃ A n c, x.2.1 = .slice A n c) ∧ ∃ A n c, x.2.2 = .slice A n c
section
variable {w w' : World} {B : Nat} {v v' : Value} {ws : List Nat} {i n : Nat} {L : List D3} {b d : Value}
theorem LvAt.skip (h : LvAt w B v ws i L) (hn : ws[i]? = some n) (h0 : ¬ 0 < n) : LvAt w B v ws (i + 1) L := by
 have e : lvs (ws.take (i + 1)) = lvs (ws.take i) := by rw [lvs_take hn]; unfold lvF; rw [if_neg h0]
 exact ⟨h.row, by rw [e]; exact h.len, by rw [e]; exact h.tr, h.sl⟩
theorem LvAt.take (h : LvAt w B v ws i L) (hw : ws.length = 256) (hn : ws[i]? = some n) (h0 : 0 < n)
  (hrow : w'.ownsRow B 125 3 v' (L.length + 1) (rowsOf dtC L ++ [.int .u64 (n : Int), b, d])) (hold : ∀ t x y, TrB w B t x y → TrB w' B t x y) (hnew : TrB w' B [(i, 0)] b d) :
  LvAt w' B v' ws (i + 1) (L ++ [(n, b, d)]) := by
 have hi : i < 256 := by rw [← hw]; exact (List.getElem?_eq_some_iff.1 hn).1
 have e : lvs (ws.take (i + 1)) = lvs (ws.take i) ++ [(n, L.length)] := by rw [lvs_take hn, h.len]; unfold lvF; rw [if_pos h0]
 have hb := (lvB_all ws 256 (by omega)).2.2 i hi (by rw [List.getD_eq_getElem?_getD, hn]; exact h0)
 rw [← h.len] at hb
 refine ⟨?_, ?_, ?_, ?_⟩
 ·rw [List.length_append, rowsOf_append, rowsOf_one]; exact hrow
 ·rw [e, List.length_append, List.length_append, h.len]; rfl
 ·rw [e]
  intro p hp
  rcases List.mem_append.1 hp with hp | hp
  ·obtain ⟨x, y, h1, h2⟩ := h.tr p hp
   exact ⟨x, y, by rw [List.getElem?_append_left (List.getElem?_eq_some_iff.1 h1).1]; exact h1, hold _ _ _ h2⟩
  ·rw [List.mem_singleton] at hp
   subst hp
   refine ⟨b, d, by rw [List.getElem?_append_right (Nat.le_refl _)]; simp, ?_⟩
   show TrB w' B [((lvB ws 256).getD L.length 0, 0)] b d
   rw [hb]; exact hnew
 ·intro x hx
  rcases List.mem_append.1 hx with hx | hx
  ·exact h.sl x hx
  ·rw [List.mem_singleton] at hx
   subst hx
   refine ⟨?_, ?_⟩
   ·rcases owns_row hnew.1 with ⟨h3, _⟩ | ⟨_, _, _, h3, _⟩ <;> exact ⟨_, _, _, h3⟩
   ·rcases owns_row hnew.2 with ⟨h3, _⟩ | ⟨_, _, _, h3, _⟩ <;> exact ⟨_, _, _, h3⟩
theorem LvAt.done (h : LvAt w B v ws 256 L) (hw : WOk ws) (h1 : 1 ≤ (lvs ws).length) : DtAt w B v L (sortL (lvs ws)) (leafT ws) (lvs ws).length := by
 have htk : ws.take 256 = ws := List.take_of_length_le (by rw [hw.1]; exact Nat.le_refl _)
 have hlen := h.len
 have htr := h.tr
 rw [htk] at hlen htr
 have hle := lvs_le ws hw.1
 have hsn := srt_num ws
 rw [List.length_replicate] at hsn
 have hlb := lvB_all ws 256 (by rw [hw.1]; exact Nat.le_refl _)
 rw [htk] at hlb
 have hmem : ∀ p, p ∈ sortL (lvs ws) ↔ p ∈ lvs ws := fun p => (sortL_perm _).mem_iff
 have hat : ∀ j, j < L.length → ∃ p ∈ lvs ws, p.2 = j := fun j hj => by
  have hg := List.getElem?_eq_getElem (l := lvs ws) (i := j) (by omega)
  exact ⟨_, List.mem_of_getElem? hg, (lvs_num _ ws rfl j _ hg).1⟩
 refine ⟨h.row, ⟨sortL_srt _, by omega, hsn.2, fun p hp => ?_, fun j x hj hg => ?_⟩, fun p hp => ?_, h.sl, ?_, ?_, ?_⟩
 ·obtain ⟨x, y, h2, h3⟩ := htr p ((hmem p).1 hp)
  exact ⟨x, y, h2, own_gone h3.1 (Nat.lt_succ_self 0)⟩
 ·obtain ⟨p, hp, rfl⟩ := hat j (List.getElem?_eq_some_iff.1 hj).1
  obtain ⟨x', y', h2, _⟩ := htr p hp
  rw [h2] at hj
  rw [← Option.some.inj hj]
  exact (hmem p).2 hp
 ·have hp' := (hmem p).1 hp
  obtain ⟨k, hk, he⟩ := List.getElem_of_mem hp'
  have h2 := (lvs_num _ ws rfl k p (by rw [List.getElem?_eq_getElem hk, he])).2
  have h3 := lvs_lt ws p hp'
  refine ⟨hw.2 _ h2, Nat.lt_succ_self 0, fun q hq => ?_, htr p hp'⟩
  rw [leafT, List.mem_singleton] at hq
  subst hq
  exact ⟨(hlb.2.1 p.2 (by omega)).1, Nat.zero_le _⟩
 ·have : ((sortL (lvs ws)).map fun p => (leafT ws p.2).length) = (sortL (lvs ws)).map fun _ => 1 := rfl
  rw [this, List.map_const', List.sum_replicate_nat, sortL_length]
  omega
 ·obtain ⟨p, hp, he⟩ := hat (L.length - 1) (by omega)
  exact List.mem_map.2 ⟨p, (hmem p).2 hp, he⟩
 ·rw [sortL_length]; omega
theorem lens_one (hw : WOk ws) (h1 : (lvs ws).length = 1) : (List.replicate 256 0).set ((lvB ws 256).getD 0 0) 1 = lensW ws := by
 have htk : ws.take 256 = ws := List.take_of_length_le (by rw [hw.1]; exact Nat.le_refl _)
 have hlb := lvB_all ws 256 (by rw [hw.1]; exact Nat.le_refl _)
 rw [htk] at hlb
 obtain ⟨hx1, hx2, hx3⟩ := hlb.2.1 0 (by omega)
 obtain ⟨x, hx⟩ : ∃ x, x = (lvB ws 256).getD 0 0 := ⟨_, rfl⟩
 rw [← hx] at hx1 hx2 hx3 ⊢
 have hll := lensW_length ws hw.1
 apply List.ext_getElem?
 intro i
 by_cases hi : i < 256
 ·have hg : ws[i]? = some (ws.getD i 0) := by rw [List.getD_eq_getElem?_getD, List.getElem?_eq_getElem (by rw [hw.1]; exact hi)]; rfl
  have key : ((List.replicate 256 0).set x 1).getD i 0 = (lensW ws).getD i 0 := by
   rw [lensW_get hw.1 hg, getD_set _ _ _ _ (by rw [List.length_replicate]; exact hx1)]
   by_cases hxi : x = i
   ·subst hxi
    rw [if_pos rfl, if_pos hx2, hx3, depW_one ws h1]
   ·rw [if_neg hxi]
    have hz : (List.replicate 256 0).getD i 0 = 0 := by rw [List.getD_eq_getElem?_getD, List.getElem?_replicate, if_pos hi]; rfl
    rw [hz]
    by_cases h0 : 0 < ws.getD i 0
    ·exfalso
     have h2 := hlb.2.2 i hi h0
     have h3 := lvs_at hg h0
     rw [show (lvs (ws.take i)).length = 0 by omega, ← hx] at h2
     exact hxi h2
    ·rw [if_neg h0]
  have l1 : ((List.replicate 256 0).set x 1).length = 256 := by rw [List.length_set, List.length_replicate]
  rw [List.getD_eq_getElem?_getD, List.getD_eq_getElem?_getD, List.getElem?_eq_getElem (by omega), List.getElem?_eq_getElem (by omega)] at key
  rw [List.getElem?_eq_getElem (by omega), List.getElem?_eq_getElem (by omega)]
  exact congrArg some key
 ·rw [List.getElem?_eq_none (by rw [List.length_set, List.length_replicate]; omega), List.getElem?_eq_none (by omega)]
theorem lens_none (hw : WOk ws) (h0 : (lvs ws).length = 0) : List.replicate 256 0 = lensW ws := by
 have hll := lensW_length ws hw.1
 apply List.ext_getElem?
 intro i
 by_cases hi : i < 256
 ·have hg : ws[i]? = some (ws.getD i 0) := by rw [List.getD_eq_getElem?_getD, List.getElem?_eq_getElem (by rw [hw.1]; exact hi)]; rfl
  have key : (List.replicate 256 0).getD i 0 = (lensW ws).getD i 0 := by
   rw [lensW_get hw.1 hg, if_neg (fun h => by have := lvs_at hg h; omega), List.getD_eq_getElem?_getD, List.getElem?_replicate, if_pos hi]; rfl
  rw [List.getD_eq_getElem?_getD, List.getD_eq_getElem?_getD, List.getElem?_eq_getElem (by rw [List.length_replicate]; omega), List.getElem?_eq_getElem (by omega)] at key
  rw [List.getElem?_eq_getElem (by rw [List.length_replicate]; omega), List.getElem?_eq_getElem (by omega)]
  exact congrArg some key
 ·rw [List.getElem?_eq_none (by rw [List.length_replicate]; omega), List.getElem?_eq_none (by omega)]
end
set_option maxHeartbeats 2000000 in
set_option maxRecDepth 100000 in
theorem refCodes (ls : List Nat) (w : World) (h : LOk ls) :
  Calls Tryz.prog 52 #[.agg (c8 ls).toArray] w fun e w' => e = .returned (.agg (cells64 (codL ls)).toArray) ∧ Below w.heap.size w w' := by
 have hlen : (c8 ls).length = 256 := by rw [c8_length]; exact h.1
 obtain ⟨L, hL⟩ : ∃ L, L = c8 ls := ⟨_, rfl⟩
 rw [← hL] at hlen ⊢
 have HLq := Lib.hid hL
 have H := Lib.hid h
 obtain ⟨Z, hZ⟩ : ∃ Z, Z = cells64 (List.replicate 256 0) := ⟨_, rfl⟩
 have hz := zero64
 have hzz : (Array.replicate 256 (Value.int .u64 0)) = Z.toArray := by rw [hZ]; unfold cells64; rw [List.map_replicate]; exact (List.toArray_replicate 256 _).symm
 rw [hzz] at hz
 have hzl : Z.length = 256 := by rw [hZ, c64_length, List.length_replicate]
 have HZ := Lib.hid hZ
 have HZL := Lib.hid hzl
 have l0 := ((Lies.made w 78 L.toArray).alloc (.cells Z.toArray 80)).alloc (.cells Z.toArray 80)
 have l1 := (Lies.made (w.alloc (.cells L.toArray 78)) 80 Z.toArray).alloc (.cells Z.toArray 80)
 have l2 := Lies.made ((w.alloc (.cells L.toArray 78)).alloc (.cells Z.toArray 80)) 80 Z.toArray
 rw [show (w.alloc (.cells L.toArray 78)).heap.size = w.heap.size + 1 by simp] at l1
 rw [show ((w.alloc (.cells L.toArray 78)).alloc (.cells Z.toArray 80)).heap.size = w.heap.size + 1 + 1 by simp] at l2
 have hb1 := (((Below.refl w.heap.size w).alloc (Nat.le_refl _) (.cells L.toArray 78)).alloc (by simp) (.cells Z.toArray 80)).alloc (by simp; omega) (.cells Z.toArray 80)
 have hsz : (((w.alloc (.cells L.toArray 78)).alloc (.cells Z.toArray 80)).alloc (.cells Z.toArray 80)).heap.size = w.heap.size + 3 := by simp
 have L0 := Lib.hid l0
 have L1 := Lib.hid l1
 have L2 := Lib.hid l2
 have HB1 := Lib.hid hb1
 have HSZ := Lib.hid hsz
 clear hL h hZ hzz hzl l0 l1 l2 hb1 hsz
 go_enter Tryz.func52, Tryz.ntmps52
 go_wp2_with fail
 generalize ((w.alloc (.cells L.toArray 78)).alloc (.cells Z.toArray 80)).alloc (.cells Z.toArray 80) = w1 at *
 clear hz
 go_loopw [4, 5] (fun co t wr => ∃ k : Nat, 1 ≤ k ∧ k ≤ 57 ∧ t = .int .u8 k ∧ co = .int .u64 (aft ls k : Nat) ∧ Lies wr (w.heap.size + 1 + 1) 80 (cells64 (cdP ls k 0)).toArray ∧ Kept (oneRow (w.heap.size + 1 + 1)) w1 wr)
  (fun _ t _ => 57 - (intOf t).toNat)
 case atStart => exact ⟨1, by omega, by omega, rfl, rfl, by rw [← cdP_next ls 0 H.out.1]; show Lies _ _ _ (cells64 (cdP ls 0 0)).toArray; rw [cdP_start, ← HZ.out]; exact L2.out, Kept.refl _ _⟩
 case round =>
  obtain ⟨k, hk1, hk, rfl, rfl, lc, hkk⟩ := hrel
  have LC := Lib.hid lc
  have HK := Lib.hid hkk
  clear lc hkk
  by_cases hlt : k < 57
  ·have hki : (k : Int) ≤ 56 := by omega
   have hal := aft_lt ls k
   have hat := aft_two ls k
   have haf : aft ls (k + 1) = (fcM ls k + ls.count k) % M64' := by show (fcM ls k + if k = 0 then 0 else ls.count k) % M64' = _; rw [if_neg (by omega)]
   have hfl := fcM_lt ls k
   have hcx := cdP_next ls k H.out.1
   rw [if_neg (by omega)] at hcx
   unfold M64' at hat haf hfl
   obtain ⟨F, hF⟩ : ∃ F, F = fcM ls k := ⟨_, rfl⟩
   rw [← hF] at hat haf hfl
   have hsh : IntKind.u64.wrap ((aft ls k : Nat) * (2 : Int)) = (F : Int) := by rw [IntKind.wrap_u64]; omega
   have HAF := Lib.hid haf
   have HCX := Lib.hid hcx
   have HF := Lib.hid hF
   clear hat haf hcx hF
   generalize aft ls k = a0 at *
   go_wp2_with fail
   go_loopw [4, 6] (fun co t wq => ∃ i : Nat, i ≤ 256 ∧ t = .int .i64 i ∧ co = .int .u64 (((F + ct ls k i) % 18446744073709551616 : Nat) : Int) ∧ Lies wq (w.heap.size + 1 + 1) 80 (cells64 (cdP ls k (ct ls k i))).toArray ∧ Kept (oneRow (w.heap.size + 1 + 1)) w1 wq)
    (fun _ t _ => 256 - (intOf t).toNat)
   case atStart => exact ⟨0, by omega, rfl, by rw [ct_zero, Nat.add_zero, Nat.mod_eq_of_lt hfl], by rw [ct_zero]; exact LC.out, HK.out⟩
   case round =>
    clear LC HK
    obtain ⟨i, hi, rfl, rfl, lc, hkk⟩ := hrel
    have LC := Lib.hid lc
    have HK := Lib.hid hkk
    have L0w := Lib.hid (L0.out.kept hkk (fun e => by have h1 : w.heap.size = w.heap.size + 1 + 1 := e; omega))
    clear lc hkk
    by_cases hi2 : i < 256
    ·have hii : (i : Int) < 256 := by omega
     obtain ⟨n, hn, hn56⟩ := H.out.get hi2
     have hcs := ct_step k hn
     have cn : wr.cell? ⟨w.heap.size, i, none⟩ = some (.int .u8 (n : Int)) := (L0w.out.cell i).trans (by rw [HLq.out]; exact c8_get' hn)
     obtain ⟨r, hr⟩ : ∃ r, r = ct ls k i := ⟨_, rfl⟩
     rw [← hr] at hcs LC ⊢
     obtain ⟨X, hX⟩ : ∃ X, X = (F + r) % 18446744073709551616 := ⟨_, rfl⟩
     have hXl : X < 18446744073709551616 := by rw [hX]; exact Nat.mod_lt _ (by decide)
     have HX := Lib.hid hX
     by_cases hnk : n = k
     ·subst hnk
      rw [if_pos rfl] at hcs
      have hX1 : IntKind.u64.wrap ((X : Int) + 1) = (((F + (r + 1)) % 18446744073709551616 : Nat) : Int) := by rw [IntKind.wrap_u64, hX]; omega
      obtain ⟨Y, hY⟩ : ∃ Y, Y = (F + (r + 1)) % 18446744073709551616 := ⟨_, rfl⟩
      rw [← hY] at hX1
      have HY := Lib.hid hY
      obtain ⟨z, hz⟩ : ∃ z, (cdP ls n r)[i]? = some z := ⟨_, List.getElem?_eq_getElem (by rw [cdP_length]; exact hi2)⟩
      have cz : wr.cell? ⟨w.heap.size + 1 + 1, i, none⟩ = some (.int .u64 (z : Int)) := (LC.out.cell i).trans (c64_get hz)
      have fz := LC.out.free i
      have hput := LC.out.put i (.int .u64 (X : Int))
      rw [c64_set, HX.out, HF.out] at hput
      have hstep := cdP_step (ls := ls) H.out.1 (by omega) hn hr.symm
      unfold M64' at hstep
      rw [hstep, ← HF.out, ← HX.out, ← hcs] at hput
      have HPUT := Lib.hid hput
      have HKP := Lib.hid (HK.out.trans (Kept.put wr (w.heap.size + 1 + 1) i (.int .u64 (X : Int))) (fun _ _ h => h))
      have HCS := Lib.hid hcs
      rw [← hX]
      clear hput hstep hz hn hcs hr hX hY
      go_wp2_with fail
      go_roundw
      case rel => exact ⟨i + 1, by omega, by go_num, by rw [HCS.out, ← HY.out], HPUT.out, HKP.out⟩
      case measure => simp [intOf]; omega
     ·rw [if_neg hnk, Nat.add_zero] at hcs
      have e1 : ((n : Int) == (k : Int)) = false := by simp; omega
      have e2 : (n == k) = false := by simpa using hnk
      have HCS := Lib.hid hcs
      rw [← hX]
      clear hn hcs hr hX hnk
      go_wp2_with fail
      go_roundw
      case rel => exact ⟨i + 1, by omega, by go_num, by rw [HCS.out, Nat.add_zero, ← HX.out], by rw [HCS.out]; exact LC.out, HK.out⟩
      case measure => simp [intOf]; omega
    ·obtain rfl : i = 256 := by omega
     have lc := LC.out
     have hca := ct_all ls k 256 (by rw [H.out.1]; exact Nat.le_refl _)
     rw [hca, HCX.out] at lc
     have HLC := Lib.hid lc
     have HXA : Hid ((F + ct ls k 256) % 18446744073709551616 = aft ls (k + 1)) := by show _ = _; rw [HAF.out, hca]
     have ek : IntKind.u8.wrap ((k : Int) + 1) = ((k + 1 : Nat) : Int) := by rw [IntKind.wrap_u8]; omega
     obtain ⟨Q, hQ⟩ : ∃ Q, Q = (F + ct ls k 256) % 18446744073709551616 := ⟨_, rfl⟩
     rw [← hQ] at HXA ⊢
     clear lc hca hQ LC
     go_wp2_with fail
     exact ⟨⟨k + 1, by omega, by omega, by go_num, by rw [HXA.out], HLC.out, HK.out⟩, by simp [intOf]; omega⟩
  ·obtain rfl : k = 57 := by omega
   have lc := LC.out
   rw [cdP_end H.out.2 H.out.1] at lc
   obtain ⟨U, hU⟩ : ∃ U, U = cells64 (codL ls) := ⟨_, rfl⟩
   have hUl : U.length = 256 := by rw [hU, c64_length, codL_length]
   have hU1 : U.toArray.all (·.oneCell') = true := by rw [hU]; exact c64_one _
   rw [← hU] at lc
   have HU := Lib.hid hU
   have l1 := L1.out.kept HK.out (fun e => by have h1 : w.heap.size + 1 = w.heap.size + 1 + 1 := e; omega)
   have hr := Lib.hid (arr_range lc)
   have ht := Lib.hid (arr_there l1 (n := U.toArray.size) (by simp [hUl, HZL.out]))
   have hst := Lib.hid (arr_store l1 (L := U) (by simp [hUl, HZL.out]))
   have hi1 : (Tryz.prog.info? 80).map (·.size) = some U.length := by rw [hUl]; exact info64
   have hi2 : (Tryz.prog.info? 80).map (·.size) = some U.toArray.size := by rw [List.size_toArray, hUl]; exact info64
   have HJ2 := Lib.hid hi1
   have HJ3 := Lib.hid hi2
   have HU1 := Lib.hid hU1
   have hbw := HB1.out.trans (HK.out.below (B := w.heap.size) (by rw [HSZ.out]; omega) (fun k hk e => by have h1 : k = w.heap.size + 1 + 1 := e; omega))
   have hbz := Lib.hid (below_cellsA (Nat.le_succ w.heap.size) U 0 wr hbw)
   clear hU hU1 hi1 hi2 lc l1 hbw
   go_wp2_with (first | refine wpList_load_mid rfl 80 _ rfl (w.heap.size + 1 + 1) 0 rfl U _ hr.out under64 rfl HJ2.out ?_ | refine wpList_store_mid rfl 80 _ _ rfl (w.heap.size + 1) 0 U.toArray rfl rfl ht.out HJ3.out HU1.out ?_)
   refine bodyPost_ret (v := .agg U.toArray) (results_cell_arr Tryz.results52 _ _ (w.heap.size + 1) U _ rfl (arr_range hst.out) under64 rfl HJ2.out) rfl ⟨by rw [HU.out], hbz.out⟩
section
variable {P : Program} {ops : Array Oper}
def dirs (ops : Array Oper) (i : Nat) : List Nat := match ops[i]? with | some o => (o.after.toList.filter (fun e => Region.binds .any e)).map (·.on) | none => []
def putsOf (ds : List (Option Tmp)) (x : Nat → Value) (a : Act) (js : List Nat) : Act := js.foldl (fun a j => a.put (ds.getD j none) (x j)) a
def QF : Exit → Act → World → Prop := fun _ _ _ => False
def StepV (P : Program) (ops : Array Oper) (i : Nat) (b : Act) (w : World) (R : Value → World → Prop) : Prop :=
 ∀ o, ops[i]? = some o → ∀ K' : Act → World → Prop, Shut (∀ a' w', (∃ v, a' = b.put o.dst v ∧ R v w') → K' a' w') → if Region.wanted o (yielded ops b.tmps) = true then Oper.wp P o b w K' QF else K' (b.put o.dst undef) w
theorem StepV.mk {i : Nat} {o : Oper} {b : Act} {w : World} {R : Value → World → Prop} (ho : ops[i]? = some o)
  (h : ∀ K' : Act → World → Prop, Shut (∀ a' w', (∃ v, a' = b.put o.dst v ∧ R v w') → K' a' w') → if Region.wanted o (yielded ops b.tmps) = true then Oper.wp P o b w K' QF else K' (b.put o.dst undef) w) : StepV P ops i b w R := by
 intro o' ho' K hK
 rw [ho] at ho'
 cases ho'
 exact h K hK
def QK (K : Act → World → Prop) : Exit → Act → World → Prop
 | .normal, a, w => K a w
 | _, _, _ => False
theorem step_list {o : Oper} {a : Act} {w : World} {K : Act → World → Prop} (hw : Region.wanted o (yielded ops a.tmps) = true) (h : wpList P ops (QK K) [o] a w) : Oper.wp P o a w K QF := by
 unfold wpList at h
 rw [if_pos hw] at h
 rcases h with h | ⟨_, hl⟩
 ·unfold Oper.wp at *
  generalize (execOp a.eval o).run P w = r at *
  cases r with
  | ok n w' =>
   cases n <;> simp only [Oper.upon] at h ⊢
   case value u => exact h
   case skip => exact h
   case defer d => exact h
   case enter f args =>
    refine Calls.mono h fun e w'' he => ?_
    cases e with
    | returned u => exact he
    | panicked c => exact he.elim
    | outgrown => obtain ⟨_, _, h⟩ := he; exact h.elim
   case row row args => exact h
  | halt x w' =>
   cases x <;> simp only [Oper.upon] at h ⊢
   case panic u => exact h.elim
 ·obtain ⟨_, _, h⟩ := hl
  exact h.elim
theorem put_tmps (a : Act) (d : Option Tmp) (v : Value) : (a.put d v).tmps.size = a.tmps.size ∧ (a.put d v).defers = a.defers := by
 cases d with
 | none => exact ⟨rfl, rfl⟩
 | some d => exact ⟨Array.size_setIfInBounds, rfl⟩
theorem act_ext {a b : Act} (h1 : a.tmps = b.tmps) (h2 : a.defers = b.defers) : a = b := by
 obtain ⟨_, _⟩ := a
 obtain ⟨_, _⟩ := b
 simp only at h1 h2
 rw [h1, h2]
theorem put_cong {a b : Act} {d : Option Tmp} {v v' : Value} (hs : a.tmps.size = b.tmps.size) (h : b.put d v = b.put d v') : a.put d v = a.put d v' := by
 cases d with
 | none => rfl
 | some d =>
  by_cases hd : d < b.tmps.size
  ·have := congrArg (fun c => c.tmps[d]?) h
   simp only [Act.put] at this
   rw [Array.getElem?_setIfInBounds_self_of_lt hd, Array.getElem?_setIfInBounds_self_of_lt hd] at this
   injection this with this
   rw [this]
  ·refine act_ext ?_ rfl
   simp only [Act.put]
   rw [Array.setIfInBounds, dif_neg (by rw [hs]; exact hd), Array.setIfInBounds, dif_neg (by rw [hs]; exact hd)]
theorem StepV.move {i : Nat} {o : Oper} {a b : Act} {w : World} {R : Value → World → Prop} {Q : Exit → Act → World → Prop} (ho : ops[i]? = some o) (hsel : ∀ cs b, o.op ≠ .select cs b)
  (hsz : a.tmps.size = b.tmps.size) (he : ∀ d ∈ o.looksAt ops, a.tmps[d]? = b.tmps[d]?) (h : StepV P ops i b w R) : wpOp P ops Q i (fun a' w' => ∃ v, a' = a.put o.dst v ∧ R v w') a w := by
 have h0 := h o ho (fun a' w' => ∃ v, a' = b.put o.dst v ∧ R v w') (fun _ _ h => h)
 have hex : execOp a.eval o = execOp b.eval o := by
  refine execOp_congr o hsel (fun x hx => ?_)
  cases x with
  | tmp t =>
   have := he t (List.mem_append_left _ (List.mem_filterMap.2 ⟨.tmp t, by simpa using hx, rfl⟩))
   show a.tmps.getD t undef = b.tmps.getD t undef
   rw [Array.getD_eq_getD_getElem?, Array.getD_eq_getD_getElem?, this]
  | _ => rfl
 have hwa : Region.wanted o (yielded ops a.tmps) = Region.wanted o (yielded ops b.tmps) := by
  unfold Region.wanted
  cases hg : o.guard with
  | none => rfl
  | some gw =>
   obtain ⟨g, want⟩ := gw
   have hy : yielded ops a.tmps g = yielded ops b.tmps g := by
    unfold yielded
    cases ht : (ops[g]?).bind (·.dst) with
    | none => rfl
    | some t =>
     have := he t (by simp [Oper.looksAt, hg, ht])
     simp only [Option.bind_some, this]
   simp only [hy]
 unfold wpOp
 simp only [ho]
 rw [hwa]
 split
 ·rename_i hw
  rw [if_pos hw] at h0
  refine .inl ?_
  unfold Oper.wp at *
  rw [hex]
  generalize (execOp b.eval o).run P w = r at *
  cases r with
  | ok n w' =>
   cases n <;> simp only [Oper.upon] at h0 ⊢
   case value u => obtain ⟨v, e, hR⟩ := h0; exact ⟨v, put_cong hsz e, hR⟩
   case skip => obtain ⟨v, e, hR⟩ := h0; exact ⟨v, put_cong hsz e, hR⟩
   case defer d =>
    obtain ⟨v, e, hR⟩ := h0
    have := congrArg Act.defers e
    rw [(put_tmps _ _ _).2, (put_tmps _ _ _).2] at this
    exact absurd (congrArg List.length this) (by simp)
   case enter f args =>
    refine Calls.mono h0 fun e w'' he => ?_
    cases e with
    | returned u => obtain ⟨v, e, hR⟩ := he; exact ⟨v, put_cong hsz e, hR⟩
    | panicked c => exact he.elim
    | outgrown => obtain ⟨_, _, h⟩ := he; exact h.elim
   case row row args => exact Rows.mono h0 fun u w'' he => by obtain ⟨v, e, hR⟩ := he; exact ⟨v, put_cong hsz e, hR⟩
  | halt x w' =>
   cases x <;> simp only [Oper.upon] at h0 ⊢
   case panic u => exact h0.elim
 ·rename_i hw
  rw [if_neg hw] at h0
  obtain ⟨v, e, hR⟩ := h0
  exact ⟨v, put_cong hsz e, hR⟩
def relyB (ops : Array Oper) (ds : List (Option Tmp)) (js es ps : List (List Nat)) (N : Nat) : Bool :=
 (ds == ops.toList.map (·.dst)) && Region.noSelect ops &&
 (List.range ops.size).all (fun i => (dirs ops i).all (fun e => decide (e < i)) && (js.getD i []).all (fun j => (dirs ops i).contains j || decide (ops.size ≤ j)) &&
  (List.range ops.size).all (fun j => (match ds.getD j none with
   | some t => (i == j || ds.getD i none != some t) && (i == j || (js.getD i []).contains j || (dirs ops j).contains i || !((ops.getD i default).looksAt ops).contains t)
   | none => true) && ((es.getD j []).all (fun e => !(js.getD i []).contains e || i == j || (dirs ops j).contains i))) &&
  (List.range N).all (fun j => i == j || (ps.getD i []).contains j || (es.getD i []).contains j || (dirs ops j).contains i || (dirs ops i).any (fun k => (es.getD k []).contains j)))
structure Rely (ops : Array Oper) (ds : List (Option Tmp)) (js es ps : List (List Nat)) (N : Nat) : Prop where
 ds_ : ds = ops.toList.map (·.dst)
 sel : Region.noSelect ops = true
 back : ∀ i e, i < ops.size → e ∈ dirs ops i → e < i
 sub : ∀ i j, i < ops.size → j ∈ js.getD i [] → j ∈ dirs ops i ∨ ops.size ≤ j
 one : ∀ i j t, i < ops.size → j < ops.size → ds.getD j none = some t → ds.getD i none = some t → i = j
 looks : ∀ i j t, i < ops.size → j < ops.size → ds.getD j none = some t → t ∈ (ops.getD i default).looksAt ops → i = j ∨ j ∈ js.getD i [] ∨ i ∈ dirs ops j
 eats : ∀ i j e, i < ops.size → j < ops.size → e ∈ es.getD j [] → e ∈ js.getD i [] → i = j ∨ i ∈ dirs ops j
 pres : ∀ i j, i < ops.size → j < N → i = j ∨ j ∈ ps.getD i [] ∨ j ∈ es.getD i [] ∨ i ∈ dirs ops j ∨ ∃ k ∈ dirs ops i, j ∈ es.getD k []
theorem Rely.of {ds : List (Option Tmp)} {js es ps : List (List Nat)} {N : Nat} (h : relyB ops ds js es ps N = true) : Rely ops ds js es ps N := by
 unfold relyB at h
 rw [Bool.and_eq_true, Bool.and_eq_true, List.all_eq_true] at h
 obtain ⟨⟨h1, h2⟩, h3⟩ := h
 have h4 := fun i (hi : i < ops.size) => h3 i (List.mem_range.2 hi)
 simp only [Bool.and_eq_true, List.all_eq_true] at h4
 have h5 := fun i hi j (hj : j < ops.size) => (h4 i hi).1.2 j (List.mem_range.2 hj)
 have h6 := fun i hi j (hj : j < N) => (h4 i hi).2 j (List.mem_range.2 hj)
 refine ⟨by simpa using h1, h2, fun i e hi he => ?_, fun i j hi hj => ?_, fun i j t hi hj h1 h2 => ?_, fun i j t hi hj h1 h2 => ?_, fun i j e hi hj h1 h2 => ?_, fun i j hi hj => ?_⟩
 ·simpa using (h4 i hi).1.1.1 e he
 ·have := (h4 i hi).1.1.2 j hj
  simpa using this
 ·have := (h5 i hi j hj).1
  rw [h1] at this
  simp only [Bool.and_eq_true, Bool.or_eq_true, beq_iff_eq, bne_iff_ne] at this
  rcases this.1 with h | h
  ·exact h
  ·exact absurd h2 h
 ·have := (h5 i hi j hj).1
  rw [h1] at this
  simp only [Bool.and_eq_true, Bool.or_eq_true, beq_iff_eq, bne_iff_ne, List.contains_iff_mem, Bool.not_eq_true'] at this
  rcases this.2 with ((h | h) | h) | h
  ·exact .inl h
  ·exact .inr (.inl h)
  ·exact .inr (.inr h)
  ·rw [List.contains_eq_mem, decide_eq_false_iff_not] at h
   exact absurd h2 h
 ·have := (h5 i hi j hj).2 e h1
  simp only [Bool.or_eq_true, beq_iff_eq, List.contains_iff_mem, Bool.not_eq_true'] at this
  rcases this with (h | h) | h
  ·rw [List.contains_eq_mem, decide_eq_false_iff_not] at h
   exact absurd h2 h
  ·exact .inl h
  ·exact .inr h
 ·have := h6 i hi j hj
  simp only [Bool.or_eq_true, beq_iff_eq, List.contains_iff_mem, List.any_eq_true] at this
  rcases this with (((h | h) | h) | h) | h
  ·exact .inl h
  ·exact .inr (.inl h)
  ·exact .inr (.inr (.inl h))
  ·exact .inr (.inr (.inr (.inl h)))
  ·exact .inr (.inr (.inr (.inr h)))
def AllP (V : Nat → Value → World → Prop) (w w' : World) : List Nat → Prop
 | [] => True
 | j :: l => (∀ u, V j u w → V j u w') ∧ AllP V w w' l
theorem AllP.get {V : Nat → Value → World → Prop} {w w' : World} : ∀ {l : List Nat}, AllP V w w' l → ∀ j ∈ l, ∀ u, V j u w → V j u w'
 | [], _, _, h => by cases h
 | k :: l, h, j, hj => by
  rcases List.mem_cons.1 hj with rfl | hj
  ·exact h.1
  ·exact h.2.get j hj
theorem AllP.same {V : Nat → Value → World → Prop} {w : World} : ∀ (l : List Nat), AllP V w w l
 | [] => trivial
 | _ :: l => ⟨fun _ h => h, AllP.same l⟩
theorem AllP.of {V : Nat → Value → World → Prop} {w w' : World} : ∀ (l : List Nat), (∀ j ∈ l, ∀ u, V j u w → V j u w') → AllP V w w' l
 | [], _ => trivial
 | k :: l, h => ⟨h k List.mem_cons_self, AllP.of l (fun j hj => h j (List.mem_cons_of_mem _ hj))⟩
def AllV (V : Nat → Value → World → Prop) (x : Nat → Value) (w : World) : List Nat → Prop
 | [] => True
 | j :: l => V j (x j) w ∧ AllV V x w l
theorem AllV.of {V : Nat → Value → World → Prop} {x : Nat → Value} {w : World} : ∀ (l : List Nat), (∀ j ∈ l, V j (x j) w) → AllV V x w l
 | [], _ => trivial
 | k :: l, h => ⟨h k List.mem_cons_self, AllV.of l (fun j hj => h j (List.mem_cons_of_mem _ hj))⟩
structure FrV (ops : Array Oper) (ds : List (Option Tmp)) (a0 : Act) (x : Nat → Value) (listed : Array Bool) (a : Act) : Prop where
 size : a.tmps.size = a0.tmps.size
 defers : a.defers = a0.defers
 put : ∀ j t, j < ops.size → listed.getD j false = true → ds.getD j none = some t → t < a0.tmps.size → a.tmps[t]? = some (x j)
 old : ∀ t, (∀ j, j < ops.size → listed.getD j false = true → ds.getD j none ≠ some t) → a.tmps[t]? = a0.tmps[t]?
theorem putsOf_size (ds : List (Option Tmp)) (x : Nat → Value) : ∀ (js : List Nat) (a : Act), (putsOf ds x a js).tmps.size = a.tmps.size ∧ (putsOf ds x a js).defers = a.defers
 | [], a => ⟨rfl, rfl⟩
 | j :: js, a => by
  have h := putsOf_size ds x js (a.put (ds.getD j none) (x j))
  exact ⟨h.1.trans (put_tmps _ _ _).1, h.2.trans (put_tmps _ _ _).2⟩
theorem put_get (a : Act) (d : Option Tmp) (v : Value) (t : Nat) : (a.put d v).tmps[t]? = if d = some t ∧ t < a.tmps.size then some v else a.tmps[t]? := by
 cases d with
 | none => simp [Act.put]
 | some d =>
  simp only [Act.put, Option.some.injEq]
  by_cases h : d = t
  ·subst h
   by_cases h2 : d < a.tmps.size
   ·rw [Array.getElem?_setIfInBounds_self_of_lt h2, if_pos ⟨rfl, h2⟩]
   ·rw [if_neg (fun h => h2 h.2), Array.setIfInBounds, dif_neg h2]
  ·rw [Array.getElem?_setIfInBounds_ne h, if_neg (fun h2 => h h2.1)]
theorem putsOf_old (ds : List (Option Tmp)) (x : Nat → Value) (t : Nat) : ∀ (js : List Nat) (a : Act), (∀ j ∈ js, ds.getD j none ≠ some t) → (putsOf ds x a js).tmps[t]? = a.tmps[t]?
 | [], a, _ => rfl
 | j :: js, a, h => by
  have := putsOf_old ds x t js (a.put (ds.getD j none) (x j)) (fun k hk => h k (List.mem_cons_of_mem _ hk))
  exact this.trans (by rw [put_get, if_neg (fun e => h j List.mem_cons_self e.1)])
theorem putsOf_new (ds : List (Option Tmp)) (x : Nat → Value) (t i : Nat) : ∀ (js : List Nat) (a : Act), (∀ j ∈ js, ds.getD j none = some t → j = i) → i ∈ js → ds.getD i none = some t → t < a.tmps.size → (putsOf ds x a js).tmps[t]? = some (x i)
 | [], a, _, h, _, _ => by cases h
 | j :: js, a, h1, h2, h3, h4 => by
  by_cases hi : i ∈ js
  ·exact putsOf_new ds x t i js (a.put (ds.getD j none) (x j)) (fun k hk => h1 k (List.mem_cons_of_mem _ hk)) hi h3 (by rw [(put_tmps _ _ _).1]; exact h4)
  ·have hij : i = j := (List.mem_cons.1 h2).resolve_right hi
   subst hij
   have := putsOf_old ds x t js (a.put (ds.getD i none) (x i)) (fun k hk e => hi (by rw [← h1 k (List.mem_cons_of_mem _ hk) e]; exact hk))
   exact this.trans (by rw [put_get, if_pos ⟨h3, h4⟩])
theorem dirs_mem {i e : Nat} {o : Oper} (ho : ops[i]? = some o) : e ∈ dirs ops i ↔ ∃ g ∈ o.after, Region.binds .any g = true ∧ g.on = e := by
 unfold dirs
 rw [ho]
 simp only [List.mem_map, List.mem_filter, Array.mem_toList_iff]
 constructor
 ·rintro ⟨g, ⟨h1, h2⟩, h3⟩; exact ⟨g, h1, h2, h3⟩
 ·rintro ⟨g, h1, h2, h3⟩; exact ⟨g, ⟨h1, h2⟩, h3⟩
theorem getD_tf {listed : Array Bool} {j : Nat} (h : j < listed.size) (d d' : Bool) : listed.getD j d = listed.getD j d' := by
 simp [h]
def unl (listed : Array Bool) : Nat := listed.toList.countP (fun b => !b)
theorem unl_set {listed : Array Bool} {i : Nat} (hi : i < listed.size) (h : listed.getD i false = false) : unl (listed.setIfInBounds i true) + 1 = unl listed := by
 have hl : i < listed.toList.length := by simpa using hi
 have he : listed.toList[i] = false := by
  simpa [hi] using h
 have hp : 0 < listed.toList.countP (fun b => !b) := List.countP_pos_iff.2 ⟨false, by rw [← he]; exact List.getElem_mem hl, rfl⟩
 unfold unl
 rw [Array.toList_setIfInBounds, List.countP_set hl, he]
 simp only [Bool.not_false, if_true, Bool.not_true, Bool.false_eq_true, if_false]
 omega
theorem unl_zero {listed : Array Bool} (h : unl listed = 0) (j : Nat) (hj : j < listed.size) : listed.getD j false = true := by
 have := List.countP_eq_zero.1 h (listed.toList[j]'(by simpa using hj)) (List.getElem_mem _)
 simpa [hj] using this
theorem set_getD {listed : Array Bool} {i j : Nat} (hi : i < listed.size) : (listed.setIfInBounds i true).getD j false = true ↔ j = i ∨ listed.getD j false = true := by
 by_cases e : i = j
 ·subst e
  simp [hi]
 ·rw [getD_set_ne false e]
  constructor
  ·exact .inr
  ·rintro (h | h)
   ·exact absurd h.symm e
   ·exact h
theorem FrV.full {ds : List (Option Tmp)} {js es ps : List (List Nat)} {N : Nat} {a0 a : Act} {x : Nat → Value} {listed : Array Bool} (hok : Rely ops ds js es ps N) (h : FrV ops ds a0 x listed a) (hall : ∀ j, j < ops.size → listed.getD j false = true) :
  a = putsOf ds x a0 (List.range ops.size) := by
 have hz := putsOf_size ds x (List.range ops.size) a0
 refine act_ext ?_ (h.defers.trans hz.2.symm)
 apply Array.ext_getElem?
 intro t
 by_cases ht : t < a0.tmps.size
 ·by_cases hex : ∃ j, j < ops.size ∧ ds.getD j none = some t
  ·obtain ⟨j, hj, hd⟩ := hex
   rw [h.put j t hj (hall j hj) hd ht]
   exact (putsOf_new ds x t j _ a0 (fun k hk e => hok.one k j t (List.mem_range.1 hk) hj hd e) (List.mem_range.2 hj) hd ht).symm
  ·rw [h.old t (fun j hj _ e => hex ⟨j, hj, e⟩)]
   exact (putsOf_old ds x t _ a0 (fun j hj e => hex ⟨j, List.mem_range.1 hj, e⟩)).symm
 ·rw [Array.getElem?_eq_none (by rw [h.size]; omega), Array.getElem?_eq_none (by rw [hz.1]; omega)]
theorem FrV.step {ds : List (Option Tmp)} {js es ps : List (List Nat)} {N : Nat} {a0 a : Act} {x : Nat → Value} {listed : Array Bool} {i : Nat} {v : Value} (hok : Rely ops ds js es ps N) (h : FrV ops ds a0 x listed a) (hi : i < ops.size) (hs : listed.size = ops.size) (hu : listed.getD i false = false) :
  FrV ops ds a0 (fun j => if j = i then v else x j) (listed.setIfInBounds i true) (a.put (ds.getD i none) v) := by
 refine ⟨(put_tmps _ _ _).1.trans h.size, (put_tmps _ _ _).2.trans h.defers, fun j t hj hl hd ht => ?_, fun t hn => ?_⟩
 ·rw [put_get]
  by_cases e : j = i
  ·subst e
   rw [if_pos ⟨hd, by rw [h.size]; exact ht⟩, if_pos rfl]
  ·rw [if_neg (fun e2 => e (hok.one j i t hj hi e2.1 hd)), if_neg e]
   exact h.put j t hj (((set_getD (by omega)).1 hl).resolve_left e) hd ht
 ·rw [put_get, if_neg (fun e => hn i hi ((set_getD (by omega)).2 (.inl rfl)) e.1)]
  exact h.old t (fun j hj hl => hn j hj ((set_getD (by omega)).2 (.inr hl)))
theorem wpAny_rely {ds : List (Option Tmp)} {js es ps : List (List Nat)} {N : Nat} {Q : Exit → Act → World → Prop} {a0 : Act} {S : World → Prop} {V : Nat → Value → World → Prop} (hok : Rely ops ds js es ps N)
  (hjs : ∀ i j, i < ops.size → j ∈ js.getD i [] → j < N) (hstep : ∀ i, i < ops.size → ∀ (x : Nat → Value) (w : World), S w → AllV V x w (js.getD i []) →
   StepV P ops i (putsOf ds x a0 (js.getD i [])) w (fun v w' => S w' ∧ V i v w' ∧ AllP V w w' (ps.getD i [])))
  (hend : ∀ (x : Nat → Value) (w : World), S w → (∀ j, j < N → (∀ i, i < ops.size → j ∉ es.getD i []) → V j (x j) w) → Q .normal (putsOf ds x a0 (List.range ops.size)) w) :
  ∀ (fuel : Nat) (listed : Array Bool) (a : Act) (x : Nat → Value) (w : World), listed.size = ops.size → (∀ j, j < ops.size → listed.getD j false = true → ∀ e ∈ dirs ops j, listed.getD e false = true) → unl listed ≤ fuel → S w →
   (∀ j, j < N → (j < ops.size → listed.getD j false = true) → (∀ i, i < ops.size → listed.getD i false = true → j ∉ es.getD i []) → V j (x j) w) → FrV ops ds a0 x listed a → wpAny P .any ops Q fuel listed a w := by
 have hfin : ∀ (listed : Array Bool) (a : Act) (x : Nat → Value) (w : World), S w → (∀ j, j < ops.size → listed.getD j false = true) →
   (∀ j, j < N → (j < ops.size → listed.getD j false = true) → (∀ i, i < ops.size → listed.getD i false = true → j ∉ es.getD i []) → V j (x j) w) → FrV ops ds a0 x listed a → Q .normal a w := by
  intro listed a x w hS hall hV hF
  rw [hF.full hok hall]
  exact hend x w hS (fun j hj hn => hV j hj (hall j) (fun i hi _ => hn i hi))
 intro fuel
 induction fuel with
 | zero =>
  intro listed a x w hsz hdc hu hS hV hF
  have hall : ∀ j, j < ops.size → listed.getD j false = true := fun j hj => unl_zero (by omega) j (by omega)
  refine ⟨?_, hfin listed a x w hS hall hV hF⟩
  cases hr : Region.ready .any ops listed with
  | nil => rfl
  | cons i rs =>
   exfalso
   have hm : i ∈ Region.ready .any ops listed := by rw [hr]; exact List.mem_cons_self
   obtain ⟨h0, o, ho, _⟩ := mem_ready.1 hm
   have hi := (Array.getElem?_eq_some_iff.1 ho).1
   have := hall i hi
   rw [getD_tf (by omega) false true, h0] at this
   cases this
 | succ fuel ih =>
  intro listed a x w hsz hdc hu hS hV hF
  refine ⟨fun hr => hfin listed a x w hS ?_ hV hF, fun i hi => ?_⟩
  ·intro j
   induction j using Nat.strongRecOn with
   | ind j ihj =>
    intro hj
    cases hl : listed.getD j false with
    | true => rfl
    | false =>
     exfalso
     have hm : j ∈ Region.ready .any ops listed := by
      refine mem_ready.2 ⟨by rw [getD_tf (by omega) true false]; exact hl, ops[j], Array.getElem?_eq_getElem hj, fun e he hb => ?_⟩
      have hd := (dirs_mem (Array.getElem?_eq_getElem hj)).2 ⟨e, he, hb, rfl⟩
      have hlt := hok.back j e.on hj hd
      exact ihj e.on hlt (by omega)
     rw [hr] at hm
     cases hm
  ·obtain ⟨h0, o, ho, hall⟩ := mem_ready.1 hi
   have hin := (Array.getElem?_eq_some_iff.1 ho).1
   have hun : listed.getD i false = false := by rw [getD_tf (by omega) false true]; exact h0
   have hdi : ∀ e ∈ dirs ops i, listed.getD e false = true := fun e he => by
    obtain ⟨g, h1, h2, h3⟩ := (dirs_mem ho).1 he
    rw [← h3]; exact hall g h1 h2
   have hdl : ∀ e ∈ dirs ops i, e < ops.size := fun e he => Nat.lt_trans (hok.back i e hin he) hin
   have hds : o.dst = ds.getD i none := by
    rw [hok.ds_, List.getD_eq_getElem?_getD, List.getElem?_map, Array.getElem?_toList, ho]; rfl
   have hpre : ∀ j ∈ js.getD i [], V j (x j) w := fun j hj => by
    have hjd := hok.sub i j hin hj
    refine hV j (hjs i j hin hj) (fun hjn => hdi j (hjd.resolve_right (by omega))) (fun k hk hkl hjk => ?_)
    rcases hok.eats i k j hin hk hjk hj with e | e
    ·subst e
     rw [hun] at hkl; cases hkl
    ·have := hdc k hk hkl i e
     rw [hun] at this; cases this
   have hst := hstep i hin x w hS (AllV.of _ hpre)
   have hz := putsOf_size ds x (js.getD i []) a0
   have hmv := StepV.move (Q := Q) (a := a) ho (Region.noSelect_spec hok.sel i o · · ho) (hF.size.trans hz.1.symm) (fun t ht => ?_) hst
   ·refine wpOp_mono (fun a' w' h => ?_) hmv
    obtain ⟨v, rfl, hS', hVi, hpr⟩ := h
    rw [hds]
    refine ih (listed.setIfInBounds i true) _ (fun j => if j = i then v else x j) w' (by simpa using hsz) ?_ ?_ hS' ?_ (hF.step hok hin hsz hun)
    ·intro j hj hl e he
     refine (set_getD (by omega)).2 (.inr ?_)
     rcases (set_getD (by omega)).1 hl with e2 | e2
     ·subst e2; exact hdi e he
     ·exact hdc j hj e2 e he
    ·have := unl_set (by omega) hun
     omega
    ·intro j hjN hl hn
     by_cases e : j = i
     ·subst e
      simpa using hVi
     ·simp only [if_neg e]
      have hps : j ∈ ps.getD i [] := by
       rcases hok.pres i j hin hjN with e2 | e2 | e2 | e2 | ⟨k, hk, e2⟩
       ·exact absurd e2.symm e
       ·exact e2
       ·exact absurd e2 (hn i hin ((set_getD (by omega)).2 (.inl rfl)))
       ·exfalso
        by_cases hjn : j < ops.size
        ·have := hdc j hjn (((set_getD (by omega)).1 (hl hjn)).resolve_left e) i e2
         rw [hun] at this; cases this
        ·unfold dirs at e2
         rw [Array.getElem?_eq_none (by omega)] at e2
         cases e2
       ·exact absurd e2 (hn k (hdl k hk) ((set_getD (by omega)).2 (.inr (hdi k hk))))
      refine hpr.get j hps _ ?_
      exact hV j hjN (fun hj => ((set_getD (by omega)).1 (hl hj)).resolve_left e) (fun k hk hkl => hn k hk ((set_getD (by omega)).2 (.inr hkl)))
   ·have hnone : ∀ k, ops.size ≤ k → ds.getD k none = none := fun k hk => by
     rw [List.getD_eq_getElem?_getD, List.getElem?_eq_none (by rw [hok.ds_]; simpa using hk)]; rfl
    have hget : (ops.getD i default) = o := by
     rw [Array.getD_eq_getD_getElem?, ho]; rfl
    by_cases hsz2 : t < a0.tmps.size
    ·by_cases hex : ∃ j, j < ops.size ∧ listed.getD j false = true ∧ ds.getD j none = some t
     ·obtain ⟨j, hj, hl, hd⟩ := hex
      rw [hF.put j t hj hl hd hsz2]
      rcases hok.looks i j t hin hj hd (by rw [hget]; exact ht) with e | e | e
      ·subst e; rw [hun] at hl; cases hl
      ·refine (putsOf_new ds x t j _ a0 (fun k hk e2 => ?_) e hd hsz2).symm
       rcases hok.sub i k hin hk with e3 | e3
       ·exact hok.one k j t (hdl k e3) hj hd e2
       ·rw [hnone k e3] at e2; cases e2
      ·have := hdc j hj hl i e
       rw [hun] at this; cases this
     ·rw [hF.old t (fun j hj hl e => hex ⟨j, hj, hl, e⟩)]
      refine (putsOf_old ds x t _ a0 (fun j hj e => ?_)).symm
      rcases hok.sub i j hin hj with e3 | e3
      ·exact hex ⟨j, hdl j e3, hdi j e3, e⟩
      ·rw [hnone j e3] at e; cases e
    ·rw [Array.getElem?_eq_none (by rw [hF.size]; exact Nat.le_of_not_lt hsz2), Array.getElem?_eq_none (by rw [hz.1]; exact Nat.le_of_not_lt hsz2)]
def RelyStep (P : Program) (ops : Array Oper) (ds : List (Option Tmp)) (js ps : List (List Nat)) (a0 : Act) (S : World → Prop) (V : Nat → Value → World → Prop) (i : Nat) : Prop :=
 ∀ (x : Nat → Value) (w : World), S w → AllV V x w (js.getD i []) → StepV P ops i (putsOf ds x a0 (js.getD i [])) w (fun v w' => S w' ∧ V i v w' ∧ AllP V w w' (ps.getD i []))
def RelySteps (P : Program) (ops : Array Oper) (ds : List (Option Tmp)) (js ps : List (List Nat)) (a0 : Act) (S : World → Prop) (V : Nat → Value → World → Prop) (is : List Nat) : Prop :=
 ∀ i ∈ is, RelyStep P ops ds js ps a0 S V i
theorem RelySteps.nil {ds : List (Option Tmp)} {js ps : List (List Nat)} {a0 : Act} {S : World → Prop} {V : Nat → Value → World → Prop} : RelySteps P ops ds js ps a0 S V [] := fun _ h => by cases h
theorem RelySteps.cons {ds : List (Option Tmp)} {js ps : List (List Nat)} {a0 : Act} {S : World → Prop} {V : Nat → Value → World → Prop} {i : Nat} {is : List Nat} (h : RelyStep P ops ds js ps a0 S V i)
  (hs : RelySteps P ops ds js ps a0 S V is) : RelySteps P ops ds js ps a0 S V (i :: is) := fun k hk => by
 rcases List.mem_cons.1 hk with rfl | hk
 ·exact h
 ·exact hs k hk
theorem RelyStep.mk {ds : List (Option Tmp)} {js ps : List (List Nat)} {a0 : Act} {S : World → Prop} {V : Nat → Value → World → Prop} {i : Nat} {o : Oper} (J K : List Nat) (ho : ops[i]? = some o) (hJ : js.getD i [] = J) (hK : ps.getD i [] = K)
  (h : ∀ (x : Nat → Value) (w : World), S w → AllV V x w J → ∀ (b : Act), b = putsOf ds x a0 J → ∀ K' : Act → World → Prop, Shut (∀ a' w', (∃ v, a' = b.put o.dst v ∧ S w' ∧ V i v w' ∧ AllP V w w' K) → K' a' w') →
   if Region.wanted o (yielded ops b.tmps) = true then Oper.wp P o b w K' QF else K' (b.put o.dst undef) w) : RelyStep P ops ds js ps a0 S V i := by
 intro x w hS hV
 rw [hJ] at hV ⊢
 rw [hK]
 exact StepV.mk ho (fun K' hK' => h x w hS hV _ rfl K' hK')
theorem wp_region_rely {id : Nat} {a0 : Act} {w : World} {Q : Exit → Act → World → Prop} (S : World → Prop) (V : Nat → Value → World → Prop) (ds : List (Option Tmp)) (js es ps : List (List Nat)) (is : List Nat) (N : Nat) (hm : P.follows .mixedOrders = true)
  (hok : relyB ops ds js es ps N = true) (hjs : js.all (fun l => l.all (fun j => decide (j < N))) = true) (his : List.range ops.size = is) (hS : S w.drew) (hI : ∀ j, j < N → ops.size ≤ j → V j undef w.drew) (hsteps : RelySteps P ops ds js ps a0 S V is)
  (hend : ∀ (x : Nat → Value) (w : World), S w → (∀ j, j < N → (is.all fun i => !(es.getD i []).contains j) = true → V j (x j) w) → Q .normal (putsOf ds x a0 is) w) : (Code.region id ops true).wp P Q a0 w := by
 subst his
 have hjs2 : ∀ i j, i < ops.size → j ∈ js.getD i [] → j < N := fun i j _ hj => by
  rw [List.getD_eq_getElem?_getD] at hj
  cases hg : js[i]? with
  | none => rw [hg] at hj; cases hj
  | some l =>
   rw [hg] at hj
   have := List.all_eq_true.1 (List.all_eq_true.1 hjs l (List.mem_of_getElem? hg)) j hj
   simpa using this
 refine wp_region_any hm (wpAny_rely (Rely.of hok) hjs2 (fun i hi => hsteps i (List.mem_range.2 hi)) (fun x w h1 h2 => hend x w h1 (fun j hj hn => h2 j hj (fun i hi hc => ?_))) ops.size _ a0 (fun _ => undef) _ (by simp) (fun j hj h => ?_) ?_ hS (fun j hj h hn => ?_) ⟨rfl, rfl, fun j t hj h => ?_, fun _ _ => rfl⟩)
 ·have := List.all_eq_true.1 hn i (List.mem_range.2 hi)
  rw [List.contains_iff_mem.2 hc] at this
  cases this
 ·simp [hj] at h
 ·unfold unl
  refine Nat.le_trans List.countP_le_length (by simp)
 ·refine hI j hj (Nat.le_of_not_lt fun hj => ?_)
  have := h hj
  simp [hj] at this
 ·simp [hj] at h
end
structure Bf where
 P : Value → World → Prop
 mono : ∀ u q q', Below q.heap.size q q' → P u q → P u q'
 lit : Bool
 free : lit = true → ∀ u q q', P u q → P u q'
def Bf.any : Bf := ⟨fun _ _ => True, fun _ _ _ _ _ => trivial, true, fun _ _ _ _ _ => trivial⟩
def Bf.eq (v : Value) : Bf := ⟨fun u _ => u = v, fun _ _ _ _ h => h, true, fun _ _ _ _ h => h⟩
def Bf.own (N : Nat) (e : TypeId) (sz n : Nat) (xs : List Value) : Bf := ⟨fun u q => q.ownsRow N e sz u n xs, fun _ _ _ b h => owns_kept h (Kept.of_below b) (fun _ _ _ _ hf => hf), false, fun h => nomatch h⟩
def Bf.of (P : Value → World → Prop) (h : ∀ u q q', Below q.heap.size q q' → P u q → P u q') : Bf := ⟨P, h, false, fun h => nomatch h⟩
def bfV (fs : List Bf) (j : Nat) (u : Value) (q : World) : Prop := (fs.getD j .any).P u q
section
variable {fs : List Bf} {j : Nat} {u : Value} {q q' : World}
theorem bfV_below (hb : Below q.heap.size q q') (h : bfV fs j u q) : bfV fs j u q' := (fs.getD j .any).mono _ _ _ hb h
theorem bfV_lit {l : List Nat} (hl : l.all (fun j => (fs.getD j .any).lit) = true) (hj : j ∈ l) (h : bfV fs j u q) : bfV fs j u q' := (fs.getD j .any).free (List.all_eq_true.1 hl j hj) _ _ _ h
end
theorem dt_cells {w : World} {B n cap : Nat} {A : Option Addr} {M : List D3} (h : w.ownsRow B 125 3 (.slice A n cap) n (rowsOf dtC M)) (hn : 0 < n) :
  ∃ r, A = some ⟨r, 0, none⟩ ∧ B ≤ r ∧ ∀ k (x : D3), M[k]? = some x → w.cell? ⟨r, k * 3, none⟩ = some (.int .u64 (x.1 : Int)) ∧ w.cell? ⟨r, k * 3 + 1, none⟩ = some x.2.1 ∧ w.cell? ⟨r, k * 3 + 2, none⟩ = some x.2.2 ∧
   w.frozen? ⟨r, k * 3, none⟩ = false ∧ w.frozen? ⟨r, k * 3 + 1, none⟩ = false ∧ w.frozen? ⟨r, k * 3 + 2, none⟩ = false := by
 rcases owns_row h with ⟨_, h0, _⟩ | ⟨r, c, cur, he, hB, hl, _⟩
 ·omega
 ·simp only [Value.slice.injEq, true_and] at he
  obtain ⟨rfl, rfl⟩ := he
  refine ⟨r, rfl, hB, fun k x hx => ?_⟩
  obtain ⟨b, off, hA, _, hc⟩ := SeqS.at_ dtC_len (by decide) (SeqS.of_owns h) hx
  simp only [Option.some.injEq, Addr.mk.injEq, and_true] at hA
  obtain ⟨rfl, rfl⟩ := hA
  have c0 := hc 0 _ (by decide) rfl
  have c1 := hc 1 _ (by decide) rfl
  have c2 := hc 2 _ (by decide) rfl
  rw [Nat.zero_add] at c0 c1 c2
  exact ⟨c0, c1, c2, hl.free _, hl.free _, hl.free _⟩
theorem dt_at {w : World} {B n cap r k : Nat} {x : D3} {M : List D3} (h : w.ownsRow B 125 3 (.slice (some ⟨r, 0, none⟩) n cap) n (rowsOf dtC M)) (hn : 0 < n) (hx : M[k]? = some x) :
  w.cell? ⟨r, k * 3, none⟩ = some (.int .u64 (x.1 : Int)) ∧ w.cell? ⟨r, k * 3 + 1, none⟩ = some x.2.1 ∧ w.cell? ⟨r, k * 3 + 2, none⟩ = some x.2.2 ∧
   w.frozen? ⟨r, k * 3, none⟩ = false ∧ w.frozen? ⟨r, k * 3 + 1, none⟩ = false ∧ w.frozen? ⟨r, k * 3 + 2, none⟩ = false ∧ r < w.heap.size := by
 obtain ⟨r', e, _, hc⟩ := dt_cells h hn
 simp only [Option.some.injEq, Addr.mk.injEq, and_true] at e
 subst e
 obtain ⟨c0, c1, c2, f0, f1, f2⟩ := hc k x hx
 exact ⟨c0, c1, c2, f0, f1, f2, World.block_lt_of_cell? w _ c0⟩
theorem cell_keptN {S : Nat → Prop} {w w' : World} {b i : Nat} (k : Kept S w w') (hl : b < w.heap.size) (hn : ¬ S b) : w'.cell? ⟨b, i, none⟩ = w.cell? ⟨b, i, none⟩ := by
 have := k.at_ b hl hn
 simp only [World.cell?, this]
theorem own_lt {w : World} {B : Nat} {e : TypeId} {sz n : Nat} {v : Value} {xs : List Value} (h : w.ownsRow B e sz v n xs) {r : Nat} (hv : v.ownBlock = some r) : B ≤ r ∧ r < w.heap.size := by
 have := h.lt r hv
 exact ⟨this.1, this.2⟩
theorem bfV_or {fs : List Bf} {j k : Nat} {u : Value} {q q' : World} {l : List Nat} (hl : l.all (fun j => j == k || (fs.getD j .any).lit) = true) (hj : j ∈ l) (h : bfV fs j u q) (hk : bfV fs k u q → bfV fs k u q') : bfV fs j u q' := by
 have := List.all_eq_true.1 hl j hj
 rw [Bool.or_eq_true, beq_iff_eq] at this
 rcases this with rfl | this
 ·exact hk h
 ·exact (fs.getD j .any).free this _ _ _ h
theorem cI_one (l : List Nat) : ∀ u ∈ cI l, u.oneCell' = true := fun u hu => by
 obtain ⟨n, _, rfl⟩ := List.mem_map.1 hu
 rfl
theorem own_sl {w : World} {B n : Nat} {e : TypeId} {sz : Nat} {v : Value} {xs : List Value} (h : w.ownsRow B e sz v n xs) : ∃ A c, v = .slice A n c := by
 rcases owns_row h with ⟨rfl, h0, _⟩ | ⟨r, cap, cur, rfl, _⟩
 ·subst h0; exact ⟨none, 0, rfl⟩
 ·exact ⟨_, _, rfl⟩
theorem DtAt.kept {S : Nat → Prop} {w w' : World} {B n0 : Nat} {v : Value} {L : List D3} {s : List N2} {T : Nat → List (Nat × Nat)} (h : DtAt w B v L s T n0) (k : Kept S w w') (hr : ∀ r, v.ownBlock = some r → ¬ S r) (hi : ∀ r cur, S r → ¬ Lies w r 3 cur) : DtAt w' B v L s T n0 :=
 ⟨owns_kept h.row k (fun r cur hv _ => hr r hv), h.lft, fun p hp => by
  obtain ⟨h1, h2, h3, x, y, h4, h5⟩ := h.tr p hp
  exact ⟨h1, h2, h3, x, y, h4, h5.kept k hi⟩, h.sl, h.sum, h.last, h.len⟩
theorem dt_set {w : World} {B n cap r k : Nat} {x : D3} {M : List D3} (h : w.ownsRow B 125 3 (.slice (some ⟨r, 0, none⟩) n cap) n (rowsOf dtC M)) (hx : M[k]? = some x) (u : Value) :
  (w.setCell ⟨r, k * 3 + 1, none⟩ u).ownsRow B 125 3 (.slice (some ⟨r, 0, none⟩) n cap) n (rowsOf dtC (M.set k (x.1, u, x.2.2))) := by
 have hk := (List.getElem?_eq_some_iff.1 hx).1
 have h1 := owned_set (u := u) h (k := k * 3 + 1) (by rw [rowsOf_length dtC_len]; omega)
 rwa [rowsOf_set1 dtC_len hx (y := (x.1, u, x.2.2)) (by decide) rfl] at h1
def incL (l : List Nat) (i : Nat) : List Nat := (l.take i).map (· + 1) ++ l.drop i
theorem incL_zero (l : List Nat) : incL l 0 = l := rfl
theorem incL_all (l : List Nat) : incL l l.length = l.map (· + 1) := by unfold incL; simp
theorem incL_get {l : List Nat} {i x : Nat} (h : l[i]? = some x) : (incL l i)[i]? = some x := by
 have hi := (List.getElem?_eq_some_iff.1 h).1
 unfold incL
 rw [List.getElem?_append_right (by simp; omega), List.getElem?_drop]
 simp only [List.length_map, List.length_take, Nat.min_eq_left (Nat.le_of_lt hi), Nat.sub_self, Nat.add_zero, h]
theorem incL_step {l : List Nat} {i x : Nat} (h : l[i]? = some x) : (incL l i).set i (x + 1) = incL l (i + 1) := by
 have hi := (List.getElem?_eq_some_iff.1 h).1
 unfold incL
 rw [List.set_append_right _ _ (by simp; omega), List.take_add_one, h, List.map_append]
 have hd : l.drop i = x :: l.drop (i + 1) := by rw [List.drop_eq_getElem_cons hi, (List.getElem?_eq_some_iff.1 h).2]
 rw [hd]
 simp only [List.length_map, List.length_take, Nat.min_eq_left (Nat.le_of_lt hi), Nat.sub_self, List.set_cons_zero, Option.toList_some, List.map_cons, List.map_nil, List.append_assoc, List.singleton_append]
theorem cI_append (l m : List Nat) : cI (l ++ m) = cI l ++ cI m := by simp [cI]
theorem join_fst (x y : List (Nat × Nat)) : (joinT x y).map (·.1) = x.map (·.1) ++ y.map (·.1) := by unfold joinT; rw [List.map_map, List.map_append]; rfl
theorem join_snd (x y : List (Nat × Nat)) : (joinT x y).map (·.2) = (x.map (·.2) ++ y.map (·.2)).map (· + 1) := by unfold joinT; rw [List.map_map, List.map_append, List.map_append, List.map_map, List.map_map]; rfl
end Go.Proofs.YtmadgdmiipgjoaaGreat
