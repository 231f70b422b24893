import Derived.WalkKit
import Derived.ProofKit
import Derived.Lib.Hide
import Derived.Lib.AppendStr
import Derived.Lib.SlBytesRow
import Derived.Laws.AppendOwnNone
import Derived.Deep.AppendLies
import Derived.Deep.Draws
import Derived.BigQuiet
import Derived.Deep.QuietTactic
import Derived.Deep.RegionWith
import Derived.OpenShut
import Derived.Outline
import Derived.Deep.Slices
import Derived.ChangeSame
import Derived.Laws.IdiomStrings
import Derived.SliceStrings
import Derived.Laws.DeepStrings4
import Derived.SizedLaws
import Derived.Laws.OwnMore
import Derived.Test.YtdffpbfebgcmaaaGreatRows
import Derived.Deep.OwnRows
import Derived.Laws.StructEq
import Derived.RegionTactic
import Derived.Laws.Bits64
import Derived.Laws.Bits64b
import Derived.Deep.DeepCutAuto
import Derived.IntWalk
import Derived.Deep.RegionHeld
import Derived.Lib.SliceRun
import Derived.Deep.RegionLaw
import Derived.StillTailTactics
import Derived.Deep.MidRow
import Derived.Great.BuildSlice
import Derived.ShutString
import Derived.ChangeOld
import Derived.Below
import Derived.Test.YtdffpbfebgcmaaaGreatZz6
namespace Go.Proofs.YtdffpbfebgcmaaaGreat
open Go.RowKit
set_option linter.unusedVariables false
set_option linter.unusedSimpArgs false
section
variable {f : Fb} {e : Ev}
theorem lnN_set (f : Fb) (i : Int) (R : Rg) (c : Bool) (j : Nat) (hj : i.toNat < f.ln.length) : lnN (setL f i R c) (j : Int) = if j = i.toNat then ⟨R, c⟩ else lnN f (j : Int) := by
 show (f.ln.set i.toNat ⟨R, c⟩).getD _ default = _
 rw [Int.toNat_natCast]
 by_cases h : j = i.toNat
 ·subst h
  rw [if_pos rfl, List.getD_eq_getElem?_getD, List.getElem?_set_self hj]; rfl
 ·rw [if_neg h, List.getD_eq_getElem?_getD, List.getElem?_set_ne (Ne.symm h), ← List.getD_eq_getElem?_getD]
  show _ = f.ln.getD _ default
  rw [Int.toNat_natCast]
end
def stepLa (e : Ev) (a : Ak) (x : La) : La :=
 if e.kd = 1 then ⟨claimR x.R, x.cl⟩ else if e.kd = 2 then ⟨pubR x.R e.tk a.vl, x.cl⟩ else if e.kd = 3 then ⟨takeR x.R a.rd, x.cl⟩ else if e.kd = 4 then ⟨relR x.R a.rd e.tk, x.cl⟩ else if e.kd = 13 then ⟨x.R, true⟩ else x
theorem perf_lane {f : Fb} {e : Ev} (ok : FbOk f) (hp : RgIn f.p) (hn : namesF f e = 0) (hm : matF f e = true) (j : Nat) : lnN (perfF f e) (j : Int) = if j = e.rg.toNat then stepLa e (askF f e.th.toNat) (lnN f (j : Int)) else lnN f (j : Int) := by
 have hl : ∀ hk : onLane e.kd, e.rg.toNat < f.ln.length := fun hk => by
  obtain ⟨a, b⟩ := mat_rg ok hp hn hm hk
  rw [ok.ll]; omega
 have e0 : lnN (perfF f e) (j : Int) = lnN (movF f e (askF f e.th.toNat)).1 (j : Int) := rfl
 have hrg : j = e.rg.toNat → onLane e.kd → lnN f e.rg = lnN f (j : Int) := fun hj hk => by
  obtain ⟨a, _⟩ := mat_rg ok hp hn hm hk
  rw [hj, show ((e.rg.toNat : Nat) : Int) = e.rg by omega]
 rw [e0]
 unfold movF stepLa
 by_cases k1 : e.kd = 1
 ·have hk : onLane e.kd := .inl k1
  rw [if_pos k1, if_pos k1, lnN_set _ _ _ _ _ (hl hk)]
  by_cases hj : j = e.rg.toNat
  ·rw [if_pos hj, if_pos hj, hrg hj hk]
  ·rw [if_neg hj, if_neg hj]
 rw [if_neg k1, if_neg k1]
 by_cases k2 : e.kd = 2
 ·have hk : onLane e.kd := .inr (.inl k2)
  rw [if_pos k2, if_pos k2, lnN_set _ _ _ _ _ (hl hk)]
  by_cases hj : j = e.rg.toNat
  ·rw [if_pos hj, if_pos hj, hrg hj hk]
  ·rw [if_neg hj, if_neg hj]
 rw [if_neg k2, if_neg k2]
 by_cases k3 : e.kd = 3
 ·have hk : onLane e.kd := .inr (.inr (.inl k3))
  rw [if_pos k3, if_pos k3, lnN_set _ _ _ _ _ (hl hk)]
  by_cases hj : j = e.rg.toNat
  ·rw [if_pos hj, if_pos hj, hrg hj hk]
  ·rw [if_neg hj, if_neg hj]
 rw [if_neg k3, if_neg k3]
 by_cases k4 : e.kd = 4
 ·have hk : onLane e.kd := .inr (.inr (.inr (.inl k4)))
  rw [if_pos k4, if_pos k4, lnN_set _ _ _ _ _ (hl hk)]
  by_cases hj : j = e.rg.toNat
  ·rw [if_pos hj, if_pos hj, hrg hj hk]
  ·rw [if_neg hj, if_neg hj]
 rw [if_neg k4, if_neg k4]
 by_cases k13 : e.kd = 13
 ·have hk : onLane e.kd := by unfold onLane; omega
  rw [if_pos k13, if_pos k13, lnN_set _ _ _ _ _ (hl hk)]
  by_cases hj : j = e.rg.toNat
  ·rw [if_pos hj, if_pos hj, hrg hj hk]
  ·rw [if_neg hj, if_neg hj]
 rw [if_neg k13, if_neg k13]
 have hif : ∀ x : La, (if j = e.rg.toNat then x else x) = x := fun x => ite_self x
 rw [hif]
 repeat' split
 all_goals rfl
def cntP (P : Nat → Bool) : Nat → Nat
 | 0 => 0
 | T + 1 => cntP P T + (if P T = true then 1 else 0)
theorem cnt_le (P : Nat → Bool) : ∀ T, cntP P T ≤ T
 | 0 => Nat.le_refl _
 | T + 1 => by
  have := cnt_le P T
  unfold cntP
  split <;> omega
theorem cnt_more (P : Nat → Bool) (t : Nat) (hp : P t = false) : ∀ T, cntP (fun u => P u || u == t) T = cntP P T + (if t < T then 1 else 0)
 | 0 => rfl
 | T + 1 => by
  have h := cnt_more P t hp T
  unfold cntP
  rw [h]
  by_cases e : T = t
  ·subst e
   rw [hp]
   simp
  ·have e2 : (T == t) = false := beq_eq_false_iff_ne.2 e
   rw [e2, Bool.or_false]
   by_cases hlt : t < T
   ·rw [if_pos hlt, if_pos (show t < T + 1 by omega)]; omega
   ·rw [if_neg hlt, if_neg (show ¬ t < T + 1 by omega)]; omega
def PubOk (R : Rg) (P : Nat → Bool) (n : Nat) : Prop := cntP P R.tail = n ∧ ∀ t, P t = true → t < R.tail ∧ 2 * t < (slX R.L t).s
theorem slX_set {L : List Sl} (hL : 1 ≤ L.length) (t : Nat) (y : Sl) (u : Nat) : slX (L.set (t % L.length) y) u = if u % L.length = t % L.length then y else slX L u := by
 unfold slX
 rw [List.length_set, List.getD_eq_getElem?_getD]
 by_cases h : u % L.length = t % L.length
 ·rw [if_pos h, h, List.getElem?_set_self (Nat.mod_lt _ (by omega))]; rfl
 ·rw [if_neg h, List.getElem?_set_ne (Ne.symm h), ← List.getD_eq_getElem?_getD]
theorem PubOk.grown {R : Rg} {P : Nat → Bool} {n : Nat} (h : PubOk R P n) (hL : 1 ≤ R.L.length) (t : Nat) (y : Sl) (hy : (slX R.L t).s ≤ y.s) : PubOk { R with L := R.L.set (t % R.L.length) y } P n := by
 refine ⟨h.1, fun u hu => ⟨(h.2 u hu).1, ?_⟩⟩
 show 2 * u < (slX (R.L.set (t % R.L.length) y) u).s
 rw [slX_set hL]
 have h2 := (h.2 u hu).2
 by_cases e : u % R.L.length = t % R.L.length
 ·rw [if_pos e]
  have : slX R.L u = slX R.L t := by unfold slX; rw [e]
  rw [this] at h2
  omega
 ·rw [if_neg e]; exact h2
theorem pub_claim {R : Rg} {P : Nat → Bool} {n : Nat} (h : PubOk R P n) (hc : R.cl = false) (hf : fullB R = false) : PubOk (claimR R) P n ∧ (claimR R).tail = R.tail + 1 ∧ (claimR R).cl = false := by
 have he : claimE R = 0 := by unfold claimE; rw [hc, hf]; rfl
 unfold claimR
 rw [if_pos he]
 refine ⟨⟨?_, fun t ht => ⟨Nat.lt_succ_of_lt (h.2 t ht).1, (h.2 t ht).2⟩⟩, rfl, hc⟩
 show cntP P (R.tail + 1) = n
 unfold cntP
 have : P R.tail = false := by
  cases hx : P R.tail with
  | false => rfl
  | true => have := (h.2 _ hx).1; omega
 rw [this, h.1]
 rfl
theorem pub_pub {R : Rg} {P : Nat → Bool} {n t : Nat} (h : PubOk R P n) (ok : RgOk R) (hf : rfreeB R t = true) (v : Nat) : t < R.tail ∧ PubOk (pubR R t v) (fun u => P u || u == t) (n + 1) ∧ (pubR R t v).tail = R.tail ∧ (pubR R t v).cl = R.cl := by
 unfold rfreeB freeB at hf
 rw [Bool.and_eq_true, decide_eq_true_eq, decide_eq_true_eq] at hf
 obtain ⟨h1, h2, h3⟩ := hf
 have hP : P t = false := by
  cases hx : P t with
  | false => rfl
  | true => have := (h.2 t hx).2; omega
 have he : putE R.L t = 0 := by
  unfold putE
  rw [if_neg (by omega), if_neg (by omega), if_neg (by omega)]
 have hL := ok.2.1.1
 refine ⟨h1, ⟨?_, fun u hu => ?_⟩, pub_tail _ _ _, ?_⟩
 ·rw [pub_tail, cnt_more P t hP, if_pos h1, h.1]
 ·rw [pub_tail]
  have hq : (pubR R t v).L = R.L.set (t % R.L.length) ⟨2 * t + 1, v, everyN R.rd⟩ := by
   unfold pubR putS
   rw [if_neg (by omega), if_pos he]
  rw [hq, slX_set hL]
  rw [Bool.or_eq_true, beq_iff_eq] at hu
  by_cases e : u % R.L.length = t % R.L.length
  ·rw [if_pos e]
   show _ ∧ 2 * u < 2 * t + 1
   have e2 : slX R.L u = slX R.L t := by unfold slX; rw [e]
   rcases hu with hu | hu
   ·have := h.2 u hu
    rw [e2] at this
    omega
   ·omega
  ·rw [if_neg e]
   rcases hu with hu | hu
   ·exact h.2 u hu
   ·subst hu; exact absurd rfl e
 ·unfold pubR; split <;> rfl
theorem pub_take {R : Rg} {P : Nat → Bool} {n : Nat} (h : PubOk R P n) (j : Int) : PubOk (takeR R j) P n ∧ (takeR R j).cl = R.cl := by
 unfold takeR
 split
 ·exact ⟨h, rfl⟩
 ·exact ⟨h, rfl⟩
theorem pub_rel {R : Rg} {P : Nat → Bool} {n : Nat} (h : PubOk R P n) (ok : RgOk R) (j : Int) (t : Nat) : PubOk (relR R j t) P n ∧ (relR R j t).cl = R.cl := by
 unfold relR
 split
 ·refine ⟨?_, rfl⟩
  unfold getS
  split
  ·rename_i hg
   refine h.grown ok.2.1.1 t _ ?_
   unfold gotX
   split
   ·show (slX R.L t).s ≤ 2 * (t + R.L.length)
    have hL := ok.2.1.1
    unfold getE at hg
    split at hg
    ·exact absurd hg (by decide)
    ·split at hg
     ·exact absurd hg (by decide)
     ·split at hg
      ·exact absurd hg (by decide)
      ·omega
   ·exact Nat.le_refl _
  ·exact h
 ·exact ⟨h, rfl⟩
def RiLa (x : La) (T n : Nat) (c : Bool) : Prop := x.R.tail = T ∧ x.cl = c ∧ x.R.cl = false ∧ ∃ P, PubOk x.R P n
def RiOk (f : Fb) (ts ps : List Nat) (cs : List Bool) : Prop := ∀ j : Nat, j < 8 → if j < f.p.rs.length then RiLa (lnN f (j : Int)) (ts.getD j 0) (ps.getD j 0) (cs.getD j false) else ts.getD j 0 = 0 ∧ ps.getD j 0 = 0
def LaOk (f : Fb) : Prop := ∀ j : Nat, j < f.p.rs.length → RgOk (lnN f (j : Int)).R
theorem FabAt.laOk {w : World} {B F : Nat} {f : Fb} {z : Fv} (h : FabAt w B F f z) (ok : FbOk f) : LaOk f := fun j hj => by
 obtain ⟨r, cap, pre, post, _, _, _, _, _, hr, _⟩ := h.lane ok (i := (j : Int)) (by omega) (by omega)
 exact hr.1
theorem rep8 {α : Type} (x : α) (j : Nat) : (List.replicate 8 x).getD j x = x := by
 rw [List.getD_eq_getElem?_getD, List.getElem?_replicate]
 split <;> rfl
theorem riOk_new (p : Pg) (h8 : p.rs.length ≤ 8) : RiOk (newF p) (List.replicate 8 0) (List.replicate 8 0) (List.replicate 8 false) := by
 intro j hj
 rw [rep8, rep8]
 by_cases h : j < (newF p).p.rs.length
 ·rw [if_pos h]
  have h : j < p.rs.length := h
  have e : lnN (newF p) (j : Int) = laneO (p.rs.getD j default) := by
   show (p.rs.map laneO).getD _ default = _
   rw [Int.toNat_natCast, List.getD_eq_getElem?_getD, List.getElem?_map, List.getD_eq_getElem?_getD, List.getElem?_eq_getElem h]
   rfl
  rw [e]
  exact ⟨rfl, rfl, rfl, fun _ => false, rfl, fun t (ht : false = true) => Bool.noConfusion ht⟩
 ·rw [if_neg h]; exact ⟨rfl, rfl⟩
theorem RiOk.le {f : Fb} {ts ps : List Nat} {cs : List Bool} {k : Nat} (h : RiOk f ts ps cs) (hk : TlB f k) (j : Nat) (hj : j < 8) : ps.getD j 0 ≤ ts.getD j 0 ∧ ts.getD j 0 ≤ k := by
 have := h j hj
 by_cases hl : j < f.p.rs.length
 ·rw [if_pos hl] at this
  obtain ⟨h1, _, _, P, h2, _⟩ := this
  have h3 := cnt_le P (lnN f (j : Int)).R.tail
  have h4 := lnN_tail hk (j : Int)
  omega
 ·rw [if_neg hl] at this
  omega
theorem getD_set_ {α : Type} {l : List α} {i j : Nat} {x d : α} (hi : i < l.length) : (l.set i x).getD j d = if j = i then x else l.getD j d := by
 by_cases h : j = i
 ·subst h; rw [if_pos rfl, List.getD_eq_getElem?_getD, List.getElem?_set_self hi]; rfl
 ·rw [if_neg h, List.getD_eq_getElem?_getD, List.getElem?_set_ne (Ne.symm h), ← List.getD_eq_getElem?_getD]
def tsN (ts : List Nat) (e : Ev) : List Nat := if e.kd = 1 then ts.set e.rg.toNat (ts.getD e.rg.toNat 0 + 1) else ts
def psN (ps : List Nat) (e : Ev) : List Nat := if e.kd = 2 then ps.set e.rg.toNat (ps.getD e.rg.toNat 0 + 1) else ps
def csN (cs : List Bool) (e : Ev) : List Bool := if e.kd = 13 then cs.set e.rg.toNat true else cs
theorem right_rg {e : Ev} (h : rightE e = true) : 0 ≤ e.rg ∧ e.rg < 8 := by
 unfold rightE at h
 simp only [Bool.and_eq_true] at h
 obtain ⟨_, _, _, h, _⟩ := h
 split at h
 ·exact of_decide_eq_true h
 ·have := eq_of_beq h
  omega
theorem riLa_step {f : Fb} {e : Ev} {T n : Nat} {c : Bool} (ok : RgOk (lnN f e.rg).R) (h : RiLa (lnN f e.rg) T n c) (hc : canF f e (askF f e.th.toNat) = true) :
  RiLa (stepLa e (askF f e.th.toNat) (lnN f e.rg)) (if e.kd = 1 then T + 1 else T) (if e.kd = 2 then n + 1 else n) (if e.kd = 13 then true else c) ∧ (e.kd = 1 → e.tk = T ∧ c = false) ∧ (e.kd = 2 → e.tk < T) ∧ (e.kd = 3 → e.tk < T ∧ 0 ≤ (askF f e.th.toNat).rd) ∧ (e.kd = 13 → e.tk = T) := by
 generalize askF f e.th.toNat = a at *
 obtain ⟨rfl, rfl, h3, P, h4⟩ := h
 unfold canF fedF at hc
 unfold stepLa
 generalize lnN f e.rg = x at *
 by_cases k1 : e.kd = 1
 ·rw [if_pos k1, if_pos k1] at hc
  simp only [Bool.and_eq_true, Bool.not_eq_true', decide_eq_true_eq] at hc
  obtain ⟨c1, c2, c3⟩ := hc
  obtain ⟨q1, q2, q3⟩ := pub_claim h4 h3 c2
  rw [if_pos k1, if_pos k1, if_neg (by omega), if_neg (by omega)]
  exact ⟨⟨q2, rfl, q3, P, q1⟩, fun _ => ⟨by omega, c1⟩, fun h => by omega, fun h => by omega, fun h => by omega⟩
 rw [if_neg k1] at hc ⊢
 rw [if_neg k1]
 by_cases k2 : e.kd = 2
 ·rw [if_neg (by omega), if_neg (by omega), if_neg (by omega), if_neg (by omega), if_neg (by omega), if_pos k2] at hc
  obtain ⟨q1, q2, q3, q4⟩ := pub_pub h4 ok hc a.vl
  rw [if_pos k2, if_pos k2, if_neg (by omega)]
  exact ⟨⟨q3, rfl, q4.trans h3, _, q2⟩, fun h => by omega, fun _ => q1, fun h => by omega, fun h => by omega⟩
 rw [if_neg k2, if_neg k2]
 by_cases k3 : e.kd = 3
 ·rw [if_neg (by omega), if_neg (by omega), if_neg (by omega), if_neg (by omega), if_neg (by omega), if_neg (by omega), if_pos k3] at hc
  simp only [Bool.and_eq_true, Bool.not_eq_true', decide_eq_true_eq] at hc
  obtain ⟨c1, c2⟩ := hc
  unfold emptyB at c1
  rw [Bool.or_eq_false_iff, decide_eq_false_iff_not, Bool.not_eq_false'] at c1
  obtain ⟨c3, c4⟩ := c1
  unfold headV at c2
  rw [if_pos c3] at c2
  obtain ⟨g1, _, _⟩ := headN_get ok c3
  have hle := ok.2.2.2.2 _ (List.mem_of_getElem? g1)
  obtain ⟨q1, q2⟩ := pub_take h4 a.rd
  rw [if_pos k3, if_neg (by omega)]
  exact ⟨⟨take_tail _ _, rfl, q2.trans h3, P, q1⟩, fun h => by omega, fun h => by omega, fun _ => ⟨by omega, (of_decide_eq_true c3).1⟩, fun h => by omega⟩
 rw [if_neg k3]
 by_cases k4 : e.kd = 4
 ·obtain ⟨q1, q2⟩ := pub_rel h4 ok a.rd e.tk
  rw [if_pos k4, if_neg (by omega)]
  exact ⟨⟨rel_tail _ _ _, rfl, q2.trans h3, P, q1⟩, fun h => by omega, fun h => by omega, fun h => by omega, fun h => by omega⟩
 rw [if_neg k4]
 by_cases k13 : e.kd = 13
 ·rw [if_neg (by omega), if_neg (by omega), if_neg (by omega), if_neg (by omega), if_neg (by omega), if_neg (by omega), if_neg (by omega), if_neg (by omega), if_pos k13] at hc
  rw [if_pos k13, if_pos k13]
  exact ⟨⟨rfl, rfl, h3, P, h4⟩, fun h => by omega, fun h => by omega, fun h => by omega, fun _ => by have := of_decide_eq_true hc; omega⟩
 rw [if_neg k13, if_neg k13]
 exact ⟨⟨rfl, rfl, h3, P, h4⟩, fun h => by omega, fun h => by omega, fun h => by omega, fun h => by omega⟩
theorem riOk_next {f : Fb} {e : Ev} {ts ps : List Nat} {cs : List Bool} (ok : FbOk f) (hp : RgIn f.p) (hla : LaOk f) (h8 : f.p.rs.length ≤ 8) (hl : ts.length = 8 ∧ ps.length = 8 ∧ cs.length = 8) (h : RiOk f ts ps cs) (hd : fdoE f e = 0) :
  RiOk (doF f e) (tsN ts e) (psN ps e) (csN cs e) ∧ ∃ j : Nat, e.rg = (j : Int) ∧ j < 8 ∧ (e.kd = 1 → e.tk = ts.getD j 0 ∧ cs.getD j false = false) ∧ (e.kd = 2 → e.tk < ts.getD j 0) ∧ (e.kd = 3 → e.tk < ts.getD j 0 ∧ 0 ≤ (askO f e.th).rd ∧ 0 ≤ e.th) ∧ (e.kd = 13 → e.tk = ts.getD j 0) := by
 obtain ⟨hn, ha, hm⟩ := fdo_parts hd
 obtain ⟨hri, h0, h1⟩ := names_has hn
 obtain ⟨r0, r1⟩ := right_rg hri
 obtain ⟨i, hi⟩ : ∃ i : Nat, e.rg = (i : Int) := ⟨e.rg.toNat, by omega⟩
 have hin : e.rg.toNat = i := by omega
 have hi8 : i < 8 := by omega
 have hcan : canF f e (askF f e.th.toNat) = true := by
  unfold alwB at ha
  rw [Bool.and_eq_true] at ha
  exact ha.2
 have hask : askO f e.th = askF f e.th.toNat := by
  unfold askO hasF
  rw [decide_eq_true h0, decide_eq_true h1]; rfl
 have hdf : doF f e = perfF f e := by unfold doF; rw [if_pos hd]
 have hrg : onLane e.kd → i < f.p.rs.length := fun hk => by
  have := mat_rg ok hp hn hm hk
  omega
 rw [hask]
 have hper := perf_lane ok hp hn hm
 by_cases hil : i < f.p.rs.length
 ·have hh := h i hi8
  rw [if_pos hil, ← hi] at hh
  obtain ⟨s1, s2, s3, s4, s5⟩ := riLa_step (by rw [hi]; exact hla i hil) hh hcan
  refine ⟨fun j hj => ?_, i, hi, hi8, s2, s3, fun h => ⟨(s4 h).1, (s4 h).2, h0⟩, s5⟩
  rw [hdf, perfF_p, hper j, hin]
  have hj2 := h j hj
  have et : (tsN ts e).getD j 0 = if j = i then (if e.kd = 1 then ts.getD i 0 + 1 else ts.getD i 0) else ts.getD j 0 := by
   unfold tsN
   rw [hin]
   by_cases k : e.kd = 1
   ·rw [if_pos k, getD_set_ (by omega), if_pos k]
   ·rw [if_neg k, if_neg k]; split
    ·rename_i e; rw [e]
    ·rfl
  have ep : (psN ps e).getD j 0 = if j = i then (if e.kd = 2 then ps.getD i 0 + 1 else ps.getD i 0) else ps.getD j 0 := by
   unfold psN
   rw [hin]
   by_cases k : e.kd = 2
   ·rw [if_pos k, getD_set_ (by omega), if_pos k]
   ·rw [if_neg k, if_neg k]; split
    ·rename_i e; rw [e]
    ·rfl
  have ec : (csN cs e).getD j false = if j = i then (if e.kd = 13 then true else cs.getD i false) else cs.getD j false := by
   unfold csN
   rw [hin]
   by_cases k : e.kd = 13
   ·rw [if_pos k, getD_set_ (by omega), if_pos k]
   ·rw [if_neg k, if_neg k]; split
    ·rename_i e; rw [e]
    ·rfl
  rw [et, ep, ec]
  by_cases hji : j = i
  ·subst hji
   rw [if_pos hil, if_pos rfl, if_pos rfl, if_pos rfl, if_pos rfl, ← hi]
   exact s1
  ·rw [if_neg hji, if_neg hji, if_neg hji, if_neg hji]
   exact hj2
 ·have hno : ¬ onLane e.kd := fun hk => hil (hrg hk)
  have n1 : e.kd ≠ 1 := fun h => hno (.inl h)
  have n2 : e.kd ≠ 2 := fun h => hno (.inr (.inl h))
  have n3 : e.kd ≠ 3 := fun h => hno (.inr (.inr (.inl h)))
  have n4 : e.kd ≠ 4 := fun h => hno (.inr (.inr (.inr (.inl h))))
  have n13 : e.kd ≠ 13 := fun h => hno (by unfold onLane; omega)
  refine ⟨fun j hj => ?_, i, hi, hi8, fun h => absurd h n1, fun h => absurd h n2, fun h => absurd h n3, fun h => absurd h n13⟩
  have e1 : stepLa e (askF f e.th.toNat) (lnN f (j : Int)) = lnN f (j : Int) := by
   unfold stepLa
   rw [if_neg n1, if_neg n2, if_neg n3, if_neg n4, if_neg n13]
  have e2 : tsN ts e = ts := if_neg n1
  have e3 : psN ps e = ps := if_neg n2
  have e4 : csN cs e = cs := if_neg n13
  rw [hdf, perfF_p, hper j, e1, ite_self, e2, e3, e4]
  exact h j hj
structure RiAt (w : World) (cp : Array Value) (F TA PA CA : Nat) (f : Fb) (k : Nat) (z : Fv) (ts ps : List Nat) (cs : List Bool) (q : World) : Prop where
 bel : Below w.heap.size w q
 box : Lies q w.heap.size 25 cp
 ta : Lies q TA 60 (cells64 ts).toArray
 pa : Lies q PA 60 (cells64 ps).toArray
 ca : Lies q CA 61 (cs.map Value.bool).toArray
 lens : ts.length = 8 ∧ ps.length = 8 ∧ cs.length = 8
 ma : LwD w.heap.size F noRow f k z q
 nos : w.heap.size ≤ TA ∧ w.heap.size ≤ PA ∧ w.heap.size ≤ CA ∧ TA ≠ PA
section
variable {w q q1 : World} {cp : Array Value} {F TA PA CA k : Nat} {f f' : Fb} {z : Fv} {ts ps : List Nat} {cs : List Bool}
theorem RiAt.later (h : RiAt w cp F TA PA CA f k z ts ps cs q) (hb : Below q.heap.size q q1) : RiAt w cp F TA PA CA f k z ts ps cs q1 :=
 ⟨h.bel.trans (hb.mono h.bel.size), h.box.below hb h.box.lt, h.ta.below hb h.ta.lt, h.pa.below hb h.pa.lt, h.ca.below hb h.ca.lt, h.lens, h.ma.later hb, h.nos⟩
theorem RiAt.did {E : Int} {r : Ending} (h : RiAt w cp F TA PA CA f k z ts ps cs q) (hd : LdD w.heap.size F noRow f' k E q r q1) : r = .returned (.int .i64 E) ∧ ∃ z', RiAt w cp F TA PA CA f' (k + 1) z' ts ps cs q1 := by
 obtain ⟨h1, S, hk, hS, z', hz⟩ := hd
 have no : ∀ {r e cur}, Lies q r e cur → ¬ FbTy e → ¬ S r := fun {r e cur} hl hn hs => by
  obtain ⟨_, _, e2, c2, h3, h4⟩ := hS r hs
  rw [← (hl.same h3).1] at h4
  exact hn h4
 exact ⟨h1, z', h.bel.trans (hk.below h.bel.size (fun r hr hs => by have := (hS r hs).1; omega)), h.box.kept hk (no h.box (by decide)), h.ta.kept hk (no h.ta (by decide)), h.pa.kept hk (no h.pa (by decide)), h.ca.kept hk (no h.ca (by decide)), h.lens, hz, h.nos⟩
theorem cells64_set (l : List Nat) (i n : Nat) : (cells64 l).set i (.int .u64 (n : Int)) = cells64 (l.set i n) := by unfold cells64; rw [List.map_set]
theorem LwD.put {B F k : Nat} {f : Fb} {z : Fv} {q : World} {NO i : Nat} {T : TypeId} {c : Array Value} {v : Value} (h : LwD B F noRow f k z q) (hl : Lies q NO T c) (hT : ¬ FbTy T ∧ T ≠ 84 ∧ T ≠ 78 ∧ T ≠ 122) : LwD B F noRow f k z (q.setCell ⟨NO, i, none⟩ v) := by
 refine h.kept (Kept.put q NO i v) (fun r e cur hl2 (hs : r = NO) => ?_) (fun r hr => hr.elim)
 subst hs
 have e1 := (hl2.same hl).1
 subst e1
 refine ⟨fun hf => ?_, hT.2⟩
 obtain ⟨_, e2, c2, h3, h4⟩ := fb_types h.fab hf
 rw [(h3.same hl).1] at h4
 exact hT.1 h4
theorem RiAt.putT (h : RiAt w cp F TA PA CA f k z ts ps cs q) (i n : Nat) : RiAt w cp F TA PA CA f k z (ts.set i n) ps cs (q.setCell ⟨TA, i, none⟩ (.int .u64 (n : Int))) := by
 have k2 := Kept.put q TA i (.int .u64 (n : Int))
 have n2 : ∀ {r e cur}, Lies q r e cur → e ≠ 60 → ¬ oneRow TA r := fun {r e cur} hl he (e0 : r = TA) => by subst e0; exact he (hl.same h.ta).1
 refine ⟨h.bel.trans (k2.below h.bel.size (fun r hr (e : r = TA) => by have := h.nos.1; omega)), h.box.kept k2 (n2 h.box (by decide)), ?_, h.pa.kept k2 (fun (e : PA = TA) => h.nos.2.2.2 e.symm), h.ca.kept k2 (n2 h.ca (by decide)), by rw [List.length_set]; exact h.lens, h.ma.put h.ta (by decide), h.nos⟩
 have := h.ta.put i (.int .u64 (n : Int))
 rwa [List.setIfInBounds_toArray, cells64_set] at this
theorem RiAt.putP (h : RiAt w cp F TA PA CA f k z ts ps cs q) (i n : Nat) : RiAt w cp F TA PA CA f k z ts (ps.set i n) cs (q.setCell ⟨PA, i, none⟩ (.int .u64 (n : Int))) := by
 have k2 := Kept.put q PA i (.int .u64 (n : Int))
 have n2 : ∀ {r e cur}, Lies q r e cur → e ≠ 60 → ¬ oneRow PA r := fun {r e cur} hl he (e0 : r = PA) => by subst e0; exact he (hl.same h.pa).1
 refine ⟨h.bel.trans (k2.below h.bel.size (fun r hr (e : r = PA) => by have := h.nos.2.1; omega)), h.box.kept k2 (n2 h.box (by decide)), h.ta.kept k2 (fun (e : TA = PA) => h.nos.2.2.2 e), ?_, h.ca.kept k2 (n2 h.ca (by decide)), by rw [List.length_set]; exact h.lens, h.ma.put h.pa (by decide), h.nos⟩
 have := h.pa.put i (.int .u64 (n : Int))
 rwa [List.setIfInBounds_toArray, cells64_set] at this
theorem RiAt.shut (h : RiAt w cp F TA PA CA f k z ts ps cs q) (i : Nat) : RiAt w cp F TA PA CA f k z ts ps (cs.set i true) (q.setCell ⟨CA, i, none⟩ (.bool true)) := by
 have k2 := Kept.put q CA i (.bool true)
 have n2 : ∀ {r e cur}, Lies q r e cur → e ≠ 61 → ¬ oneRow CA r := fun {r e cur} hl he (e0 : r = CA) => by subst e0; exact he (hl.same h.ca).1
 refine ⟨h.bel.trans (k2.below h.bel.size (fun r hr (e : r = CA) => by have := h.nos.2.2.1; omega)), h.box.kept k2 (n2 h.box (by decide)), h.ta.kept k2 (n2 h.ta (by decide)), h.pa.kept k2 (n2 h.pa (by decide)), ?_, by rw [List.length_set]; exact h.lens, h.ma.put h.ca (by decide), h.nos⟩
 have := h.ca.put i (.bool true)
 rwa [List.setIfInBounds_toArray, ← List.map_set] at this
theorem lies_put17 {q : World} {NO i r : Nat} {T1 T2 : TypeId} {c1 c2 : Array Value} {v : Value} (h1 : Lies q NO T1 c1) (h2 : Lies q r T2 c2) (hne : T2 ≠ T1) : Lies (q.setCell ⟨NO, i, none⟩ v) r T2 c2 := h2.kept (Kept.put q NO i v) (fun (e : r = NO) => by subst e; exact hne (h2.same h1).1)
theorem RiAt.cells (h : RiAt w cp F TA PA CA f k z ts ps cs q) {j : Nat} (hj : j < 8) : q.cell? ⟨TA, j, none⟩ = some (.int .u64 ((ts.getD j 0 : Nat) : Int)) ∧ q.cell? ⟨PA, j, none⟩ = some (.int .u64 ((ps.getD j 0 : Nat) : Int)) ∧ q.cell? ⟨CA, j, none⟩ = some (.bool (cs.getD j false)) ∧
  (TA < q.heap.size ∧ PA < q.heap.size ∧ CA < q.heap.size) ∧ q.frozen? ⟨TA, j, none⟩ = false ∧ q.frozen? ⟨PA, j, none⟩ = false ∧ q.frozen? ⟨CA, j, none⟩ = false := by
 obtain ⟨l1, l2, l3⟩ := h.lens
 refine ⟨?_, ?_, ?_, ⟨h.ta.lt, h.pa.lt, h.ca.lt⟩, h.ta.free j, h.pa.free j, h.ca.free j⟩
 ·rw [h.ta.cell, List.getElem?_toArray, List.getD_eq_getElem?_getD]
  unfold cells64
  rw [List.getElem?_map, List.getElem?_eq_getElem (by omega)]; rfl
 ·rw [h.pa.cell, List.getElem?_toArray, List.getD_eq_getElem?_getD]
  unfold cells64
  rw [List.getElem?_map, List.getElem?_eq_getElem (by omega)]; rfl
 ·rw [h.ca.cell, List.getElem?_toArray, List.getD_eq_getElem?_getD, List.getElem?_map, List.getElem?_eq_getElem (by omega)]; rfl
end
theorem ldd_lies17 {B F k : Nat} {D : Nat → Prop} {f' : Fb} {E : Int} {q q' : World} {r : Ending} {b : Nat} {T : TypeId} {cs : Array Value} (hd : LdD B F D f' k E q r q') (hl : Lies q b T cs) (hT : ¬ FbTy T) : Lies q' b T cs := by
 obtain ⟨_, S, hk, hS, _⟩ := hd
 refine hl.kept hk (fun hs => ?_)
 obtain ⟨_, _, e2, c2, h3, h4⟩ := hS b hs
 rw [← (hl.same h3).1] at h4
 exact hT h4
set_option maxHeartbeats 16000000 in
set_option maxRecDepth 100000 in
theorem rings_walk (y0 : Pa) (a1 : Option Addr) (len1 cap1 : Nat) (l : List Ev) (w : World) (w0 : PaAt w y0) (w1 : EvArg w a1 len1 cap1 l) : Calls Tryz.prog 7 #[.agg (pgC y0.A y0.c y0.B y0.d y0.p), .slice a1 len1 cap1] w fun e w' => e = .returned (.bool true) ∧ Below w.heap.size w w' := by
 obtain ⟨A, c, Q, d, p⟩ := y0
 obtain ⟨hp, hok⟩ := w0
 obtain ⟨hlen, hev, heo⟩ := w1
 subst hlen
 obtain ⟨he1, he2⟩ := seq_form hev
 obtain ⟨hd1, hd2⟩ := hp.2.form
 have hb0 : Below w.heap.size w (w.alloc (.cells (pgC A c Q d p) 25)) := (Below.refl _ _).alloc (Nat.le_refl _) _
 have l0 := Lies.made w 25 (pgC A c Q d p)
 have HAW := Lib.hid (fun q => awake_any q)
 have HFE := Lib.hid (fun (q : World) (hq : Below w.heap.size w q) => few17 p A c Q d q (hp.later hq) hok)
 have HB0 := Lib.hid hb0
 have HL0 := Lib.hid l0
 have HP := Lib.hid hp
 have HOK := Lib.hid hok
 have HEV := Lib.hid hev
 have HEO := Lib.hid heo
 clear hb0 l0 hp hok hev heo
 obtain ⟨fb, hfb⟩ : ∃ b, (fewB p 100 && rightP p) = b := ⟨_, rfl⟩
 rw [hfb] at HFE
 have HFB := Lib.hid hfb
 clear hfb
 go_enter Tryz.func7, Tryz.ntmps7
 go_wp2_with fail
 refine (HAW.out _).mono ?_
 rintro e wA ⟨rfl, hbA⟩
 have HB1 := Lib.hid (HB0.out.trans (hbA.mono HB0.out.size))
 have HL1 := Lib.hid (HL0.out.below hbA HL0.out.lt)
 clear hbA HB0 HL0
 have c0 := (HL1.out.cell 0).trans (show _ = some (Value.slice A p.rs.length c) from rfl)
 have c1 := (HL1.out.cell 1).trans (show _ = some (Value.slice Q p.ts.length d) from rfl)
 have cl := HL1.out.lt
 go_wp2_with fail
 refine (HFE.out _ HB1.out).mono ?_
 rintro e wB ⟨rfl, hbB⟩
 have HB2 := Lib.hid (HB1.out.trans (hbB.mono HB1.out.size))
 have HL2 := Lib.hid (HL1.out.below hbB HL1.out.lt)
 clear hbB HB1 HL1 c0 c1 cl
 cases fb with
 | false =>
  go_wp2_with fail
  refine (HAW.out _).mono ?_
  rintro e w3 ⟨rfl, hb3⟩
  have HB3 := Lib.hid (HB2.out.trans (hb3.mono HB2.out.size))
  clear hb3
  go_wp2_with fail
  go_ret
  exact ⟨rfl, HB3.out⟩
 | true =>
  by_cases h80 : 80 < l.length
  ·have e80 : decide ((80 : Int) < (l.length : Int)) = true := decide_eq_true (by omega)
   go_wp2_with fail
   refine (HAW.out _).mono ?_
   rintro e w3 ⟨rfl, hb3⟩
   have HB3 := Lib.hid (HB2.out.trans (hb3.mono HB2.out.size))
   clear hb3
   go_wp2_with fail
   go_ret
   exact ⟨rfl, HB3.out⟩
  have e80 : decide ((80 : Int) < (l.length : Int)) = false := decide_eq_false (by omega)
  have hfr := HFB.out
  rw [Bool.and_eq_true] at hfr
  obtain ⟨⟨ht0, ht8, hr8⟩, _⟩ := rightP_all hfr.2
  have HNW := Lib.hid (fbNew p A c Q d wB (HP.out.later HB2.out) HOK.out hfr.2)
  have HG0 := Lib.hid (newF_good HOK.out hfr.2)
  clear hfr
  have c0 := (HL2.out.cell 0).trans (show _ = some (Value.slice A p.rs.length c) from rfl)
  have c1 := (HL2.out.cell 1).trans (show _ = some (Value.slice Q p.ts.length d) from rfl)
  have cl := HL2.out.lt
  go_wp2_with fail
  refine HNW.out.mono ?_
  rintro e w3 ⟨F, z, rfl, hF, hf, hb3⟩
  have HB3 := Lib.hid (HB2.out.trans (hb3.mono HB2.out.size))
  have HL3 := Lib.hid (HL2.out.below hb3 HL2.out.lt)
  have HF3 := Lib.hid (hf.mono (B' := w.heap.size) HB2.out.size)
  clear hF hf hb3 HNW HB2 HL2 c0 c1 cl e80
  go_upto_region 8 with (fail)
  have hb4 : Below w3.heap.size w3 (((w3.alloc (.cells #[.int .u64 0, .int .u64 0, .int .u64 0, .int .u64 0, .int .u64 0, .int .u64 0, .int .u64 0, .int .u64 0] 60)).alloc (.cells #[.int .u64 0, .int .u64 0, .int .u64 0, .int .u64 0, .int .u64 0, .int .u64 0, .int .u64 0, .int .u64 0] 60)).alloc (.cells #[.bool false, .bool false, .bool false, .bool false, .bool false, .bool false, .bool false, .bool false] 61)) := (((Below.refl _ _).alloc (Nat.le_refl _) _).alloc (by simp) _).alloc (by simp; omega) _
  have lT := ((Lies.made w3 60 #[.int .u64 0, .int .u64 0, .int .u64 0, .int .u64 0, .int .u64 0, .int .u64 0, .int .u64 0, .int .u64 0]).alloc (.cells #[.int .u64 0, .int .u64 0, .int .u64 0, .int .u64 0, .int .u64 0, .int .u64 0, .int .u64 0, .int .u64 0] 60)).alloc (.cells #[.bool false, .bool false, .bool false, .bool false, .bool false, .bool false, .bool false, .bool false] 61)
  have lP := (Lies.made (w3.alloc (.cells #[.int .u64 0, .int .u64 0, .int .u64 0, .int .u64 0, .int .u64 0, .int .u64 0, .int .u64 0, .int .u64 0] 60)) 60 #[.int .u64 0, .int .u64 0, .int .u64 0, .int .u64 0, .int .u64 0, .int .u64 0, .int .u64 0, .int .u64 0]).alloc (.cells #[.bool false, .bool false, .bool false, .bool false, .bool false, .bool false, .bool false, .bool false] 61)
  have lC := Lies.made ((w3.alloc (.cells #[.int .u64 0, .int .u64 0, .int .u64 0, .int .u64 0, .int .u64 0, .int .u64 0, .int .u64 0, .int .u64 0] 60)).alloc (.cells #[.int .u64 0, .int .u64 0, .int .u64 0, .int .u64 0, .int .u64 0, .int .u64 0, .int .u64 0, .int .u64 0] 60)) 61 #[.bool false, .bool false, .bool false, .bool false, .bool false, .bool false, .bool false, .bool false]
  rw [World.size_alloc] at lP
  rw [World.size_alloc, World.size_alloc] at lC
  have HI : Hid (RiAt w (pgC A c Q d p) F w3.heap.size (w3.heap.size + 1) (w3.heap.size + 1 + 1) (newF p) 0 z (List.replicate 8 0) (List.replicate 8 0) (List.replicate 8 false) (((w3.alloc (.cells #[.int .u64 0, .int .u64 0, .int .u64 0, .int .u64 0, .int .u64 0, .int .u64 0, .int .u64 0, .int .u64 0] 60)).alloc (.cells #[.int .u64 0, .int .u64 0, .int .u64 0, .int .u64 0, .int .u64 0, .int .u64 0, .int .u64 0, .int .u64 0] 60)).alloc (.cells #[.bool false, .bool false, .bool false, .bool false, .bool false, .bool false, .bool false, .bool false] 61))) :=
   ⟨HB3.out.trans (hb4.mono HB3.out.size), HL3.out.below hb4 HL3.out.lt, lT, lP, lC, ⟨rfl, rfl, rfl⟩, ⟨HF3.out.later hb4, HG0.out, fun r hr => hr.elim⟩, HB3.out.size, Nat.le_succ_of_le HB3.out.size, Nat.le_succ_of_le (Nat.le_succ_of_le HB3.out.size), by omega⟩
  have HSO : Hid (RiOk (newF p) (List.replicate 8 0) (List.replicate 8 0) (List.replicate 8 false) ∧ (newF p).p = p) := ⟨riOk_new p hr8, rfl⟩
  clear hb4 lT lP lC HB3 HL3 HF3 HG0
  generalize hw4 : (((w3.alloc (.cells #[.int .u64 0, .int .u64 0, .int .u64 0, .int .u64 0, .int .u64 0, .int .u64 0, .int .u64 0, .int .u64 0] 60)).alloc (.cells #[.int .u64 0, .int .u64 0, .int .u64 0, .int .u64 0, .int .u64 0, .int .u64 0, .int .u64 0, .int .u64 0] 60)).alloc (.cells #[.bool false, .bool false, .bool false, .bool false, .bool false, .bool false, .bool false, .bool false] 61)) = w4 at *
  clear hw4
  generalize w3.heap.size = TA at *
  obtain ⟨PA, hPA⟩ : ∃ n, TA + 1 = n := ⟨_, rfl⟩
  rw [hPA] at HI ⊢
  obtain ⟨CA, hCA⟩ : ∃ n, PA + 1 = n := ⟨_, rfl⟩
  rw [hCA] at HI ⊢
  clear hPA hCA
  go_wp2_with fail
  go_loopw [36] (fun u wr => ∃ (i : Nat) (f : Fb) (z : Fv) (ts ps : List Nat) (cs : List Bool), i ≤ l.length ∧ u = .int .i64 i ∧ Hid (RiAt w (pgC A c Q d p) F TA PA CA f i z ts ps cs wr) ∧ Hid (RiOk f ts ps cs ∧ f.p = p)) (fun u _ => l.length - (intOf u).toNat)
  case atStart => exact ⟨0, _, _, _, _, _, by omega, rfl, HI, HSO⟩
  case round =>
   clear HI HSO z
   obtain ⟨i, f, z, ts, ps, cs, hi, rfl, HI, HSO⟩ := hrel
   by_cases hlt : i < l.length
   ·have hii : (i : Int) < (l.length : Int) := by omega
    obtain ⟨e, he⟩ : ∃ e, l[i]? = some e := ⟨_, List.getElem?_eq_getElem hlt⟩
    have heo := HEO.out e (List.mem_of_getElem? he)
    obtain ⟨b, off, rfl, hbl, hec⟩ := EvsAt.at_ HEV.out he
    have hbw := Nat.lt_of_lt_of_le hbl HI.out.bel.size
    have x0 := (HI.out.bel.cell hbl).trans (hec 0 _ (by decide) rfl)
    have x1 := (HI.out.bel.cell hbl).trans (hec 1 _ (by decide) rfl)
    have x2 := (HI.out.bel.cell hbl).trans (hec 2 _ (by decide) rfl)
    have x3 := (HI.out.bel.cell hbl).trans (hec 3 _ (by decide) rfl)
    have x4 := (HI.out.bel.cell hbl).trans (hec 4 _ (by decide) rfl)
    rw [Nat.add_zero] at x0
    have hb5 : Below wr.heap.size wr (wr.alloc (.cells (evC e) 43)) := (Below.refl _ _).alloc (Nat.le_refl _) _
    have HI5 := Lib.hid (HI.out.later hb5)
    have HE5 := Lib.hid (Lies.made wr 43 (evC e))
    have HEE := Lib.hid heo
    clear hec he heo hb5 HI
    go_upto_region 11 with (fail)
    clear x0 x1 x2 x3 x4
    generalize wr.alloc (.cells (evC e) 43) = w5 at *
    generalize wr.heap.size = N9 at *
    have x0 := (HE5.out.cell 0).trans (show _ = some (Value.int .i64 e.th) from rfl)
    have xl := HE5.out.lt
    have HAK := Lib.hid (fun (t : Int) => fbAskO t HI5.out.ma.fab HI5.out.ma.good.ok)
    go_wp2_with fail
    refine (HAK.out _).mono ?_
    rintro r w6 ⟨rfl, hb6⟩
    have HI6 := Lib.hid (HI5.out.later hb6)
    have HE6 := Lib.hid (HE5.out.below hb6 HE5.out.lt)
    obtain ⟨a, ha⟩ : ∃ a, askO f (max e.th 0) = a := ⟨_, rfl⟩
    obtain ⟨ae, hae⟩ : ∃ a, askE f (max e.th 0) = a := ⟨_, rfl⟩
    rw [ha, hae]
    have HA := Lib.hid ha
    have hb7 : Below w6.heap.size w6 (w6.alloc (.cells (akC a) 63)) := (Below.refl _ _).alloc (Nat.le_refl _) _
    have HI7 := Lib.hid (HI6.out.later hb7)
    have HE7 := Lib.hid (HE6.out.below hb7 HE6.out.lt)
    have HB7 := Lib.hid (Lies.made w6 63 (akC a))
    clear ha hae HAK hb6 hb7 HI5 HE5 HI6 HE6 x0 xl
    go_upto_region 12 with (fail)
    generalize w6.alloc (.cells (akC a) 63) = w7 at *
    generalize w6.heap.size = N8 at *
    have x0 := (HE7.out.cell 0).trans (show _ = some (Value.int .i64 e.th) from rfl)
    have x1 := (HE7.out.cell 1).trans (show _ = some (Value.int .i64 e.kd) from rfl)
    have x2 := (HE7.out.cell 2).trans (show _ = some (Value.int .i64 e.rg) from rfl)
    have x3 := (HE7.out.cell 3).trans (show _ = some (Value.int .u64 (e.tk : Int)) from rfl)
    have x4 := (HE7.out.cell 4).trans (show _ = some (Value.int .u64 (e.vl : Int)) from rfl)
    have xl := HE7.out.lt
    have HOKF := Lib.hid (show FbOk f ∧ RgIn f.p ∧ LaOk f from ⟨HI7.out.ma.good.ok, HI7.out.ma.good.rg, HI7.out.ma.fab.laOk HI7.out.ma.good.ok⟩)
    have HDO := Lib.hid (lwdDo (e := e) HEE.out (by omega) HI7.out.ma)
    go_wp2_with fail
    refine HDO.out.mono ?_
    rintro r w8 hd
    obtain ⟨rfl, z8, hse⟩ := HI7.out.did hd
    have HE8 := Lib.hid (ldd_lies17 hd HE7.out (by decide))
    have HB8 := Lib.hid (ldd_lies17 hd HB7.out (by decide))
    have HI8 := Lib.hid hse
    clear hd hse HDO HI7 HE7 HB7 x0 x1 x2 x3 x4 xl
    obtain ⟨E, hE⟩ : ∃ E, fdoE f e = E := ⟨_, rfl⟩
    rw [hE]
    by_cases hE0 : E = 0
    case neg =>
     have e1 : (E == 0) = false := beq_eq_false_iff_ne.2 hE0
     have e2 : (E != 0) = true := by rw [bne, e1]; rfl
     have hdf : doF f e = f := by unfold doF; rw [hE, if_neg hE0]
     rw [hdf] at HI8
     clear hdf hE hE0
     go_wp2
     go_roundw
     case rel => exact ⟨i + 1, f, z8, ts, ps, cs, by omega, by go_num, HI8, HSO⟩
     case measure => simp [intOf]; omega
    subst hE0
    obtain ⟨hnx, j, hej, hj8, j1, j2, j3, j13⟩ := riOk_next HOKF.out.1 HOKF.out.2.1 HOKF.out.2.2 (by rw [HSO.out.2]; exact hr8) HI8.out.lens HSO.out.1 hE
    have hpf : (doF f e).p = p := by unfold doF; rw [if_pos hE, perfF_p]; exact HSO.out.2
    have HNX : Hid (RiOk (doF f e) (tsN ts e) (psN ps e) (csN cs e) ∧ (doF f e).p = p) := ⟨hnx, hpf⟩
    have HJ3 : Hid (e.kd = 3 → e.tk < ts.getD j 0 ∧ 0 ≤ a.rd) := fun h => by
     obtain ⟨g1, g2, g3⟩ := j3 h
     rw [← HA.out, Int.max_eq_left g3]
     exact ⟨g1, g2⟩
    have HPL := Lib.hid (HNX.out.1.le HI8.out.ma.good.tl j hj8)
    have HJ := Lib.hid (And.intro j1 (And.intro j2 j13))
    generalize doF f e = f8 at *
    clear hnx hpf hE HOKF HSO HEE HA j1 j2 j3 j13
    obtain ⟨th, kd, rg, tk, vl⟩ := e
    replace hej : rg = (j : Int) := hej
    subst hej
    obtain ⟨T, hT⟩ : ∃ n, ts.getD j 0 = n := ⟨_, rfl⟩
    obtain ⟨U, hU⟩ : ∃ n, ps.getD j 0 = n := ⟨_, rfl⟩
    obtain ⟨c9, hc9⟩ : ∃ n, cs.getD j false = n := ⟨_, rfl⟩
    obtain ⟨m1, m2, m3, ml, m4, m5, m6⟩ := HI8.out.cells hj8
    rw [hT] at m1
    rw [hU] at m2
    rw [hc9] at m3
    have hjj : (j : Int) < 8 := by omega
    have y1 := (HE8.out.cell 1).trans (show _ = some (Value.int .i64 kd) from rfl)
    have y2 := (HE8.out.cell 2).trans (show _ = some (Value.int .i64 (j : Int)) from rfl)
    have y3 := (HE8.out.cell 3).trans (show _ = some (Value.int .u64 (tk : Int)) from rfl)
    have yl := HE8.out.lt
    have b3 := (HB8.out.cell 3).trans (show _ = some (Value.int .i64 a.rd) from rfl)
    have bl := HB8.out.lt
    obtain ⟨rd, hrd⟩ : ∃ n, a.rd = n := ⟨_, rfl⟩
    rw [hrd] at b3
    rw [hT, hrd] at HJ3
    rw [hT, hc9] at HJ
    have h8m : Int.tmod (j : Int) 8 = (j : Int) := by have h := Int.tmod_eq_emod_of_nonneg (a := (j : Int)) (b := 8) (by omega); omega
    have HT := Lib.hid (And.intro hT (And.intro hU hc9))
    clear hT hU hc9 hrd
    by_cases k1 : kd = 1
    ·subst k1
     obtain ⟨h1, h2⟩ := HJ.out.1 rfl
     have h1 : tk = T := h1
     subst h1
     subst h2
     have HNT : Hid (RiOk f8 (ts.set j (tk + 1)) ps cs ∧ f8.p = p) := by
      have := HNX.out
      unfold tsN psN csN at this
      rw [if_pos rfl, if_neg (show ¬ (1 : Int) = 2 by omega), if_neg (show ¬ (1 : Int) = 13 by omega), Int.toNat_natCast, HT.out.1] at this
      exact this
     have hts : (ts.set j (tk + 1)).getD j 0 = tk + 1 := by rw [getD_set_ (by have := HI8.out.lens.1; omega), if_pos rfl]
     obtain ⟨h1, h2⟩ := HNT.out.1.le HI8.out.ma.good.tl j hj8
     rw [hts, HT.out.2.1] at h1
     rw [hts] at h2
     go_upto_region 15 with (fail)
     go_quiet (fail)
     go_upto_region 29 with (fail)
     have hI := (HI8.out.later (below_drewN (Below.refl w8.heap.size w8) nq)).putT j (tk + 1)
     have hE := lies_put17 (i := j) (v := .int .u64 ((tk + 1 : Nat) : Int)) (HI8.out.later (below_drewN (Below.refl w8.heap.size w8) nq)).ta (HE8.out.below (below_drewN (Below.refl w8.heap.size w8) nq) HE8.out.lt) (by decide)
     rw [show ((tk + 1 : Nat) : Int) = (tk : Int) + 1 by omega] at hI hE
     have HI9 := Lib.hid hI
     have HE9 := Lib.hid hE
     clear hI hE m1 m2 m3 ml m4 m5 m6 y1 y2 y3 yl b3 bl HE8 HB8 HI8
     generalize (w8.drewN nq).setCell ⟨TA, j, none⟩ (.int .u64 ((tk : Int) + 1)) = w9 at *
     obtain ⟨m1, m2, m3, ml, m4, m5, m6⟩ := HI9.out.cells hj8
     obtain ⟨T9, hT9⟩ : ∃ n, (ts.set j (tk + 1)).getD j 0 = n := ⟨_, rfl⟩
     obtain ⟨U9, hU9⟩ : ∃ n, (ps).getD j 0 = n := ⟨_, rfl⟩
     rw [hT9] at m1
     rw [hU9] at m2
     have hg9 : ¬ T9 < U9 := by rw [hts] at hT9; rw [HT.out.2.1] at hU9; omega
     have y2 := (HE9.out.cell 2).trans (show _ = some (Value.int .i64 (j : Int)) from rfl)
     have yl := HE9.out.lt
     have hj0 : decide ((0 : Int) ≤ (j : Int)) = true := decide_eq_true (by omega)
     clear hT9 hU9 HE9
     go_quiet (fail)
     have HI9 := Lib.hid (HI9.out.later (below_drewN (Below.refl _ _) nq))
     clear m1 m2 m3 ml m4 m5 m6 y2 yl
     go_wp2
     go_roundw
     case rel => exact ⟨i + 1, f8, z8, ts.set j (tk + 1), ps, cs, by omega, by go_num, HI9, HNT⟩
     case measure => simp [intOf]; omega
    by_cases k2 : kd = 2
    ·subst k2
     have h1 := HJ.out.2.1 rfl
     have h1 : tk < T := h1
     have HNT : Hid (RiOk f8 ts (ps.set j (U + 1)) cs ∧ f8.p = p) := by
      have := HNX.out
      unfold tsN psN csN at this
      rw [if_neg (show ¬ (2 : Int) = 1 by omega), if_pos rfl, if_neg (show ¬ (2 : Int) = 13 by omega), Int.toNat_natCast, HT.out.2.1] at this
      exact this
     have hps : (ps.set j (U + 1)).getD j 0 = U + 1 := by rw [getD_set_ (by have := HI8.out.lens.2.1; omega), if_pos rfl]
     obtain ⟨g1, g2⟩ := HNT.out.1.le HI8.out.ma.good.tl j hj8
     rw [hps, HT.out.1] at g1
     rw [HT.out.1] at g2
     go_upto_region 20 with (fail)
     have hI := HI8.out.putP j (U + 1)
     have hE := lies_put17 (i := j) (v := .int .u64 ((U + 1 : Nat) : Int)) HI8.out.pa HE8.out (by decide)
     rw [show ((U + 1 : Nat) : Int) = (U : Int) + 1 by omega] at hI hE
     have HI9 := Lib.hid hI
     have HE9 := Lib.hid hE
     clear hI hE m1 m2 m3 ml m4 m5 m6 y1 y2 y3 yl b3 bl HE8 HB8 HI8
     generalize w8.setCell ⟨PA, j, none⟩ (.int .u64 ((U : Int) + 1)) = w9 at *
     obtain ⟨m1, m2, m3, ml, m4, m5, m6⟩ := HI9.out.cells hj8
     rw [HT.out.1] at m1
     have y1 := (HE9.out.cell 1).trans (show _ = some (Value.int .i64 2) from rfl)
     have y2 := (HE9.out.cell 2).trans (show _ = some (Value.int .i64 (j : Int)) from rfl)
     have y3 := (HE9.out.cell 3).trans (show _ = some (Value.int .u64 (tk : Int)) from rfl)
     have yl := HE9.out.lt
     have hn9 : ¬ T ≤ tk := by omega
     go_quiet (fail)
     go_upto_region 29 with (fail)
     have HI9 := Lib.hid (HI9.out.later (below_drewN (Below.refl _ _) nq))
     have HE9 := Lib.hid (HE9.out.below (below_drewN (Below.refl _ _) nq) HE9.out.lt)
     clear m1 m2 m3 ml m4 m5 m6 y1 y2 y3 yl
     generalize w9.drewN nq = w9 at *
     obtain ⟨m1, m2, m3, ml, m4, m5, m6⟩ := HI9.out.cells hj8
     obtain ⟨T9, hT9⟩ : ∃ n, (ts).getD j 0 = n := ⟨_, rfl⟩
     obtain ⟨U9, hU9⟩ : ∃ n, (ps.set j (U + 1)).getD j 0 = n := ⟨_, rfl⟩
     rw [hT9] at m1
     rw [hU9] at m2
     have hg9 : ¬ T9 < U9 := by rw [HT.out.1] at hT9; rw [hps] at hU9; omega
     have y2 := (HE9.out.cell 2).trans (show _ = some (Value.int .i64 (j : Int)) from rfl)
     have yl := HE9.out.lt
     have hj0 : decide ((0 : Int) ≤ (j : Int)) = true := decide_eq_true (by omega)
     clear hT9 hU9 HE9
     go_quiet (fail)
     have HI9 := Lib.hid (HI9.out.later (below_drewN (Below.refl _ _) nq))
     clear m1 m2 m3 ml m4 m5 m6 y2 yl
     go_wp2
     go_roundw
     case rel => exact ⟨i + 1, f8, z8, ts, ps.set j (U + 1), cs, by omega, by go_num, HI9, HNT⟩
     case measure => simp [intOf]; omega
    by_cases k3 : kd = 3
    ·subst k3
     obtain ⟨h1, h2⟩ := HJ3.out rfl
     have h1 : tk < T := h1
     have HNT : Hid (RiOk f8 ts ps cs ∧ f8.p = p) := by
      have := HNX.out
      unfold tsN psN csN at this
      rw [if_neg (show ¬ (3 : Int) = 1 by omega), if_neg (show ¬ (3 : Int) = 2 by omega), if_neg (show ¬ (3 : Int) = 13 by omega)] at this
      exact this
     obtain ⟨g1, g2⟩ := HNT.out.1.le HI8.out.ma.good.tl j hj8
     have hn9 : ¬ T ≤ tk := by omega
     have hn8 : ¬ rd < 0 := by omega
     have hn7 : decide (rd < 0) = false := decide_eq_false hn8
     go_upto_region 23 with (fail)
     go_quiet (fail)
     go_upto_region 29 with (fail)
     have HI9 := Lib.hid (HI8.out.later (below_drewN (Below.refl _ _) nq))
     have HE9 := Lib.hid (HE8.out.below (below_drewN (Below.refl _ _) nq) HE8.out.lt)
     clear m1 m2 m3 ml m4 m5 m6 y1 y2 y3 yl b3 bl HE8 HB8 HI8
     generalize w8.drewN nq = w9 at *
     obtain ⟨m1, m2, m3, ml, m4, m5, m6⟩ := HI9.out.cells hj8
     obtain ⟨T9, hT9⟩ : ∃ n, (ts).getD j 0 = n := ⟨_, rfl⟩
     obtain ⟨U9, hU9⟩ : ∃ n, (ps).getD j 0 = n := ⟨_, rfl⟩
     rw [hT9] at m1
     rw [hU9] at m2
     have hg9 : ¬ T9 < U9 := by omega
     have y2 := (HE9.out.cell 2).trans (show _ = some (Value.int .i64 (j : Int)) from rfl)
     have yl := HE9.out.lt
     have hj0 : decide ((0 : Int) ≤ (j : Int)) = true := decide_eq_true (by omega)
     clear hT9 hU9 HE9
     go_quiet (fail)
     have HI9 := Lib.hid (HI9.out.later (below_drewN (Below.refl _ _) nq))
     clear m1 m2 m3 ml m4 m5 m6 y2 yl
     go_wp2
     go_roundw
     case rel => exact ⟨i + 1, f8, z8, ts, ps, cs, by omega, by go_num, HI9, HNT⟩
     case measure => simp [intOf]; omega
    by_cases k13 : kd = 13
    ·subst k13
     have h1 := HJ.out.2.2 rfl
     have h1 : tk = T := h1
     subst h1
     have HNT : Hid (RiOk f8 ts ps (cs.set j true) ∧ f8.p = p) := by
      have := HNX.out
      unfold tsN psN csN at this
      rw [if_neg (show ¬ (13 : Int) = 1 by omega), if_neg (show ¬ (13 : Int) = 2 by omega), if_pos rfl, Int.toNat_natCast] at this
      exact this
     obtain ⟨g1, g2⟩ := HNT.out.1.le HI8.out.ma.good.tl j hj8
     go_upto_region 27 with (fail)
     have HI9 := Lib.hid (HI8.out.shut j)
     have HE9 := Lib.hid (lies_put17 (i := j) (v := .bool true) HI8.out.ca HE8.out (by decide))
     clear m1 m2 m3 ml m4 m5 m6 y1 y2 y3 yl b3 bl HE8 HB8 HI8
     generalize w8.setCell ⟨CA, j, none⟩ (.bool true) = w9 at *
     obtain ⟨m1, m2, m3, ml, m4, m5, m6⟩ := HI9.out.cells hj8
     rw [HT.out.1] at m1
     have y1 := (HE9.out.cell 1).trans (show _ = some (Value.int .i64 13) from rfl)
     have y2 := (HE9.out.cell 2).trans (show _ = some (Value.int .i64 (j : Int)) from rfl)
     have y3 := (HE9.out.cell 3).trans (show _ = some (Value.int .u64 (tk : Int)) from rfl)
     have yl := HE9.out.lt
     go_quiet (fail)
     go_upto_region 29 with (fail)
     have HI9 := Lib.hid (HI9.out.later (below_drewN (Below.refl _ _) nq))
     have HE9 := Lib.hid (HE9.out.below (below_drewN (Below.refl _ _) nq) HE9.out.lt)
     clear m1 m2 m3 ml m4 m5 m6 y1 y2 y3 yl
     generalize w9.drewN nq = w9 at *
     obtain ⟨m1, m2, m3, ml, m4, m5, m6⟩ := HI9.out.cells hj8
     obtain ⟨T9, hT9⟩ : ∃ n, (ts).getD j 0 = n := ⟨_, rfl⟩
     obtain ⟨U9, hU9⟩ : ∃ n, (ps).getD j 0 = n := ⟨_, rfl⟩
     rw [hT9] at m1
     rw [hU9] at m2
     have hg9 : ¬ T9 < U9 := by omega
     have y2 := (HE9.out.cell 2).trans (show _ = some (Value.int .i64 (j : Int)) from rfl)
     have yl := HE9.out.lt
     have hj0 : decide ((0 : Int) ≤ (j : Int)) = true := decide_eq_true (by omega)
     clear hT9 hU9 HE9
     go_quiet (fail)
     have HI9 := Lib.hid (HI9.out.later (below_drewN (Below.refl _ _) nq))
     clear m1 m2 m3 ml m4 m5 m6 y2 yl
     go_wp2
     go_roundw
     case rel => exact ⟨i + 1, f8, z8, ts, ps, cs.set j true, by omega, by go_num, HI9, HNT⟩
     case measure => simp [intOf]; omega
    have e1 : (kd == 1) = false := beq_eq_false_iff_ne.2 k1
    have e2 : (kd == 2) = false := beq_eq_false_iff_ne.2 k2
    have e3 : (kd == 3) = false := beq_eq_false_iff_ne.2 k3
    have e13 : (kd == 13) = false := beq_eq_false_iff_ne.2 k13
    have HNT : Hid (RiOk f8 ts ps cs ∧ f8.p = p) := by
     have := HNX.out
     unfold tsN psN csN at this
     rw [if_neg k1, if_neg k2, if_neg k13] at this
     exact this
    obtain ⟨g1, g2⟩ := HNT.out.1.le HI8.out.ma.good.tl j hj8
    go_upto_region 29 with (fail)
    have HI9 := Lib.hid HI8.out
    have HE9 := Lib.hid HE8.out
    clear m1 m2 m3 ml m4 m5 m6 y1 y2 y3 yl b3 bl HE8 HB8 HI8
    generalize w8 = w9 at *
    obtain ⟨m1, m2, m3, ml, m4, m5, m6⟩ := HI9.out.cells hj8
    obtain ⟨T9, hT9⟩ : ∃ n, (ts).getD j 0 = n := ⟨_, rfl⟩
    obtain ⟨U9, hU9⟩ : ∃ n, (ps).getD j 0 = n := ⟨_, rfl⟩
    rw [hT9] at m1
    rw [hU9] at m2
    have hg9 : ¬ T9 < U9 := by omega
    have y2 := (HE9.out.cell 2).trans (show _ = some (Value.int .i64 (j : Int)) from rfl)
    have yl := HE9.out.lt
    have hj0 : decide ((0 : Int) ≤ (j : Int)) = true := decide_eq_true (by omega)
    clear hT9 hU9 HE9
    go_quiet (fail)
    have HI9 := Lib.hid (HI9.out.later (below_drewN (Below.refl _ _) nq))
    clear m1 m2 m3 ml m4 m5 m6 y2 yl
    go_wp2
    go_roundw
    case rel => exact ⟨i + 1, f8, z8, ts, ps, cs, by omega, by go_num, HI9, HNT⟩
    case measure => simp [intOf]; omega
   ·obtain rfl : i = l.length := by omega
    clear hi hlt
    go_wp2
    go_ret
    exact ⟨rfl, HI.out.bel⟩
end Go.Proofs.YtdffpbfebgcmaaaGreat
