/-
  A ring and a log side by side: what the clients' pending operations keep. No Go in sight.
-/
import Derived.Test.YtflaaogopcgdaaaRgmath
import Derived.Test.YtflaaogopcgdaaaLaw5
namespace Go.Proofs.Ytflaaogopcgdaaa
open Go.RowKit
set_option linter.unusedVariables false
set_option linter.unusedSimpArgs false
def Lin (R : Rg) (M : Md) (all : List Int) : Prop := Inv R ∧ R.tail = all.length ∧ R.rd = M.G.length ∧ R.h8.take R.rd = M.G ∧ R.cl = M.cl ∧ R.cap = M.cap ∧ AllOk M all ∧ M.p = leastG M.G ∧ ∀ (i : Nat) (x : Sl), R.L[i]? = some x → x.s % 2 = 1 → all[x.s / 2]? = some (x.v : Int)
structure Pd where
  k : Nat
  j : Int
  t : Nat
  v : Nat
def SendOk (R : Rg) (all : List Int) (t v : Nat) : Prop := t < R.tail ∧ all[t]? = some (v : Int) ∧ (slX R.L t).s ≤ 2 * t
def RecvOk (R : Rg) (all : List Int) (j : Int) (t v : Nat) : Prop := readsB R j = true ∧ t < headN R j ∧ all[t]? = some (v : Int) ∧ ((slX R.L t).s ≤ 2 * t ∨ ((slX R.L t).s = 2 * t + 1 ∧ hasBit (slX R.L t).l j.toNat = true))
def PdOk (R : Rg) (all : List Int) (p : Pd) : Prop := (p.k = 0) ∨ (p.k = 1 ∧ SendOk R all p.t p.v) ∨ (p.k = 2 ∧ RecvOk R all p.j p.t p.v)
/-- No two are the same. -/
def PdNe (p q : Pd) : Prop := ¬ (p.k = 1 ∧ q.k = 1 ∧ p.t = q.t) ∧ ¬ (p.k = 2 ∧ q.k = 2 ∧ p.j = q.j ∧ p.t = q.t)
theorem slX_set {L : List Sl} (h : 1 ≤ L.length) (t t2 : Nat) (y : Sl) : slX (L.set (t % L.length) y) t2 = if t2 % L.length = t % L.length then y else slX L t2 := by
  unfold slX
  rw [List.length_set, List.getD_eq_getElem?_getD, List.getD_eq_getElem?_getD]
  by_cases e : t2 % L.length = t % L.length
  · rw [if_pos e, e, List.getElem?_set_self (Nat.mod_lt _ (by omega))]; rfl
  · rw [if_neg e, List.getElem?_set_ne (fun h => e h.symm)]
theorem mod_next {c t q : Nat} (hc : 1 ≤ c) (h : q % c = t % c) (hq : t < q) : t + c ≤ q := by
  have h1 := Nat.div_add_mod t c
  have h2 := Nat.div_add_mod q c
  have h3 : t / c < q / c := by
    rcases Nat.lt_or_ge (t / c) (q / c) with h | h'
    · exact h
    · have := Nat.mul_le_mul_left c h'
      omega
  have h4 := Nat.mul_le_mul_left c h3
  rw [Nat.mul_succ] at h4
  omega
theorem Lin.len {R : Rg} {M : Md} {all : List Int} (h : Lin R M all) : 1 ≤ R.L.length ∧ R.cap = R.L.length ∧ 1 ≤ R.rd ∧ R.rd ≤ 8 := ⟨h.1.ok.2.1.1, h.1.ok.2.2.1, h.1.ok.2.1.2.2.1, h.1.ok.2.1.2.2.2.1⟩
theorem Lin.least {R : Rg} {M : Md} {all : List Int} (h : Lin R M all) : leastN R = M.p := by
  obtain ⟨h1, h2, h3, h4, h5, h6, h7, h8, h9⟩ := h
  rw [h8]
  have e : M.G.getD 0 0 = R.h8.getD 0 0 := by
    rw [← h4, List.getD_eq_getElem?_getD, List.getD_eq_getElem?_getD, List.getElem?_take, if_pos (by have := h1.ok.2.1.2.2.1; omega)]
  unfold leastN leastG
  rw [e, h4]
theorem Lin.reads {R : Rg} {M : Md} {all : List Int} (h : Lin R M all) (j : Int) : readsB R j = readsM M j := by
  obtain ⟨h1, h2, h3, h4, h5, h6, h7, h8, h9⟩ := h
  unfold readsB readsM; rw [h3]
theorem Lin.head {R : Rg} {M : Md} {all : List Int} (h : Lin R M all) {j : Int} (hr : readsB R j = true) : headN R j = gotM M j := by
  obtain ⟨h1, h2, h3, h4, h5, h6, h7, h8, h9⟩ := h
  obtain ⟨j0, j1⟩ := of_decide_eq_true hr
  unfold headN gotM
  rw [← h4, List.getD_eq_getElem?_getD, List.getD_eq_getElem?_getD, List.getElem?_take, if_pos (by omega)]
theorem Lin.claimE {R : Rg} {M : Md} {all : List Int} (h : Lin R M all) : claimE R = mputE M ∧ claimV R = mputV M := by
  have hl := h.least
  obtain ⟨h1, h2, h3, h4, h5, h6, h7, h8, h9⟩ := h
  have hE : Go.Proofs.Ytflaaogopcgdaaa.claimE R = mputE M := by
    unfold Go.Proofs.Ytflaaogopcgdaaa.claimE mputE fullB
    rw [h5, hl, h6]
    have := h7.1
    by_cases hc : M.cl = true
    · rw [if_pos hc, if_pos hc]
    · rw [if_neg hc, if_neg hc]
      by_cases hf : M.cap ≤ M.L.length
      · rw [if_pos hf, if_pos (decide_eq_true (by omega))]
      · rw [if_neg hf, if_neg (by rw [decide_eq_true_eq]; omega)]
  refine ⟨hE, ?_⟩
  unfold claimV mputV
  rw [hE, h2, h7.1]
theorem Lin.takeE {R : Rg} {M : Md} {all : List Int} (h : Lin R M all) (hM : MdOk M) (j : Int) : takeE R j = mgetE M j := by
  have hr := h.reads j
  have hh := h.head (j := j)
  obtain ⟨h1, h2, h3, h4, h5, h6, h7, h8, h9⟩ := h
  unfold Go.Proofs.Ytflaaogopcgdaaa.takeE
  rw [hr]
  cases hm : readsM M j
  · rw [if_pos rfl]; unfold mgetE; rw [hm, if_neg (by decide)]
  · rw [if_neg (by decide)]
    obtain ⟨t1, t2, t3⟩ := got_all h7 hM hm
    rw [hh (by rw [hr, hm]), h2, h5]
    by_cases e : gotM M j = all.length
    · rw [if_pos e, t2 e]
    · rw [if_neg e, t3 e]
/-- The place of the next ticket is free for it, or not yet. -/
theorem Lin.next {R : Rg} {M : Md} {all : List Int} (h : Lin R M all) : (slX R.L R.tail).s ≤ 2 * R.tail := by
  obtain ⟨l1, l2, l3, l4⟩ := h.len
  have hx := slX_get (by omega) R.tail (L := R.L)
  have hs := h.1.stands _ _ hx
  have hp := h.1.place _ (List.mem_of_getElem? hx)
  have hok := h.1.ok
  generalize slX R.L R.tail = x at *
  have hs := of_decide_eq_true hs
  obtain ⟨s1, s2, s3⟩ := hs
  rw [placeB_iff] at hp
  have key : x.s / 2 < R.tail + R.L.length → x.s / 2 ≤ R.tail := fun hlt => by
    rcases Nat.lt_or_ge R.tail (x.s / 2) with hq | hq
    · have := mod_next l1 s2 hq; omega
    · exact hq
  rcases hp with ⟨p1, p2, _⟩ | ⟨p1, p2⟩
  · omega
  · rcases p2 with p2 | p2
    · have := key (by omega); omega
    · rw [passB_iff] at p2
      rcases p2 0 (by omega) with p3 | p3
      · rw [zero_bit 0 (by omega)] at p3; exact absurd p3 (by decide)
      · have : R.h8.getD 0 0 ≤ R.tail := by
          refine hok.2.2.2.2 _ ?_
          rw [List.getD_eq_getElem?_getD, List.getElem?_eq_getElem (by have := hok.1; omega)]
          exact List.getElem_mem _
        have := key (by omega); omega
/-- The place of what a reader takes next. -/
theorem Lin.taken {R : Rg} {M : Md} {all : List Int} (h : Lin R M all) {j : Int} (hr : readsB R j = true) : (slX R.L (headN R j)).s ≤ 2 * headN R j ∨ ((slX R.L (headN R j)).s = 2 * headN R j + 1 ∧ hasBit (slX R.L (headN R j)).l j.toNat = true) := by
  obtain ⟨l1, l2, l3, l4⟩ := h.len
  have hx := slX_get (by omega) (headN R j) (L := R.L)
  have hs := h.1.stands _ _ hx
  have hp := h.1.place _ (List.mem_of_getElem? hx)
  have hok := h.1.ok
  obtain ⟨g1, g2, g3⟩ := headN_get hok hr
  obtain ⟨j0, j1⟩ := of_decide_eq_true hr
  have hhead : R.h8.getD j.toNat 0 = headN R j := rfl
  have hroom := h.1.room (headN R j) (by rw [List.mem_iff_getElem?]; exact ⟨j.toNat, by rw [List.getElem?_take, if_pos (by omega)]; exact g1⟩)
  generalize headN R j = t at *
  generalize slX R.L t = x at *
  have hs := of_decide_eq_true hs
  obtain ⟨s1, s2, s3⟩ := hs
  rw [placeB_iff] at hp
  have key : x.s / 2 < t + R.L.length → x.s / 2 ≤ t := fun hlt => by
    rcases Nat.lt_or_ge t (x.s / 2) with hq | hq
    · have := mod_next l1 s2 hq; omega
    · exact hq
  rcases hp with ⟨p1, p2, p3⟩ | ⟨p1, p2⟩
  · have hle := key (by omega)
    rcases Nat.lt_or_ge (x.s / 2) t with hq | hq
    · left; omega
    · right
      rw [passB_iff] at p3
      rcases p3 j.toNat (by omega) with p4 | p4
      · exact ⟨by omega, p4⟩
      · rw [hhead] at p4; omega
  · left
    rcases p2 with p2 | p2
    · have := key (by omega); omega
    · rw [passB_iff] at p2
      rcases p2 j.toNat (by omega) with p3 | p3
      · rw [zero_bit j.toNat (by omega)] at p3; exact absurd p3 (by decide)
      · rw [hhead] at p3
        have := key (by omega); omega
end Go.Proofs.Ytflaaogopcgdaaa
