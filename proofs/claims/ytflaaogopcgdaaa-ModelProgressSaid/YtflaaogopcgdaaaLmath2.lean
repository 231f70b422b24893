/-
  What the steps of clients keep of a ring, a log and the pending operations.
-/
import Derived.Test.YtflaaogopcgdaaaLmath
namespace Go.Proofs.Ytflaaogopcgdaaa
open Go.RowKit
set_option linter.unusedVariables false
set_option linter.unusedSimpArgs false
/-- All others stay as they should be. -/
def Others (R R' : Rg) (all all' : List Int) (p : Pd) : Prop := ∀ q, PdNe q p → PdOk R all q → PdOk R' all' q
theorem Lin.close {R : Rg} {M : Md} {all : List Int} (h : Lin R M all) : Lin { R with cl := true } (closeM M) all ∧ ∀ q, PdOk R all q → PdOk { R with cl := true } all q := by
  obtain ⟨h1, h2, h3, h4, h5, h6, h7, h8, h9⟩ := h
  exact ⟨⟨h1.close, h2, h3, h4, rfl, h6, h7, h8, h9⟩, fun q h => h⟩
theorem Lin.claim {R : Rg} {M : Md} {all : List Int} (h : Lin R M all) (ht : R.tail ≤ 1000) (v : Nat) (hE : Go.Proofs.Ytflaaogopcgdaaa.claimE R = 0) :
    Lin (claimR R) (mputM M v) (all ++ [(v : Int)]) ∧ (∀ q, PdOk R all q → PdOk (claimR R) (all ++ [(v : Int)]) q) ∧ PdOk (claimR R) (all ++ [(v : Int)]) ⟨1, 0, R.tail, v⟩ ∧ ∀ q, PdOk R all q → PdNe ⟨1, 0, R.tail, v⟩ q ∧ PdNe q ⟨1, 0, R.tail, v⟩ := by
  have hn := h.next
  have hM : mputE M = 0 := by rw [← h.claimE.1]; exact hE
  have hcr : claimR R = { R with tail := R.tail + 1 } := by unfold claimR; rw [if_pos hE]
  have hmm : mputM M (v : Int) = { M with L := M.L ++ [(v : Int)] } := by unfold mputM; rw [if_pos hM]
  have hinv := h.1.claim (by omega)
  obtain ⟨h1, h2, h3, h4, h5, h6, h7, h8, h9⟩ := h
  rw [hcr] at hinv ⊢
  rw [hmm]
  have hget : ∀ (i : Nat) (x : Int), all[i]? = some x → (all ++ [(v : Int)])[i]? = some x := fun i x hx => by
    rw [List.getElem?_append_left (List.getElem?_eq_some_iff.1 hx).1]; exact hx
  refine ⟨⟨hinv, by simp; omega, h3, h4, h5, h6, h7.put v, h8, fun i x hi ho => hget _ _ (h9 i x hi ho)⟩, fun q hq => ?_, .inr (.inl ⟨rfl, by simp, ?_, hn⟩), fun q hq => ?_⟩
  · rcases hq with hq | ⟨hk, q1, q2, q3⟩ | ⟨hk, q1, q2, q3, q4⟩
    · exact .inl hq
    · exact .inr (.inl ⟨hk, by simp only; omega, hget _ _ q2, q3⟩)
    · exact .inr (.inr ⟨hk, q1, q2, hget _ _ q3, q4⟩)
  · rw [h2, List.getElem?_append_right (Nat.le_refl _)]; simp
  · rcases hq with hq | ⟨hk, q1, q2, q3⟩ | ⟨hk, q1, q2, q3, q4⟩
    · exact ⟨⟨fun e => by omega, fun e => by omega⟩, ⟨fun e => by omega, fun e => by omega⟩⟩
    · exact ⟨⟨fun e => by have := e.2.2; simp only at this; omega, fun e => by omega⟩, ⟨fun e => by have := e.2.2; simp only at this; omega, fun e => by omega⟩⟩
    · exact ⟨⟨fun e => by omega, fun e => by have := e.1; simp at this⟩, ⟨fun e => by omega, fun e => by have := e.2.1; simp at this⟩⟩
theorem Lin.take {R : Rg} {M : Md} {all : List Int} (h : Lin R M all) (hM : MdOk M) (hv : ∀ x ∈ all, 0 ≤ x) (j : Int) (hE : Go.Proofs.Ytflaaogopcgdaaa.takeE R j = 0) :
    Lin (takeR R j) (mgetM M j) all ∧ (∀ q, PdOk R all q → PdOk (takeR R j) all q) ∧ (∃ v : Nat, mgetV M j = (v : Int) ∧ PdOk (takeR R j) all ⟨2, j, takeV R j, v⟩) ∧ ∀ (v : Nat) q, PdOk R all q → PdNe ⟨2, j, takeV R j, v⟩ q ∧ PdNe q ⟨2, j, takeV R j, v⟩ := by
  have hE2 : mgetE M j = 0 := by rw [← h.takeE hM]; exact hE
  obtain ⟨hr, hne⟩ := takeE_ok hE
  have htk := h.taken hr
  have hhd := h.head hr
  have hV : takeV R j = headN R j := by unfold takeV; rw [if_pos hE]
  have hcr : takeR R j = { R with h8 := R.h8.set j.toNat (headN R j + 1) } := by unfold takeR; rw [if_pos hE]
  have hinv := h.1.take j
  obtain ⟨h1, h2, h3, h4, h5, h6, h7, h8, h9⟩ := h
  obtain ⟨a1, a2, a3, a4, a5, a6, a7⟩ := h7.get hM hE2
  obtain ⟨g1, g2, g3⟩ := headN_get h1.ok hr
  obtain ⟨j0, j1⟩ := of_decide_eq_true hr
  rw [hcr] at hinv ⊢
  rw [hV]
  have hhN : ∀ i : Int, headN R i ≤ headN { R with h8 := R.h8.set j.toNat (headN R j + 1) } i := fun i => by
    unfold headN; simp only
    exact take_getD g1
  have hself : headN { R with h8 := R.h8.set j.toNat (headN R j + 1) } j = headN R j + 1 := by
    show (R.h8.set j.toNat (headN R j + 1)).getD j.toNat 0 = _
    rw [List.getD_eq_getElem?_getD, List.getElem?_set_self (by have := h1.ok.1; omega)]; rfl
  refine ⟨⟨hinv, h2, by rw [a5]; simp; exact h3, ?_, by rw [a7]; exact h5, by rw [a6]; exact h6, a1, mget_least h8 j, h9⟩, fun q hq => ?_, ?_, fun v q hq => ?_⟩
  · simp only; rw [a5, List.take_set, h4, hhd]
  · rcases hq with hq | ⟨hk, q1, q2, q3⟩ | ⟨hk, q1, q2, q3, q4⟩
    · exact .inl hq
    · exact .inr (.inl ⟨hk, q1, q2, q3⟩)
    · exact .inr (.inr ⟨hk, q1, Nat.lt_of_lt_of_le q2 (hhN _), q3, q4⟩)
  · have hv0 := hv _ (List.mem_of_getElem? a2)
    refine ⟨(mgetV M j).toNat, by omega, .inr (.inr ⟨rfl, hr, by rw [hself]; simp, ?_, htk⟩)⟩
    simp only
    rw [hhd, a2, Int.toNat_of_nonneg hv0]
  · rcases hq with hq | ⟨hk, q1, q2, q3⟩ | ⟨hk, q1, q2, q3, q4⟩
    · exact ⟨⟨fun e => by omega, fun e => by omega⟩, ⟨fun e => by omega, fun e => by omega⟩⟩
    · exact ⟨⟨fun e => by have := e.1; simp at this, fun e => by omega⟩, ⟨fun e => by have := e.2.1; simp at this, fun e => by omega⟩⟩
    · refine ⟨⟨fun e => by omega, fun e => ?_⟩, ⟨fun e => by omega, fun e => ?_⟩⟩
      · obtain ⟨_, _, e1, e2⟩ := e
        simp only at e1 e2
        rw [← e1] at q2; omega
      · obtain ⟨_, _, e1, e2⟩ := e
        simp only at e1 e2
        rw [e1] at q2; omega
theorem slX_same {L : List Sl} {t t2 : Nat} (h : t2 % L.length = t % L.length) : slX L t2 = slX L t := by unfold slX; rw [h]
theorem Lin.publish {R : Rg} {M : Md} {all : List Int} (h : Lin R M all) (ht : R.tail ≤ 1000) {t v : Nat} (hv : v < 18446744073709551616) (hs : SendOk R all t v) :
    (pubE R t = 0 ∨ pubE R t = 8) ∧ (pubE R t ≠ 0 → pubR R t v = R) ∧ (pubE R t = 0 → Lin (pubR R t v) M all ∧ ∀ j q, PdNe q ⟨1, j, t, v⟩ → PdOk R all q → PdOk (pubR R t v) all q) := by
  obtain ⟨l1, l2, l3, l4⟩ := h.len
  obtain ⟨s1, s2, s3⟩ := hs
  have hpe : pubE R t = putE R.L t := by unfold pubE; rw [if_neg (by omega)]
  have hpr : pubR R t v = { R with L := putS R.rd R.L t v } := by unfold pubR; rw [if_neg (by omega)]
  refine ⟨?_, fun hne => ?_, fun h0 => ?_⟩
  · rw [hpe]; unfold putE
    rw [if_neg (by omega)]
    split
    · exact .inr rfl
    · rw [if_neg (by omega)]; exact .inl rfl
  · rw [hpr]; unfold putS; rw [if_neg (by rw [← hpe]; exact hne)]
  · have hinv := h.1.pub t v hv
    obtain ⟨h1, h2, h3, h4, h5, h6, h7, h8, h9⟩ := h
    have hx : (slX R.L t).s = 2 * t := by
      rw [hpe] at h0
      unfold putE at h0
      rw [if_neg (by omega)] at h0
      split at h0
      · omega
      · omega
    have hpS : putS R.rd R.L t v = R.L.set (t % R.L.length) ⟨2 * t + 1, v, everyN R.rd⟩ := by unfold putS; rw [if_pos (by rw [← hpe]; exact h0)]
    rw [hpr, hpS] at hinv ⊢
    have hnew : ∀ t2, slX (R.L.set (t % R.L.length) ⟨2 * t + 1, v, everyN R.rd⟩) t2 = if t2 % R.L.length = t % R.L.length then ⟨2 * t + 1, v, everyN R.rd⟩ else slX R.L t2 := fun t2 => slX_set l1 t t2 _
    refine ⟨⟨hinv, h2, h3, h4, h5, h6, h7, h8, fun i x hi ho => ?_⟩, fun j q hne hq => ?_⟩
    · simp only at hi
      rw [List.getElem?_set] at hi
      split at hi
      · split at hi
        · injection hi with hi
          subst hi
          simp only
          rw [show (2 * t + 1) / 2 = t by omega]; exact s2
        · cases hi
      · exact h9 i x hi ho
    · rcases hq with hq | ⟨hk, q1, q2, q3⟩ | ⟨hk, q1, q2, q3, q4⟩
      · exact .inl hq
      · refine .inr (.inl ⟨hk, q1, q2, ?_⟩)
        simp only
        rw [hnew]
        by_cases e : q.t % R.L.length = t % R.L.length
        · rw [if_pos e]
          rw [slX_same e, hx] at q3
          have : q.t ≠ t := fun e2 => hne.1 ⟨hk, rfl, e2⟩
          simp only; omega
        · rw [if_neg e]; exact q3
      · refine .inr (.inr ⟨hk, q1, q2, q3, ?_⟩)
        simp only
        rw [hnew]
        by_cases e : q.t % R.L.length = t % R.L.length
        · rw [if_pos e]
          rw [slX_same e, hx] at q4
          obtain ⟨j0, j1⟩ := of_decide_eq_true q1
          rcases q4 with q4 | ⟨q4, _⟩
          · by_cases e2 : q.t = t
            · right; exact ⟨by simp only; omega, every_bits _ (by omega) _ (by omega)⟩
            · left; simp only; omega
          · omega
        · rw [if_neg e]; exact q4
theorem Lin.release {R : Rg} {M : Md} {all : List Int} (h : Lin R M all) (ht : R.tail ≤ 1000) {j : Int} {t v : Nat} (hs : RecvOk R all j t v) :
    (relE R j t = 0 ∨ relE R j t = 9) ∧ (relE R j t ≠ 0 → relR R j t = R) ∧ (relE R j t = 0 → relV R j t = v ∧ Lin (relR R j t) M all ∧ ∀ q, PdNe q ⟨2, j, t, v⟩ → PdOk R all q → PdOk (relR R j t) all q) := by
  obtain ⟨l1, l2, l3, l4⟩ := h.len
  obtain ⟨s1, s2, s3, s4⟩ := hs
  obtain ⟨j0, j1⟩ := of_decide_eq_true s1
  have htl : t < R.tail := by
    have := (List.getElem?_eq_some_iff.1 s3).1
    have := h.2.1
    omega
  have hre : relE R j t = getE R.rd R.L j t := relE_in s1 (by omega)
  refine ⟨?_, fun hne => ?_, fun h0 => ?_⟩
  · rw [hre]; unfold getE
    rw [if_neg (by omega)]
    rcases s4 with s4 | ⟨s4, s5⟩
    · rw [if_pos (by omega)]; exact .inr rfl
    · rw [if_neg (by omega), if_neg (by rw [s5]; simp; omega)]; exact .inl rfl
  · unfold relR; rw [if_neg hne]
  · have hinv := h.1.rel j t (by omega)
    have hg : getE R.rd R.L j t = 0 := by rw [← hre]; exact h0
    obtain ⟨_, _, _, ks, kb⟩ := getE_ok hg
    have hrr : relR R j t = { R with L := R.L.set (t % R.L.length) (gotX R.L.length (slX R.L t) j.toNat t) } := by
      unfold relR; rw [if_pos h0]; unfold getS; rw [if_pos hg]
    have hxok := slX_ok h.1.ok.2.1 t
    have hx0 := slX_get (by omega) t (L := R.L)
    obtain ⟨h1, h2, h3, h4, h5, h6, h7, h8, h9⟩ := h
    have hval := h9 _ _ hx0 (by omega)
    rw [show (slX R.L t).s / 2 = t by omega, s3] at hval
    injection hval with hval
    have hvv : (slX R.L t).v = v := by omega
    have hrv : relV R j t = v := by
      unfold relV; rw [if_pos h0]; unfold getV; rw [if_pos hg]; exact hvv
    rw [hrr] at hinv ⊢
    have hnew : ∀ t2, slX (R.L.set (t % R.L.length) (gotX R.L.length (slX R.L t) j.toNat t)) t2 = if t2 % R.L.length = t % R.L.length then gotX R.L.length (slX R.L t) j.toNat t else slX R.L t2 := fun t2 => slX_set l1 t t2 _
    have hgs : (gotX R.L.length (slX R.L t) j.toNat t).s ≤ 2 * (t + R.L.length) := by unfold gotX; split <;> simp only <;> omega
    refine ⟨hrv, ⟨hinv, h2, h3, h4, h5, h6, h7, h8, fun i x hi ho => ?_⟩, fun q hne hq => ?_⟩
    · simp only at hi
      rw [List.getElem?_set] at hi
      split at hi
      · split at hi
        · injection hi with hi
          subst hi
          unfold gotX at ho ⊢
          split at ho
          · simp only at ho; omega
          · rename_i hz
            rw [if_neg hz]
            simp only
            rw [show (slX R.L t).s / 2 = t by omega, s3, hvv]
        · cases hi
      · exact h9 i x hi ho
    · rcases hq with hq | ⟨hk, q1, q2, q3⟩ | ⟨hk, q1, q2, q3, q4⟩
      · exact .inl hq
      · refine .inr (.inl ⟨hk, q1, q2, ?_⟩)
        simp only
        rw [hnew]
        by_cases e : q.t % R.L.length = t % R.L.length
        · rw [if_pos e]
          rw [slX_same e, ks] at q3
          have := mod_next l1 e (by omega)
          omega
        · rw [if_neg e]; exact q3
      · refine .inr (.inr ⟨hk, q1, q2, q3, ?_⟩)
        simp only
        rw [hnew]
        by_cases e : q.t % R.L.length = t % R.L.length
        · rw [if_pos e]
          rw [slX_same e, ks] at q4
          obtain ⟨i0, i1⟩ := of_decide_eq_true q1
          rcases q4 with q4 | ⟨q4, q5⟩
          · left
            have := mod_next l1 e (by omega)
            omega
          · have e2 : q.t = t := by omega
            have hj : q.j.toNat ≠ j.toNat := fun e3 => hne.2 ⟨hk, rfl, (by show q.j = j; omega), e2⟩
            obtain ⟨o1, o2, o3, o4⟩ := hxok
            have ev := everyN_pos l4
            obtain ⟨n, hn⟩ : ∃ n : Nat, (slX R.L t).l = n := ⟨(slX R.L t).l.toNat, by omega⟩
            have hsub := sub_bits n (by omega) j.toNat (by omega) (by rw [← hn]; exact kb) q.j.toNat (by omega) hj
            rw [← hn, q5] at hsub
            right
            unfold gotX
            split
            · rename_i hz
              rw [hz, zero_bit _ (by omega)] at hsub
              exact absurd hsub (by decide)
            · exact ⟨by simp only; omega, hsub⟩
        · rw [if_neg e]; exact q4
end Go.Proofs.Ytflaaogopcgdaaa
