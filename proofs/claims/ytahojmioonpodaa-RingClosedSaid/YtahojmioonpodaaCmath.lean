import Derived.Test.YtahojmioonpodaaRing6
namespace Go.Proofs.Ytahojmioonpodaa
open Go.RowKit
set_option linter.unusedVariables false
set_option linter.unusedSimpArgs false
theorem map_range_set {α : Type} {n i : Nat} {f f' : Nat → α} {y : α} (h1 : f' i = y) (h2 : ∀ p, p ≠ i → f' p = f p) : ((List.range n).map f).set i y = (List.range n).map f' := by
  apply List.ext_getElem?
  intro k
  by_cases hk : k < n
  · by_cases e : k = i
    · subst e
      rw [List.getElem?_set_self (by simp; exact hk)]
      simp [hk, h1]
    · rw [List.getElem?_set_ne (fun h => e h.symm)]
      simp [hk, h2 k e]
  · rw [List.getElem?_eq_none (by simp; omega), List.getElem?_eq_none (by simp; omega)]
theorem map_range_get {α : Type} {n i : Nat} {f : Nat → α} (h : i < n) : ((List.range n).map f)[i]? = some (f i) := by simp [h]
theorem slX_map {n t : Nat} {f : Nat → Sl} (h : t < n) : slX ((List.range n).map f) t = f t := by
  unfold slX
  rw [List.length_map, List.length_range, Nat.mod_eq_of_lt h, List.getD_eq_getElem?_getD, map_range_get h]; rfl
/-! ## Filled, place by place -/
def fillF (rd : Nat) (vs : List Nat) (i p : Nat) : Sl := if p < i then ⟨2 * p + 1, vs.getD p 0, everyN rd⟩ else ⟨2 * p, 0, 0⟩
def fillR (cap rd : Nat) (vs : List Nat) (i : Nat) : Rg := ⟨cap, rd, i, [0, 0, 0, 0, 0, 0, 0, 0], false, (List.range cap).map (fillF rd vs i)⟩
theorem fill_zero (cap rd : Nat) (vs : List Nat) : fillR cap rd vs 0 = newR cap rd := by
  unfold fillR newR newS fillF
  simp
theorem fill_least (cap rd : Nat) (vs : List Nat) (i : Nat) : leastN (fillR cap rd vs i) = 0 := Nat.le_zero.1 (foldl_min_le _ _)
theorem fill_claim {cap rd : Nat} {vs : List Nat} {i : Nat} (h : i < cap) : claimE (fillR cap rd vs i) = 0 ∧ claimV (fillR cap rd vs i) = i ∧ claimR (fillR cap rd vs i) = { fillR cap rd vs i with tail := i + 1 } := by
  have h1 : claimE (fillR cap rd vs i) = 0 := by
    unfold claimE
    rw [if_neg (by unfold fillR; simp)]
    unfold fullB
    rw [fill_least, if_neg (by unfold fillR; simp; omega)]
  refine ⟨h1, by unfold claimV; rw [if_pos h1]; rfl, by unfold claimR; rw [if_pos h1]; rfl⟩
theorem fill_pub {cap rd : Nat} {vs : List Nat} {i v : Nat} (h : i < cap) (h64 : cap ≤ 64) (hv : vs.getD i 0 = v) :
    pubE { fillR cap rd vs i with tail := i + 1 } i = 0 ∧ pubR { fillR cap rd vs i with tail := i + 1 } i v = fillR cap rd vs (i + 1) := by
  have hx : slX ((List.range cap).map (fillF rd vs i)) i = ⟨2 * i, 0, 0⟩ := by rw [slX_map h]; unfold fillF; rw [if_neg (by omega)]
  have hE : putE ((List.range cap).map (fillF rd vs i)) i = 0 := by
    unfold putE; rw [hx]; simp only
    rw [if_neg (by omega), if_neg (by omega), if_neg (by omega)]
  constructor
  · unfold pubE fillR; simp only
    rw [if_neg (by omega)]; exact hE
  · unfold pubR fillR; simp only
    rw [if_neg (by omega)]
    simp only [Rg.mk.injEq, true_and]
    unfold putS
    rw [if_pos hE, List.length_map, List.length_range, Nat.mod_eq_of_lt h]
    refine map_range_set ?_ (fun p hp => ?_)
    · unfold fillF; rw [if_pos (by omega), hv]
    · unfold fillF
      by_cases h1 : p < i
      · rw [if_pos (by omega), if_pos h1]
      · rw [if_neg (by omega), if_neg h1]
/-! ## Drained, reader by reader -/
def slG (cap rd : Nat) (vs : List Nat) (G p : Nat) : Sl := if G = rd then ⟨2 * (p + cap), 0, 0⟩ else ⟨2 * p + 1, vs.getD p 0, 2 ^ rd - 2 ^ G⟩
def drainF (cap rd : Nat) (vs : List Nat) (j i p : Nat) : Sl := if p < vs.length then slG cap rd vs (if p < i then j + 1 else j) p else ⟨2 * p, 0, 0⟩
def drainH (n j i q : Nat) : Nat := if q < j then n else if q = j then i else 0
def drainR (cap rd : Nat) (vs : List Nat) (j i : Nat) : Rg := ⟨cap, rd, vs.length, (List.range 8).map (drainH vs.length j i), true, (List.range cap).map (drainF cap rd vs j i)⟩
/-- A reader has taken, and not yet released. -/
def drainT (cap rd : Nat) (vs : List Nat) (j i : Nat) : Rg := ⟨cap, rd, vs.length, (List.range 8).map (drainH vs.length j (i + 1)), true, (List.range cap).map (drainF cap rd vs j i)⟩
theorem drain_zero {cap rd : Nat} {vs : List Nat} (h : 1 ≤ rd) : drainR cap rd vs 0 0 = { fillR cap rd vs vs.length with cl := true } := by
  unfold drainR fillR
  simp only [Rg.mk.injEq, true_and]
  constructor
  · simp [List.range, List.range.loop, drainH]
  · apply List.map_congr_left
    intro p hp
    unfold drainF fillF slG
    by_cases h1 : p < vs.length
    · rw [if_pos h1, if_pos h1]
      simp only [Nat.not_lt_zero, if_false]
      rw [if_neg (by omega)]; rfl
    · rw [if_neg h1, if_neg h1]
theorem drain_turn (cap rd : Nat) (vs : List Nat) (j : Nat) : drainR cap rd vs j vs.length = drainR cap rd vs (j + 1) 0 := by
  unfold drainR
  simp only [Rg.mk.injEq, true_and]
  constructor
  · apply List.map_congr_left
    intro q hq
    unfold drainH
    by_cases h1 : q < j
    · rw [if_pos h1, if_pos (by omega)]
    · rw [if_neg h1]
      by_cases h2 : q = j
      · rw [if_pos h2, if_pos (by omega)]
      · rw [if_neg h2, if_neg (by omega)]; split <;> rfl
  · apply List.map_congr_left
    intro p hp
    unfold drainF
    by_cases h1 : p < vs.length
    · rw [if_pos h1, if_pos h1, if_pos h1, if_neg (by omega)]
    · rw [if_neg h1, if_neg h1]
theorem drain_reads {cap rd : Nat} {vs : List Nat} {j i : Nat} (h : j < rd) : readsB (drainR cap rd vs j i) (j : Int) = true ∧ readsB (drainT cap rd vs j i) (j : Int) = true := by
  unfold readsB drainR drainT; simp only
  exact ⟨decide_eq_true (by omega), decide_eq_true (by omega)⟩
theorem drain_head {cap rd : Nat} {vs : List Nat} {j i : Nat} (h : j < 8) : headN (drainR cap rd vs j i) (j : Int) = i ∧ headN (drainT cap rd vs j i) (j : Int) = i + 1 := by
  unfold headN drainR drainT; simp only [Int.toNat_natCast]
  constructor <;> (rw [List.getD_eq_getElem?_getD, map_range_get h]; simp [drainH])
theorem drain_take {cap rd : Nat} {vs : List Nat} {j i : Nat} (h : j < rd) (h8 : rd ≤ 8) (hi : i < vs.length) :
    takeE (drainR cap rd vs j i) j = 0 ∧ takeV (drainR cap rd vs j i) j = i ∧ takeR (drainR cap rd vs j i) j = drainT cap rd vs j i := by
  have hh := (drain_head (cap := cap) (rd := rd) (vs := vs) (j := j) (i := i) (by omega)).1
  have h1 : takeE (drainR cap rd vs j i) j = 0 := by
    unfold takeE
    rw [(drain_reads h).1, if_neg (by decide), hh, if_neg (by unfold drainR; simp only; omega)]
  refine ⟨h1, by unfold takeV; rw [if_pos h1]; exact hh, ?_⟩
  unfold takeR
  rw [if_pos h1, hh]
  unfold drainR drainT
  simp only [Rg.mk.injEq, true_and, and_true, Int.toNat_natCast]
  refine map_range_set ?_ (fun q hq => ?_)
  · unfold drainH; rw [if_neg (by omega), if_pos rfl]
  · unfold drainH; rw [if_neg hq, if_neg hq]
theorem pow_bits : ∀ rd : Nat, rd < 9 → ∀ j : Nat, j < rd → hasBit (2 ^ rd - 2 ^ j) j = true ∧ ((2 : Int) ^ rd - 2 ^ j - 2 ^ j = 0 ↔ j + 1 = rd) ∧ ((2 : Int) ^ rd - 2 ^ j - 2 ^ j = 2 ^ rd - 2 ^ (j + 1)) := by decide +kernel
theorem drain_rel {cap rd : Nat} {vs : List Nat} {j i v : Nat} (h : j < rd) (h8 : rd ≤ 8) (hi : i < vs.length) (hc : vs.length ≤ cap) (h64 : cap ≤ 64) (hv : vs.getD i 0 = v) :
    relE (drainT cap rd vs j i) j i = 0 ∧ relV (drainT cap rd vs j i) j i = v ∧ relR (drainT cap rd vs j i) j i = drainR cap rd vs j (i + 1) := by
  obtain ⟨p1, p2, p3⟩ := pow_bits rd (by omega) j h
  have hx : slX ((List.range cap).map (drainF cap rd vs j i)) i = ⟨2 * i + 1, v, 2 ^ rd - 2 ^ j⟩ := by
    rw [slX_map (by omega)]; unfold drainF slG
    rw [if_pos hi, if_neg (Nat.lt_irrefl i), if_neg (by omega), hv]
  have hG : getE rd ((List.range cap).map (drainF cap rd vs j i)) j i = 0 := by
    unfold getE; rw [hx]; simp only [Int.toNat_natCast]
    rw [if_neg (by omega), if_neg (by omega), if_neg (by rw [p1]; simp)]
  have hE : relE (drainT cap rd vs j i) j i = 0 := by
    unfold relE
    rw [(drain_reads h).2, if_neg (by decide), (drain_head (by omega)).2, if_neg (by omega)]
    unfold drainT; exact hG
  refine ⟨hE, ?_, ?_⟩
  · unfold relV
    rw [if_pos hE]
    unfold drainT; simp only
    unfold getV
    rw [if_pos hG, hx]
  · unfold relR
    rw [if_pos hE]
    unfold drainT drainR; simp only [Rg.mk.injEq, true_and]
    unfold getS
    rw [if_pos hG, List.length_map, List.length_range, Nat.mod_eq_of_lt (by omega), hx]
    refine map_range_set ?_ (fun p hp => ?_)
    · unfold drainF gotX slG
      simp only [Int.toNat_natCast]
      rw [if_pos hi, if_pos (show i < i + 1 by omega)]
      by_cases e : j + 1 = rd
      · rw [if_pos e, if_pos (p2.2 e)]
      · rw [if_neg e, if_neg (fun hh => e (p2.1 hh)), hv, p3]
    · unfold drainF
      by_cases h1 : p < vs.length
      · rw [if_pos h1, if_pos h1]
        by_cases h2 : p < i
        · rw [if_pos h2, if_pos (by omega)]
        · rw [if_neg h2, if_neg (by omega)]
      · rw [if_neg h1, if_neg h1]
theorem drain_done {cap rd : Nat} {vs : List Nat} {j : Nat} (h : j < rd) (h8 : rd ≤ 8) :
    takeE (drainR cap rd vs j vs.length) j = 10 ∧ takeV (drainR cap rd vs j vs.length) j = 0 ∧ takeR (drainR cap rd vs j vs.length) j = drainR cap rd vs j vs.length ∧ emptyB (drainR cap rd vs j vs.length) j = true := by
  have hh := (drain_head (cap := cap) (rd := rd) (vs := vs) (j := j) (i := vs.length) (by omega)).1
  have h1 : takeE (drainR cap rd vs j vs.length) j = 10 := by
    unfold takeE
    rw [(drain_reads h).1, if_neg (by decide), hh, if_pos (by rfl), if_pos (by rfl)]
  refine ⟨h1, by unfold takeV; rw [h1, if_neg (by decide)], by unfold takeR; rw [h1, if_neg (by decide)], ?_⟩
  unfold emptyB
  rw [(drain_reads h).1, hh]; simp [drainR]
theorem drain_claim (cap rd : Nat) (vs : List Nat) (j i : Nat) : claimE (drainR cap rd vs j i) = 10 ∧ claimV (drainR cap rd vs j i) = 0 := by
  have h1 : claimE (drainR cap rd vs j i) = 10 := by unfold claimE; rw [if_pos (show (drainR cap rd vs j i).cl = true from rfl)]
  exact ⟨h1, by unfold claimV; rw [h1, if_neg (by decide)]⟩
end Go.Proofs.Ytahojmioonpodaa
