import Derived.Test.YtflaaogopcgdaaaLaw11
import Derived.Test.YtflaaogopcgdaaaRing4
namespace Go.Proofs.Ytflaaogopcgdaaa
open Go.RowKit
set_option linter.unusedVariables false
set_option linter.unusedSimpArgs false
theorem free_pub (R : Rg) (t : Nat) : (((pubE R t : Nat) : Int) == 0) = rfreeB R t := by
  unfold pubE rfreeB freeB putE
  rw [Bool.eq_iff_iff]
  simp only [beq_iff_eq, Bool.and_eq_true, decide_eq_true_eq]
  by_cases h1 : R.tail ≤ t
  · rw [if_pos h1]; omega
  · rw [if_neg h1]
    by_cases h2 : 4611686018427387904 ≤ t
    · rw [if_pos h2]; omega
    · rw [if_neg h2]
      by_cases h3 : (slX R.L t).s < 2 * t
      · rw [if_pos h3]; omega
      · rw [if_neg h3]
        by_cases h4 : 2 * t < (slX R.L t).s
        · rw [if_pos h4]; omega
        · rw [if_neg h4]; omega
theorem has_rel (R : Rg) (j : Int) (t : Nat) : (((relE R j t : Nat) : Int) == 0) = rhasB R j t := by
  unfold relE rhasB
  rw [Bool.eq_iff_iff]
  simp only [beq_iff_eq, Bool.and_eq_true, decide_eq_true_eq]
  cases hr : readsB R j
  · simp
  · rw [if_neg (by decide)]
    by_cases h1 : headN R j ≤ t
    · rw [if_pos h1]
      constructor
      · intro h; omega
      · rintro ⟨_, h, _⟩; omega
    · rw [if_neg h1]
      constructor
      · intro h; exact ⟨rfl, by omega, by omega⟩
      · rintro ⟨_, _, h⟩; omega
theorem run_ix (P : List Pd) (i : Nat) (p : Pd) (w : World) (h6 : P.length = 6) (hp : P[i]? = some p) : (Instr.index 56 (.agg (rowsOf pdF P).toArray) (.int .i64 (i : Int))).run Try.prog w = .ok (.agg (pdF p).toArray) w := by
  have hi : i < 6 := by rw [← h6]; exact (List.getElem?_eq_some_iff.1 hp).1
  have hc : (0 : Int) ≤ (i : Int) ∧ (i : Int) < 6 := by omega
  have he : (rowsOf pdF P).toArray.extract (i * 4) (i * 4 + 4) = (pdF p).toArray := by
    apply Array.ext'
    rw [Array.toList_extract]
    apply List.ext_getElem?
    intro k
    by_cases hk : k < 4
    · have := rowsOf_get pdF_length hp hk
      simp only [List.extract_eq_take_drop, List.getElem?_take, List.getElem?_drop]
      rw [if_pos (by omega)]
      exact this
    · rw [List.getElem?_eq_none (by simp [List.extract_eq_take_drop]; omega), List.getElem?_eq_none (by simp; omega)]
  have hagg : (isAgg 55).run Try.prog w = .ok true w := by
    unfold isAgg
    rw [Sem.run_bind, run_underlying underP w]
    rfl
  have hsz : (sizeOf 55).run Try.prog w = .ok 4 w := by
    have := Try.infoP
    cases hq : Try.prog.info? 55 with
    | none => simp [hq] at this
    | some d =>
      have hs : d.size = 4 := by simpa [hq] using this
      simp [sizeOf, typeInfo, hq, hs]
  simp [Instr.index, run_underlying under6, asIntOf, hc, part, Sem.run_bind, hagg, hsz, hi]
  have he2 := congrArg Array.toList he
  simpa using he2
theorem wpList_ix {ops : Array Oper} {rest : List Oper} {op : Oper} {a : Act} {w : World} {Q : Exit → Act → World → Prop} (hgd : op.guard = none) (x ix : Operand) (ho : op.op = .index 56 x ix) (P : List Pd) (i : Nat) (p : Pd)
    (hx : a.eval x = .agg (rowsOf pdF P).toArray) (hi : a.eval ix = .int .i64 (i : Int)) (h6 : P.length = 6) (hp : P[i]? = some p) (hK : wpList Try.prog ops Q rest (a.put op.dst (.agg (pdF p).toArray)) w) : wpList Try.prog ops Q (op :: rest) a w :=
  wpList_plain hgd fun _ hK' => by
    unfold Oper.wp execOp
    simp only [ho, hx, hi, Sem.run_bind, run_ix P i p w h6 hp, Result.andThen_ok, Sem.run_pure]
    exact hK' _ _ hK
/-- It can go on. -/
def canOp (R : Rg) (p : Pd) : Prop := (p.k = 1 ∧ pubE R p.t = 0) ∨ (p.k = 2 ∧ relE R p.j p.t = 0)
def nz (P : List Pd) : Nat := P.countP (fun p => p.k != 0)
theorem nz_le {P : List Pd} (h : P.length = 6) : nz P ≤ 6 := by rw [← h]; exact List.countP_le_length
theorem nz_set {P : List Pd} {m : Nat} {p : Pd} (hm : P[m]? = some p) (hk : p.k ≠ 0) : nz (P.set m pd0) + 1 = nz P := by
  obtain ⟨h1, h2⟩ := List.getElem?_eq_some_iff.1 hm
  unfold nz
  rw [List.countP_set h1, h2]
  have hpos : 0 < P.countP (fun p => p.k != 0) := List.countP_pos_iff.2 ⟨p, List.mem_of_getElem? hm, by simpa using hk⟩
  simp [hk]
  omega
theorem nz_zero {P : List Pd} (h : nz P = 0) : ∀ p ∈ P, p.k = 0 := fun p hp => by
  have := List.countP_eq_zero.1 h p hp
  simpa using this
theorem nz_none {P : List Pd} (h : ∀ p ∈ P, p.k = 0) : nz P = 0 := List.countP_eq_zero.2 fun p hp => by simp [h p hp]
/-- How a round over the six stands at place i: P and R were there at its start. -/
def PrgAt (R R' : Rg) (P P' : List Pd) (i : Nat) (sb cb : Bool) : Prop :=
  (∀ k, i ≤ k → P'[k]? = P[k]?) ∧ nz P' ≤ nz P ∧ (cb = true → nz P' + 1 ≤ nz P) ∧ (cb = false → P' = P ∧ R' = R ∧ ∀ k p, k < i → P[k]? = some p → ¬ canOp R p) ∧ (sb = true → ∃ p ∈ P, p.k ≠ 0)
section
variable {R R' R'' : Rg} {P P' : List Pd} {i : Nat} {sb cb : Bool} {p : Pd}
theorem PrgAt.start (R : Rg) (P : List Pd) : PrgAt R R P P 0 false false :=
  ⟨fun _ _ => rfl, Nat.le_refl _, fun h => (by cases h), fun _ => ⟨rfl, rfl, fun k p hk => (by omega)⟩, fun h => (by cases h)⟩
theorem canOp_k (h : canOp R p) : p.k ≠ 0 := by
  rcases h with ⟨h, _⟩ | ⟨h, _⟩ <;> omega
theorem PrgAt.skip (h : PrgAt R R' P P' i sb cb) (hp : P[i]? = some p) (hk : p.k = 0) : PrgAt R R' P P' (i + 1) sb cb := by
  obtain ⟨h1, h2, h3, h4, h5⟩ := h
  refine ⟨fun k hk => h1 k (by omega), h2, h3, fun hc => ?_, h5⟩
  obtain ⟨e1, e2, e3⟩ := h4 hc
  refine ⟨e1, e2, fun k q hki hq => ?_⟩
  by_cases e : k = i
  · subst e
    rw [hp] at hq
    injection hq with hq
    subst hq
    exact fun hcan => canOp_k hcan hk
  · exact e3 k q (by omega) hq
theorem PrgAt.not_ (h : PrgAt R R' P P' i sb cb) (hp : P[i]? = some p) (hk : p.k ≠ 0) (hc : ¬ canOp R' p) : PrgAt R R' P P' (i + 1) true cb := by
  obtain ⟨h1, h2, h3, h4, h5⟩ := h
  refine ⟨fun k hk => h1 k (by omega), h2, h3, fun hcb => ?_, fun _ => ⟨p, List.mem_of_getElem? hp, hk⟩⟩
  obtain ⟨e1, e2, e3⟩ := h4 hcb
  refine ⟨e1, e2, fun k q hki hq => ?_⟩
  by_cases e : k = i
  · subst e
    rw [hp] at hq
    injection hq with hq
    subst hq
    rw [← e2]; exact hc
  · exact e3 k q (by omega) hq
theorem PrgAt.can (h : PrgAt R R' P P' i sb cb) (hp : P'[i]? = some p) (hk : p.k ≠ 0) : PrgAt R R'' P (P'.set i pd0) (i + 1) true true := by
  obtain ⟨h1, h2, h3, h4, h5⟩ := h
  have := nz_set hp hk
  refine ⟨fun k hk => ?_, by omega, fun _ => by omega, fun h => (by cases h), fun _ => ⟨p, List.mem_of_getElem? (by rw [← h1 i (Nat.le_refl _)]; exact hp), hk⟩⟩
  rw [List.getElem?_set_ne (by omega)]
  exact h1 k (by omega)
theorem PrgAt.done {M : Md} {all : List Int} (h : PrgAt R R' P P' 6 sb cb) (h6 : P.length = 6) (hl : Lin R M all) (ht : R.tail ≤ 1000) (hok : ∀ p ∈ P, PdOk R all p) (hw : Whole R P) : (sb && !cb) = false ∧ (nz P' + 1 ≤ nz P ∨ nz P' = 0) := by
  obtain ⟨h1, h2, h3, h4, h5⟩ := h
  have hall : ∀ (Q : Pd → Prop), (∀ k p, k < 6 → P[k]? = some p → Q p) → ∀ p ∈ P, Q p := fun Q hq p hp => by
    obtain ⟨k, hk⟩ := List.mem_iff_getElem?.1 hp
    exact hq k p (by rw [← h6]; exact (List.getElem?_eq_some_iff.1 hk).1) hk
  cases cb
  · obtain ⟨e1, e2, e3⟩ := h4 rfl
    have hz : ∀ p ∈ P, p.k = 0 := fun p hp => by
      rcases Nat.eq_zero_or_pos p.k with h0 | h0
      · exact h0
      · exfalso
        obtain ⟨p2, hp2, hc⟩ := hw.can hl ht hok p.t ⟨p, hp, by omega, rfl⟩
        exact hall (fun p => ¬ canOp R p) e3 p2 hp2 hc
    have hn := nz_none hz
    cases sb
    · exact ⟨rfl, .inr (by rw [e1]; exact hn)⟩
    · obtain ⟨p, hp, hk⟩ := h5 rfl
      exact absurd (hz p hp) hk
  · exact ⟨by simp, .inl (h3 rfl)⟩
end
end Go.Proofs.Ytflaaogopcgdaaa
