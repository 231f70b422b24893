import Derived.Test.YtahojmioonpodaaLaw1
namespace Go.Proofs.Ytahojmioonpodaa
open Go.RowKit
set_option linter.unusedVariables false
set_option linter.unusedSimpArgs false
set_option maxRecDepth 100000 in
theorem opened24 {W : World} {H : Type} {enc : TypeId × Value → H} {base : Nat} {a : Option Addr} {len cap : Nat} {d : DataW H} {p : List MemPlace}
    (_ : Value.okWide Try.prog W .any base 24 (.slice a len cap)) (h : DataW.Trod enc Try.prog W 0 (fun _ => true) true 24 (.slice a len cap) d p) : ∃ l, ArgOf op5F 4 op5Ok W a len cap l :=
  argOf (sz := 4) Try.underlying24 (by kernel_rfl) (by omega) (fun n cs y hl h => by
    obtain ⟨z0, g0, b0⟩ := int_field (i := 0) (k := .i64) Try.underlying51 h rfl ⟨Try.underlying3, rfl, by kernel_rfl⟩
    obtain ⟨z1, g1, b1⟩ := int_field (i := 1) (k := .i64) Try.underlying51 h rfl ⟨Try.underlying3, rfl, by kernel_rfl⟩
    obtain ⟨z2, g2, b2⟩ := int_field (i := 2) (k := .u64) Try.underlying51 h rfl ⟨Try.underlying32, rfl, by kernel_rfl⟩
    obtain ⟨z3, g3, b3⟩ := int_field (i := 3) (k := .u64) Try.underlying51 h rfl ⟨Try.underlying32, rfl, by kernel_rfl⟩
    have c0 := Go.bounds_i64 b0
    have c1 := Go.bounds_i64 b1
    have c2 := Go.bounds_u64 b2
    have c3 := Go.bounds_u64 b3
    obtain ⟨x0, x1, x2, x3, rfl⟩ := list4 hl
    simp at g0 g1 g2 g3
    subst g0 g1 g2 g3
    refine ⟨⟨z0, z1, z2.toNat, z3.toNat⟩, ?_, by simp only; omega, by simp only; omega, by simp only; omega, by simp only; omega, by simp only; omega, by simp only; omega⟩
    unfold op5F; simp only
    rw [show ((z2.toNat : Nat) : Int) = z2 by omega, show ((z3.toNat : Nat) : Int) = z3 by omega]) h
/-- A ring as it is asked for. -/
structure Rc where
  k : Int
  c : Int
  r : Int
def rcOk (z : Rc) : Prop := (-9223372036854775808 ≤ z.k ∧ z.k ≤ 9223372036854775807) ∧ (-9223372036854775808 ≤ z.c ∧ z.c ≤ 9223372036854775807) ∧ (-9223372036854775808 ≤ z.r ∧ z.r ≤ 9223372036854775807)
theorem list3_ {l : List Value} (h : l.length = 3) : ∃ a b c, l = [a, b, c] := by
  match l, h with
  | [a, b, c], _ => exact ⟨a, b, c, rfl⟩
set_option maxRecDepth 100000 in
theorem opened23 {W : World} {H : Type} {enc : TypeId × Value → H} {base : Nat} {v : Value} {d : DataW H} {p : List MemPlace}
    (hok : Value.okWide Try.prog W .any base 23 v) (h : DataW.Trod enc Try.prog W 0 (fun _ => true) true 23 v d p) :
    ∃ z : Rc, v = .agg #[.int .i64 z.k, .int .i64 z.c, .int .i64 z.r] ∧ rcOk z := by
  obtain ⟨cs, rfl, hl⟩ := WideShapes.okWide_struct Try.underlying23 hok
  obtain ⟨n, h⟩ := h
  obtain ⟨z0, g0, b0⟩ := int_field (i := 0) (k := .i64) Try.underlying23 h rfl ⟨Try.underlying3, rfl, by kernel_rfl⟩
  obtain ⟨z1, g1, b1⟩ := int_field (i := 1) (k := .i64) Try.underlying23 h rfl ⟨Try.underlying3, rfl, by kernel_rfl⟩
  obtain ⟨z2, g2, b2⟩ := int_field (i := 2) (k := .i64) Try.underlying23 h rfl ⟨Try.underlying3, rfl, by kernel_rfl⟩
  have hl4 : cs.toList.length = 3 := by rw [Array.length_toList, hl]; kernel_rfl
  obtain ⟨x0, x1, x2, hx⟩ := list3_ hl4
  have hcs : cs = #[x0, x1, x2] := Array.toList_inj.1 hx
  subst hcs
  simp [Value.cells] at g0 g1 g2
  subst g0 g1 g2
  exact ⟨⟨z0, z1, z2⟩, rfl, Go.bounds_i64 b0, Go.bounds_i64 b1, Go.bounds_i64 b2⟩
set_option maxHeartbeats 1000000 in
theorem refMay (k c r : Int) (w : World) : Calls Try.prog 12 #[.agg #[.int .i64 k, .int .i64 c, .int .i64 r]] w fun e w' => e = .returned (.bool (mayB k c r)) ∧ Below w.heap.size w w' := by
  go_enter Try.func12, Try.ntmps12
  go_wp2
  all_goals
    go_ret
    refine ⟨ret_bool ?_, (Below.refl _ _).alloc (Nat.le_refl _) _⟩
    unfold mayB
    rw [Bool.eq_iff_iff]
    simp
    try omega
/-! ## What the counts keep -/
def CntOk (R : Rg) : Prop := ∀ h ∈ R.h8.take R.rd, R.tail - h ≤ R.cap
theorem foldl_min_mem (l : List Nat) : ∀ a, ∀ x ∈ l, l.foldl min a ≤ x := by
  induction l with
  | nil => intro a x hx; cases hx
  | cons b l ih =>
    intro a x hx
    rw [List.foldl_cons]
    rcases List.mem_cons.1 hx with rfl | hx
    · exact Nat.le_trans (foldl_min_le _ _) (Nat.min_le_right _ _)
    · exact ih _ x hx
theorem leastN_mem {R : Rg} {x : Nat} (hx : x ∈ R.h8.take R.rd) : leastN R ≤ x := foldl_min_mem _ _ x hx
theorem CntOk.claim {R : Rg} (h : CntOk R) (hR : RgOk R) : CntOk (claimR R) := by
  unfold claimR
  split
  · rename_i he
    intro x hx
    have h1 := leastN_mem (R := R) hx
    have hf : fullB R = false := by
      unfold claimE at he
      split at he
      · exact absurd he (by decide)
      · split at he
        · exact absurd he (by decide)
        · simpa using ‹¬ fullB R = true›
    unfold fullB at hf
    have hf := of_decide_eq_false hf
    have := leastN_le hR
    simp only
    omega
  · exact h
theorem CntOk.do_ {R : Rg} (h : CntOk R) (hR : RgOk R) (x : Op5) : CntOk (doR R x) := by
  unfold doR
  split
  · exact h.claim hR
  · unfold pubR; split <;> exact h
  · unfold takeR
    split
    · rename_i he
      obtain ⟨hr, hne⟩ := takeE_ok he
      intro y hy
      simp only at hy ⊢
      obtain ⟨i, hi⟩ := List.mem_iff_getElem?.1 hy
      rw [List.getElem?_take] at hi
      split at hi
      · rename_i hlt
        rw [List.getElem?_set] at hi
        split at hi
        · rename_i hij
          split at hi
          · have := h (headN R x.j) (by
              obtain ⟨g1, g2, g3⟩ := headN_get hR hr
              rw [List.mem_iff_getElem?]
              exact ⟨x.j.toNat, by rw [List.getElem?_take, if_pos (by omega)]; exact g1⟩)
            injection hi with hi
            omega
          · cases hi
        · exact h y (by rw [List.mem_iff_getElem?]; exact ⟨i, by rw [List.getElem?_take, if_pos hlt]; exact hi⟩)
      · cases hi
    · exact h
  · unfold relR; split <;> exact h
  · exact h
theorem CntOk.new (cap rd : Nat) : CntOk (newR cap rd) := fun x hx => by
  unfold newR at hx ⊢
  simp only; omega
theorem doR_rd (R : Rg) (x : Op5) : (doR R x).rd = R.rd ∧ (doR R x).cap = R.cap := by
  unfold doR
  split
  · unfold claimR; split <;> exact ⟨rfl, rfl⟩
  · unfold pubR; split <;> exact ⟨rfl, rfl⟩
  · unfold takeR; split <;> exact ⟨rfl, rfl⟩
  · unfold relR; split <;> exact ⟨rfl, rfl⟩
  · exact ⟨rfl, rfl⟩
theorem doR_tail (R : Rg) (x : Op5) : (doR R x).tail ≤ R.tail + 1 := by
  unfold doR
  split
  · unfold claimR; split <;> simp
  · unfold pubR; split <;> simp
  · unfold takeR; split <;> simp
  · unfold relR; split <;> simp
  · simp
end Go.Proofs.Ytahojmioonpodaa
