import Derived.Test.YtoimipcnllmneaaLaw2
namespace Go.Proofs.Ytoimipcnllmneaa
open Go.RowKit
set_option linter.unusedVariables false
set_option linter.unusedSimpArgs false
/-- A call of a script. -/
structure Op4 where
  k : Int
  j : Int
  t : Nat
  v : Nat
instance : Inhabited Op4 := ⟨⟨0, 0, 0, 0⟩⟩
def opF (o : Op4) : List Value := [.int .i64 o.k, .int .i64 o.j, .int .u64 (o.t : Int), .int .u64 (o.v : Int)]
theorem opF_length (o : Op4) : (opF o).length = 4 := rfl
def opOk (o : Op4) : Prop := -9223372036854775808 ≤ o.k ∧ o.k ≤ 9223372036854775807 ∧ -9223372036854775808 ≤ o.j ∧ o.j ≤ 9223372036854775807 ∧ o.t ≤ 18446744073709551615 ∧ o.v ≤ 18446744073709551615
theorem opened22 {W : World} {H : Type} {enc : TypeId × Value → H} {base : Nat} {a : Option Addr} {len cap : Nat} {d : DataW H} {p : List MemPlace}
    (_ : Value.okWide Try.prog W .any base 22 (.slice a len cap)) (h : DataW.Trod enc Try.prog W 0 (fun _ => true) true 22 (.slice a len cap) d p) : ∃ l, ArgOf opF 4 opOk W a len cap l :=
  argOf (sz := 4) Try.underlying22 (by kernel_rfl) (by omega) (fun n cs y hl h => by
    obtain ⟨z0, g0, b0⟩ := int_field (i := 0) (k := .i64) Try.underlying39 h rfl ⟨Try.underlying3, rfl, by kernel_rfl⟩
    obtain ⟨z1, g1, b1⟩ := int_field (i := 1) (k := .i64) Try.underlying39 h rfl ⟨Try.underlying3, rfl, by kernel_rfl⟩
    obtain ⟨z2, g2, b2⟩ := int_field (i := 2) (k := .u64) Try.underlying39 h rfl ⟨Try.underlying37, rfl, by kernel_rfl⟩
    obtain ⟨z3, g3, b3⟩ := int_field (i := 3) (k := .u64) Try.underlying39 h rfl ⟨Try.underlying37, rfl, by kernel_rfl⟩
    have c0 := Go.bounds_i64 b0
    have c1 := Go.bounds_i64 b1
    have c2 := Go.bounds_u64 b2
    have c3 := Go.bounds_u64 b3
    obtain ⟨x0, x1, x2, x3, rfl⟩ := list4 hl
    simp at g0 g1 g2 g3
    subst g0 g1 g2 g3
    refine ⟨⟨z0, z1, z2.toNat, z3.toNat⟩, ?_, by simp only; omega, by simp only; omega, by simp only; omega, by simp only; omega, by simp only; omega, by simp only; omega⟩
    unfold opF; simp only
    rw [show ((z2.toNat : Nat) : Int) = z2 by omega, show ((z3.toNat : Nat) : Int) = z3 by omega]) h
end Go.Proofs.Ytoimipcnllmneaa
