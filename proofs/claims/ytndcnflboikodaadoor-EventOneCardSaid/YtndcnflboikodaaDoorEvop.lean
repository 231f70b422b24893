/-
  Events that came along as arguments.
-/
import Derived.Test.YtndcnflboikodaaDoorEv
import Derived.Test.YtndcnflboikodaaDoorRows
import Derived.OpenShut
namespace Go.Proofs.YtndcnflboikodaaDoor
open Go.RowKit
set_option linter.unusedVariables false
set_option linter.unusedSimpArgs false
theorem list5v {l : List Value} (h : l.length = 5) : ∃ a b c d e, l = [a, b, c, d, e] := by
  match l, h with
  | [a, b, c, d, e], _ => exact ⟨a, b, c, d, e, rfl⟩
section
variable {W : World} {H : Type} {enc : TypeId × Value → H}
set_option maxRecDepth 100000 in
theorem ev_open {n : Nat} {cs : List Value} {y : DataW H × List MemPlace} (hl : cs.length = 5) (h : DataW.trod enc Tryd.prog W 0 (fun _ => true) true n 24 cs = some y) : ∃ x : Ev, cs = evF x ∧ evOk x := by
  obtain ⟨z0, g0, b0⟩ := int_field (i := 0) (k := .i64) Tryd.underlying24 h rfl ⟨Tryd.underlying3, rfl, by kernel_rfl⟩
  obtain ⟨z1, g1, b1⟩ := int_field (i := 1) (k := .i64) Tryd.underlying24 h rfl ⟨Tryd.underlying3, rfl, by kernel_rfl⟩
  obtain ⟨z2, g2, b2⟩ := int_field (i := 2) (k := .i64) Tryd.underlying24 h rfl ⟨Tryd.underlying3, rfl, by kernel_rfl⟩
  obtain ⟨z3, g3, b3⟩ := int_field (i := 3) (k := .u64) Tryd.underlying24 h rfl ⟨Tryd.underlying22, rfl, by kernel_rfl⟩
  obtain ⟨z4, g4, b4⟩ := int_field (i := 4) (k := .u64) Tryd.underlying24 h rfl ⟨Tryd.underlying22, rfl, by kernel_rfl⟩
  have c3 := Go.bounds_u64 b3
  have c4 := Go.bounds_u64 b4
  obtain ⟨x0, x1, x2, x3, x4, rfl⟩ := list5v hl
  simp at g0 g1 g2 g3 g4
  subst g0 g1 g2 g3 g4
  refine ⟨⟨z0, z1, z2, z3.toNat, z4.toNat⟩, ?_, Go.bounds_i64 b0, Go.bounds_i64 b1, Go.bounds_i64 b2, ?_, ?_⟩
  · unfold evF; simp only
    rw [show ((z3.toNat : Nat) : Int) = z3 by omega, show ((z4.toNat : Nat) : Int) = z4 by omega]
  · simp only; omega
  · simp only; omega
def EvArg (w : World) (a : Option Addr) (len cap : Nat) (l : List Ev) : Prop := l.length = len ∧ EvsAt w a cap l ∧ ∀ x ∈ l, evOk x
theorem opened36 {base : Nat} {a : Option Addr} {len cap : Nat} {d : DataW H} {p : List MemPlace}
    (_ : Value.okWide Tryd.prog W .any base 36 (.slice a len cap)) (h : DataW.Trod enc Tryd.prog W 0 (fun _ => true) true 36 (.slice a len cap) d p) : ∃ l : List Ev, EvArg W a len cap l := by
  obtain ⟨l, _, h1, h2, h3⟩ := argOf (f := evF) (sz := 5) (ok := evOk) Tryd.underlying36 (by kernel_rfl) (by omega) (fun n cs y hl h => ev_open hl h) h
  subst h1
  exact ⟨l, rfl, h2, h3⟩
theorem opened24 {base : Nat} {v : Value} {d : DataW H} {p : List MemPlace}
    (hok : Value.okWide Tryd.prog W .any base 24 v) (h : DataW.Trod enc Tryd.prog W 0 (fun _ => true) true 24 v d p) :
    ∃ z : Ev, v = .agg (evC z) ∧ evOk z := by
  obtain ⟨cs, rfl, hl⟩ := WideShapes.okWide_struct Tryd.underlying24 hok
  obtain ⟨n, h⟩ := h
  obtain ⟨x, hx, ho⟩ := ev_open (cs := cs.toList) (by rw [Array.length_toList, hl]; kernel_rfl) h
  refine ⟨x, ?_, ho⟩
  rw [show evC x = cs from Array.toList_inj.1 hx.symm]
end
end Go.Proofs.YtndcnflboikodaaDoor
