import Derived.Test.YtjkgckdldmhgjaaLaw1
import Derived.Test.YtjkgckdldmhgjaaArgrows
import Derived.Laws.AppendOwnNone
namespace Go.Proofs.Ytjkgckdldmhgjaa
open Go.RowKit
set_option linter.unusedVariables false
set_option linter.unusedSimpArgs false
def ArgRuns (w : World) (a : Option Addr) (len cap : Nat) (rs : List (Nat × Nat)) : Prop :=
  (a = none → len = 0 ∧ cap = 0) ∧ rs.length = len ∧ SeqS w 2 (.slice a len cap) len (cells2 rs) ∧ ∀ p ∈ rs, p.1 < M64 ∧ p.2 < M64
theorem opened24 {W : World} {H : Type} {enc : TypeId × Value → H} {base : Nat} {a : Option Addr} {len cap : Nat} {d : DataW H} {p : List MemPlace}
    (_ : Value.okWide Try.prog W .any base 24 (.slice a len cap)) (h : DataW.Trod enc Try.prog W 0 (fun _ => true) true 24 (.slice a len cap) d p) : ∃ z, ArgRuns W a len cap z := by
  obtain ⟨h1, rows, h2, h3⟩ := argRows (sz := 2) Try.underlying24 (by kernel_rfl) (by omega) h
  obtain ⟨z, hz⟩ := Deep.choose_lt (α := Nat × Nat) (n := len) (p := fun i q => rows i = [Value.int .u64 (q.1 : Int), Value.int .u64 (q.2 : Int)] ∧ q.1 < M64 ∧ q.2 < M64) (fun i hi => by
    obtain ⟨g1, n, y, g2⟩ := h2 i hi
    obtain ⟨x0, x1, e, r0, r1⟩ := twoInts (k0 := .u64) (k1 := .u64) Try.underlying36 Try.underlying34 Try.underlying34 rfl rfl (by kernel_rfl) (by kernel_rfl) g1 g2
    have b0 := Go.bounds_u64 r0
    have b1 := Go.bounds_u64 r1
    refine ⟨(x0.toNat, x1.toNat), ?_, by unfold M64; simp only; omega, by unfold M64; simp only; omega⟩
    rw [e]; simp only
    rw [show ((x0.toNat : Nat) : Int) = x0 by omega, show ((x1.toNat : Nat) : Int) = x1 by omega])
  have he : (List.range len).flatMap rows = cells2 ((List.range len).map z) := by
    rw [← flat_pairs]
    exact flatMap_congr_range len (fun i hi => (hz i hi).1)
  rw [he] at h3
  refine ⟨(List.range len).map z, h1, by simp, h3, fun q hq => ?_⟩
  obtain ⟨i, hi, rfl⟩ := List.mem_map.1 hq
  exact (hz i (List.mem_range.1 hi)).2
end Go.Proofs.Ytjkgckdldmhgjaa
