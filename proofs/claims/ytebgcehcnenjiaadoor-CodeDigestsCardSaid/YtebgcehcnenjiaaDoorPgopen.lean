/-
  A program that came along as an argument.
-/
import Derived.Test.YtebgcehcnenjiaaDoorPrg
import Derived.Test.YtebgcehcnenjiaaDoorRows
import Derived.OpenShut
namespace Go.Proofs.YtebgcehcnenjiaaDoor
open Go.RowKit
set_option linter.unusedVariables false
set_option linter.unusedSimpArgs false
section
variable {P : Program} {W : World} {H : Type} {enc : TypeId × Value → H}
theorem trod_slice_cell {t e : TypeId} {n : Nat} {cs : List Value} {y : DataW H × List MemPlace} (ht : P.underlying t = some (.slice e)) (h : DataW.trod enc P W 0 (fun _ => true) true n t cs = some y) :
    ∃ A len cap, cs = [.slice A len cap] ∧ DataW.Trod enc P W 0 (fun _ => true) true t (.slice A len cap) y.1 y.2 := by
  rcases Deep.open_slice ht h with ⟨hcs, _⟩ | ⟨a, len, cap, m, n, D, Pl, hcs, _⟩
  · subst hcs; exact ⟨none, 0, 0, rfl, n, h⟩
  · subst hcs; exact ⟨some a, len, cap, rfl, _, h⟩
end
theorem list6v {l : List Value} (h : l.length = 6) : ∃ a b c d e f, l = [a, b, c, d, e, f] := by
  match l, h with
  | [a, b, c, d, e, f], _ => exact ⟨a, b, c, d, e, f, rfl⟩
theorem list3v {l : List Value} (h : l.length = 3) : ∃ a b c, l = [a, b, c] := by
  match l, h with
  | [a, b, c], _ => exact ⟨a, b, c, rfl⟩
section
variable {W : World} {H : Type} {enc : TypeId × Value → H}
set_option maxRecDepth 100000 in
theorem in_open {n : Nat} {cs : List Value} {y : DataW H × List MemPlace} (hl : cs.length = 6) (h : DataW.trod enc Tryd.prog W 0 (fun _ => true) true n 24 cs = some y) : ∃ x : In, cs = inF x ∧ inOk x := by
  obtain ⟨z0, g0, b0⟩ := int_field (i := 0) (k := .i64) Tryd.underlying24 h rfl ⟨Tryd.underlying3, rfl, by kernel_rfl⟩
  obtain ⟨z1, g1, b1⟩ := int_field (i := 1) (k := .i64) Tryd.underlying24 h rfl ⟨Tryd.underlying3, rfl, by kernel_rfl⟩
  obtain ⟨z2, g2, b2⟩ := int_field (i := 2) (k := .i64) Tryd.underlying24 h rfl ⟨Tryd.underlying3, rfl, by kernel_rfl⟩
  obtain ⟨z3, g3, b3⟩ := int_field (i := 3) (k := .i64) Tryd.underlying24 h rfl ⟨Tryd.underlying3, rfl, by kernel_rfl⟩
  obtain ⟨z4, g4, b4⟩ := int_field (i := 4) (k := .i64) Tryd.underlying24 h rfl ⟨Tryd.underlying3, rfl, by kernel_rfl⟩
  obtain ⟨z5, g5, b5⟩ := int_field (i := 5) (k := .u64) Tryd.underlying24 h rfl ⟨Tryd.underlying22, rfl, by kernel_rfl⟩
  have c5 := Go.bounds_u64 b5
  obtain ⟨x0, x1, x2, x3, x4, x5, rfl⟩ := list6v hl
  simp at g0 g1 g2 g3 g4 g5
  subst g0 g1 g2 g3 g4 g5
  refine ⟨⟨z0, z1, z2, z3, z4, z5.toNat⟩, ?_, Go.bounds_i64 b0, Go.bounds_i64 b1, Go.bounds_i64 b2, Go.bounds_i64 b3, Go.bounds_i64 b4, ?_⟩
  · unfold inF; simp only
    rw [show ((z5.toNat : Nat) : Int) = z5 by omega]
  · simp only; omega
set_option maxRecDepth 100000 in
theorem ri_open {n : Nat} {cs : List Value} {y : DataW H × List MemPlace} (hl : cs.length = 3) (h : DataW.trod enc Tryd.prog W 0 (fun _ => true) true n 67 cs = some y) : ∃ x : Ri, cs = riF x ∧ riOk x := by
  obtain ⟨z0, g0, b0⟩ := int_field (i := 0) (k := .i64) Tryd.underlying67 h rfl ⟨Tryd.underlying3, rfl, by kernel_rfl⟩
  obtain ⟨z1, g1, b1⟩ := int_field (i := 1) (k := .i64) Tryd.underlying67 h rfl ⟨Tryd.underlying3, rfl, by kernel_rfl⟩
  obtain ⟨z2, g2, b2⟩ := int_field (i := 2) (k := .i64) Tryd.underlying67 h rfl ⟨Tryd.underlying3, rfl, by kernel_rfl⟩
  obtain ⟨x0, x1, x2, rfl⟩ := list3v hl
  simp at g0 g1 g2
  subst g0 g1 g2
  exact ⟨⟨z0, z1, z2⟩, rfl, Go.bounds_i64 b0, Go.bounds_i64 b1, Go.bounds_i64 b2⟩
/-- A slice of instructions that came along. -/
theorem ins_open {a : Option Addr} {len cap : Nat} {d : DataW H} {p : List MemPlace} (h : DataW.Trod enc Tryd.prog W 0 (fun _ => true) true 51 (.slice a len cap) d p) : ∃ l : List In, l.length = len ∧ InsAt W a cap l ∧ ∀ x ∈ l, inOk x := by
  obtain ⟨l, _, h1, h2, h3⟩ := argOf (f := inF) (sz := 6) (ok := inOk) Tryd.underlying51 (by kernel_rfl) (by omega) (fun n cs y hl h => in_open hl h) h
  subst h1
  exact ⟨l, rfl, h2, h3⟩
theorem ris_open {a : Option Addr} {len cap : Nat} {d : DataW H} {p : List MemPlace} (h : DataW.Trod enc Tryd.prog W 0 (fun _ => true) true 32 (.slice a len cap) d p) : ∃ l : List Ri, l.length = len ∧ RisAt W a cap l ∧ ∀ x ∈ l, riOk x := by
  obtain ⟨l, _, h1, h2, h3⟩ := argOf (f := riF) (sz := 3) (ok := riOk) Tryd.underlying32 (by kernel_rfl) (by omega) (fun n cs y hl h => ri_open hl h) h
  subst h1
  exact ⟨l, rfl, h2, h3⟩
/-- A slice of threads that came along. -/
theorem ths_open {a : Option Addr} {len cap : Nat} {d : DataW H} {p : List MemPlace} (h : DataW.Trod enc Tryd.prog W 0 (fun _ => true) true 33 (.slice a len cap) d p) :
    ∃ ts : List (List In), ts.length = len ∧ ThsAt W a cap ts ∧ ∀ l ∈ ts, ∀ x ∈ l, inOk x := by
  obtain ⟨_, rows, hr, hs⟩ := argRows (sz := 1) Tryd.underlying33 (by kernel_rfl) (by omega) h
  obtain ⟨T, hT⟩ := Deep.choose_lt (α := Option Addr × Nat × List In) (n := len) (p := fun i q => rows i = [.slice q.1 q.2.2.length q.2.1] ∧ InsAt W q.1 q.2.1 q.2.2 ∧ ∀ x ∈ q.2.2, inOk x) (fun i hi => by
    obtain ⟨_, n, y, hy⟩ := hr i hi
    obtain ⟨A, l, c, e, ht⟩ := trod_slice_cell Tryd.underlying51 hy
    obtain ⟨q, h1, h2, h3⟩ := ins_open ht
    subst h1
    exact ⟨(A, c, q), e, h2, h3⟩)
  refine ⟨(List.range len).map (fun i => (T i).2.2), by simp, ⟨(List.range len).flatMap rows, ?_, fun i l hl => ?_⟩, fun l hl x hx => ?_⟩
  · simp only [List.length_map, List.length_range]; exact hs
  · rw [List.getElem?_map] at hl
    obtain ⟨j, hj, rfl⟩ := Option.map_eq_some_iff.1 hl
    have hi : i < len := by
      have := (List.getElem?_eq_some_iff.1 hj).1
      simpa using this
    rw [List.getElem?_range hi] at hj
    injection hj with hj
    subst hj
    obtain ⟨e, h2, h3⟩ := hT i hi
    refine ⟨(T i).1, (T i).2.1, ?_, h2⟩
    have := flat_get len (fun i hi => (hr i hi).1) i 0 hi (by omega)
    rw [Nat.mul_one, Nat.add_zero, e] at this
    exact this
  · obtain ⟨i, hi, rfl⟩ := List.mem_map.1 hl
    exact (hT i (List.mem_range.1 hi)).2.2 x hx
/-- A program, and where its parts lie. -/
structure Pa where
  A : Option Addr
  c : Nat
  B : Option Addr
  d : Nat
  p : Pg
def PaAt (W : World) (z : Pa) : Prop := PgAt W z.A z.c z.B z.d z.p ∧ pgOk z.p
set_option maxRecDepth 100000 in
theorem opened35 {base : Nat} {v : Value} {d : DataW H} {p : List MemPlace}
    (hok : Value.okWide Tryd.prog W .any base 35 v) (h : DataW.Trod enc Tryd.prog W 0 (fun _ => true) true 35 v d p) :
    ∃ z : Pa, v = .agg (pgC z.A z.c z.B z.d z.p) ∧ PaAt W z := by
  obtain ⟨cs, rfl, hl⟩ := WideShapes.okWide_struct Tryd.underlying35 hok
  obtain ⟨n, h⟩ := h
  obtain ⟨xs, m, _, _, hlx, hn, hx⟩ := DataW.trod_struct Tryd.underlying35 h
  have hl2 : cs.toList.length = 2 := by rw [Array.length_toList, hl]; kernel_rfl
  obtain ⟨x0, x1, hx01⟩ : ∃ x0 x1, cs.toList = [x0, x1] := by
    match cs.toList, hl2 with
    | [a, b], _ => exact ⟨a, b, rfl⟩
  have hcs : cs = #[x0, x1] := Array.toList_inj.1 hx01
  subst hcs
  have h0 := hx 0 _ rfl
  have h1 := hx 1 _ rfl
  have hx2 : xs.length = 2 := by rw [hn]; kernel_rfl
  rw [List.getElem?_eq_getElem (by omega)] at h0 h1
  obtain ⟨A, n1, c, e1, t1⟩ := trod_slice_cell Tryd.underlying32 h0
  obtain ⟨B, n2, d2, e2, t2⟩ := trod_slice_cell Tryd.underlying33 h1
  obtain ⟨rs, hr1, hr2, hr3⟩ := ris_open t1
  obtain ⟨ts, ht1, ht2, ht3⟩ := ths_open t2
  subst hr1 ht1
  have E1 : [x0] = [Value.slice A rs.length c] := e1
  have E2 : [x1] = [Value.slice B ts.length d2] := e2
  clear e1 e2 h0 h1 hx hlx h
  simp only [List.cons.injEq, and_true] at E1 E2
  subst E1
  subst E2
  exact ⟨⟨A, c, B, d2, ⟨rs, ts⟩⟩, rfl, ⟨hr2, ht2⟩, hr3, ht3⟩
end
end Go.Proofs.YtebgcehcnenjiaaDoor
