import Derived.Test.YtahojmioonpodaaDo
namespace Go.Proofs.Ytahojmioonpodaa
open Go.RowKit
set_option linter.unusedVariables false
set_option linter.unusedSimpArgs false
set_option maxRecDepth 100000 in
theorem opened51 {W : World} {H : Type} {enc : TypeId × Value → H} {base : Nat} {v : Value} {d : DataW H} {p : List MemPlace}
    (hok : Value.okWide Try.prog W .any base 51 v) (h : DataW.Trod enc Try.prog W 0 (fun _ => true) true 51 v d p) :
    ∃ z : Op5, v = .agg #[.int .i64 z.k, .int .i64 z.j, .int .u64 (z.t : Int), .int .u64 (z.v : Int)] ∧ op5Ok z := by
  obtain ⟨cs, rfl, hl⟩ := WideShapes.okWide_struct Try.underlying51 hok
  obtain ⟨n, h⟩ := h
  obtain ⟨z0, g0, b0⟩ := int_field (i := 0) (k := .i64) Try.underlying51 h rfl ⟨Try.underlying3, rfl, by kernel_rfl⟩
  obtain ⟨z1, g1, b1⟩ := int_field (i := 1) (k := .i64) Try.underlying51 h rfl ⟨Try.underlying3, rfl, by kernel_rfl⟩
  obtain ⟨z2, g2, b2⟩ := int_field (i := 2) (k := .u64) Try.underlying51 h rfl ⟨Try.underlying32, rfl, by kernel_rfl⟩
  obtain ⟨z3, g3, b3⟩ := int_field (i := 3) (k := .u64) Try.underlying51 h rfl ⟨Try.underlying32, rfl, by kernel_rfl⟩
  have c0 := Go.bounds_i64 b0
  have c1 := Go.bounds_i64 b1
  have c2 := Go.bounds_u64 b2
  have c3 := Go.bounds_u64 b3
  have hl4 : cs.toList.length = 4 := by rw [Array.length_toList, hl]; kernel_rfl
  obtain ⟨x0, x1, x2, x3, hx⟩ := list4 hl4
  have hcs : cs = #[x0, x1, x2, x3] := Array.toList_inj.1 hx
  subst hcs
  simp [Value.cells] at g0 g1 g2 g3
  subst g0 g1 g2 g3
  refine ⟨⟨z0, z1, z2.toNat, z3.toNat⟩, ?_, by simp only; omega, by simp only; omega, by simp only; omega, by simp only; omega, by simp only; omega, by simp only; omega⟩
  simp only
  rw [show ((z2.toNat : Nat) : Int) = z2 by omega, show ((z3.toNat : Nat) : Int) = z3 by omega]
set_option maxHeartbeats 1000000 in
set_option maxRecDepth 100000 in
theorem nil_walk (z : Op5) (w : World) (w0 : op5Ok z) :
    Calls Try.prog 9 #[.agg #[.int .i64 z.k, .int .i64 z.j, .int .u64 (z.t : Int), .int .u64 (z.v : Int)]] w fun e w' => e = .returned (.bool true) ∧ Below w.heap.size w w' := by
  clear w0
  have hb := (Below.refl w.heap.size w).alloc (Nat.le_refl _) (.cells #[.int .i64 z.k, .int .i64 z.j, .int .u64 (z.t : Int), .int .u64 (z.v : Int)] 51)
  have lo := Lies.made w 51 #[.int .i64 z.k, .int .i64 z.j, .int .u64 (z.t : Int), .int .u64 (z.v : Int)]
  have LO := Lib.hid lo
  have HB := Lib.hid hb
  clear lo hb
  go_enter Try.func9, Try.ntmps9
  go_wp2_with fail
  refine (doNil _ _ _ _ _).mono ?_
  rintro e w1 ⟨rfl, hb1⟩
  have lo1 := LO.out.below hb1 LO.out.lt
  have hb1 := HB.out.trans (hb1.mono HB.out.size)
  have LO1 := Lib.hid lo1
  clear lo1 LO HB
  go_wp2_with fail
  refine (rgNilState _).mono ?_
  rintro e w2 ⟨rfl, hb2⟩
  have lo2 := LO1.out.below hb2 LO1.out.lt
  have hb2 := hb1.trans (hb2.mono hb1.size)
  have hbA : Below w2.heap.size w2 (w2.alloc (.cells #[.int .u64 0, .slice none 0 0, .bool false, .slice none 0 0] 42)) := (Below.refl _ _).alloc (Nat.le_refl _) _
  have lo3 := lo2.below hbA lo2.lt
  have ls3 := Lies.made w2 42 #[.int .u64 0, .slice none 0 0, .bool false, .slice none 0 0]
  have hb3 := hb2.trans (hbA.mono hb2.size)
  have LO3 := Lib.hid lo3
  have LS3 := Lib.hid ls3
  have HB3 := Lib.hid hb3
  clear lo2 hbA hb2 lo3 ls3 hb3 hb1 LO1
  go_wp2_with fail
  refine (awake_any _).mono ?_
  rintro e w4 ⟨rfl, hb4⟩
  have lo := LO3.out.below hb4 LO3.out.lt
  have ls := LS3.out.below hb4 LS3.out.lt
  have hb := HB3.out.trans (hb4.mono HB3.out.size)
  have c0 := (lo.cell 0).trans (show _ = some (Value.int .i64 z.k) from rfl)
  have c1 := (lo.cell 1).trans (show _ = some (Value.int .i64 z.j) from rfl)
  have c2 := (lo.cell 2).trans (show _ = some (Value.int .u64 (z.t : Int)) from rfl)
  have d0 := (ls.cell 0).trans (show _ = some (Value.int .u64 0) from rfl)
  have d1 := (ls.cell 1).trans (show _ = some (Value.slice none 0 0) from rfl)
  have d2 := (ls.cell 2).trans (show _ = some (Value.bool false) from rfl)
  have d3 := (ls.cell 3).trans (show _ = some (Value.slice none 0 0) from rfl)
  have HB := Lib.hid hb
  clear lo ls hb4 LO3 LS3 HB3 hb
  go_wp2_with (first | (go_at_call 30; refine (rgNilFull _).mono ?_; rintro e w' ⟨rfl, rfl⟩) | (go_at_call 29; refine (rgNilEmpty _ _).mono ?_; rintro e w' ⟨rfl, rfl⟩) | (go_at_call 22; refine (rgNilFree _ _).mono ?_; rintro e w' ⟨rfl, n1, rfl⟩) | (go_at_call 23; refine (rgNilHas _ _ _).mono ?_; rintro e w' ⟨rfl, n2, rfl⟩) | (go_at_call 31; refine (rgNilTail _).mono ?_; rintro e w' ⟨rfl, rfl⟩) | (go_at_call 32; refine (rgNilHead _ _).mono ?_; rintro e w' ⟨rfl, rfl⟩) | (go_at_call 33; refine (rgNilClosed _).mono ?_; rintro e w' ⟨rfl, rfl⟩))
  go_ret
  exact ⟨rfl, below_drewN HB.out _⟩
end Go.Proofs.Ytahojmioonpodaa
