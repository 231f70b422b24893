import Derived.Test.YtiegmpjoiekekaaTh
import Derived.Test.YtiegmpjoiekekaaThcl
import Derived.Laws.StructEq
import Derived.ChangeKeysEq
import Derived.Test.YtiegmpjoiekekaaEv
import Derived.Test.YtiegmpjoiekekaaRows
import Derived.OpenShut
/-
  Two lists of numbers are compared.
-/
namespace Go.Proofs.Ytiegmpjoiekekaa
open Go.RowKit
set_option linter.unusedVariables false
set_option linter.unusedSimpArgs false
/-- Two lists of numbers are compared. -/
def vals (l : List Int) : List Value := l.map (Value.int .u64)
set_option maxHeartbeats 1000000 in
theorem refSame (v1 v2 : Value) (xs ys : List Int) (w : World) (h1 : SeqAt w v1 (vals xs)) (h2 : SeqAt w v2 (vals ys)) :
    Calls Try.prog 32 #[v1, v2] w fun e w' => e = .returned (.bool (decide (xs = ys))) ∧ ∃ n, w' = w.drewN n := by
  obtain ⟨A, c, rfl, a1, a2, a3⟩ := h1
  obtain ⟨B, d, rfl, b1, b2, b3⟩ := h2
  have e1 : (vals xs).length = xs.length := by simp [vals]
  have e2 : (vals ys).length = ys.length := by simp [vals]
  rw [e1, e2]
  have a1' : xs.length ≤ c := by rw [← e1]; exact a1
  have b1' : ys.length ≤ d := by rw [← e2]; exact b1
  clear a1 b1
  unfold maxLen at a2 b2
  have A3 := Lib.hid a3
  have B3 := Lib.hid b3
  clear a3 b3 e1 e2
  by_cases hl : xs.length = ys.length
  · have q1 : (xs.length != ys.length) = false := by simp [hl]
    go_enter Try.func32, Try.ntmps32
    have HL := Lib.hid hl
    clear hl
    go_wp2
    go_loopw [5] (fun i wr => ∃ k n : Nat, k ≤ xs.length ∧ i = .int .i64 k ∧ wr = w.drewN n ∧ Hid (xs.take k = ys.take k)) (fun i _ => xs.length - (intOf i).toNat)
    case atStart => exact ⟨0, 0, by omega, rfl, rfl, by unfold Hid; simp⟩
    case round =>
      obtain ⟨k, n, hk, rfl, rfl, ht⟩ := hrel
      by_cases hlt : k < xs.length
      · obtain ⟨x, hx⟩ : ∃ x, xs[k]? = some x := ⟨_, List.getElem?_eq_getElem hlt⟩
        obtain ⟨y, hy⟩ : ∃ y, ys[k]? = some y := ⟨_, List.getElem?_eq_getElem (by rw [← HL.out]; exact hlt)⟩
        obtain ⟨ba, oa, he, ca⟩ := A3.out k (.int .u64 x) (by simp [vals, hx])
        subst he
        obtain ⟨bb, ob, he, cb⟩ := B3.out k (.int .u64 y) (by simp [vals, hy])
        subst he
        have hk2 : (k : Int) < (xs.length : Int) := by omega
        have hk3 : (k : Int) < (ys.length : Int) := by rw [← HL.out]; exact hk2
        have HX := Lib.hid hx
        have HY := Lib.hid hy
        clear hx hy
        go_wp2_with fail
        go_quiet (fail)
        by_cases hxy : x = y
        · subst hxy
          go_wp2
          go_roundw
          case rel => exact ⟨k + 1, _, by omega, by go_num, (by first | rfl | exact World.drewN_drewN _ _ _), by
            have e1 : xs.take (k + 1) = xs.take k ++ [x] := by rw [List.take_add_one, HX.out]; rfl
            have e2 : ys.take (k + 1) = ys.take k ++ [x] := by rw [List.take_add_one, HY.out]; rfl
            unfold Hid; rw [e1, e2, ht.out]⟩
          case measure => simp [intOf]; omega
        · have q2 : (x != y) = true := by simpa using hxy
          go_wp2
          go_ret
          refine ⟨ret_bool ?_, _, by first | rfl | exact World.drewN_drewN _ _ _⟩
          have : xs ≠ ys := by
            intro h; subst h
            have h1 := HX.out; rw [HY.out] at h1; exact hxy (Option.some.inj h1).symm
          simp [this]
      · obtain rfl : k = xs.length := by omega
        go_wp2
        go_ret
        refine ⟨ret_bool ?_, _, by first | rfl | exact World.drewN_drewN _ _ _⟩
        have h := ht.out
        rw [List.take_of_length_le (Nat.le_refl _), List.take_of_length_le (by rw [HL.out]; exact Nat.le_refl _)] at h
        simp [h]
  · have q1 : (xs.length != ys.length) = true := by simpa using hl
    have HL := Lib.hid hl
    clear hl
    go_enter Try.func32, Try.ntmps32
    go_wp2
    go_ret
    refine ⟨ret_bool ?_, 0, rfl⟩
    have : xs ≠ ys := fun h => HL.out (by rw [h])
    simp [this]
/-- .. of naturals. -/
theorem vals_nat (l : List Nat) : vals (l.map fun (n : Nat) => (n : Int)) = cells64 l := by simp [vals, cells64]
theorem refSameNat (v1 v2 : Value) (xs ys : List Nat) (w : World) (h1 : SeqAt w v1 (cells64 xs)) (h2 : SeqAt w v2 (cells64 ys)) :
    Calls Try.prog 32 #[v1, v2] w fun e w' => e = .returned (.bool (decide (xs = ys))) ∧ ∃ n, w' = w.drewN n := by
  have := refSame v1 v2 (xs.map fun (n : Nat) => (n : Int)) (ys.map fun (n : Nat) => (n : Int)) w (by rw [vals_nat]; exact h1) (by rw [vals_nat]; exact h2)
  have e : decide ((xs.map fun (n : Nat) => (n : Int)) = (ys.map fun (n : Nat) => (n : Int))) = decide (xs = ys) := by
    congr 1
    apply propext
    constructor
    · intro h
      exact (List.map_inj_right (fun a b h => by omega)).1 h
    · intro h; rw [h]
  rw [e] at this
  exact this
end Go.Proofs.Ytiegmpjoiekekaa
/-
  Two lists of numbers are compared: slices.Equal.
-/
namespace Go.Proofs.Ytiegmpjoiekekaa
open Go.RowKit
set_option linter.unusedVariables false
set_option linter.unusedSimpArgs false
set_option maxHeartbeats 1000000 in
theorem eq64 (v1 v2 : Value) (xs ys : List Int) (w : World) (h1 : SeqAt w v1 (vals xs)) (h2 : SeqAt w v2 (vals ys)) :
    Calls Try.prog 30 #[v1, v2] w fun e w' => e = .returned (.bool (decide (xs = ys))) ∧ ∃ n, w' = w.drewN n := by
  obtain ⟨A, c, rfl, a1, a2, a3⟩ := h1
  obtain ⟨B, d, rfl, b1, b2, b3⟩ := h2
  have e1 : (vals xs).length = xs.length := by simp [vals]
  have e2 : (vals ys).length = ys.length := by simp [vals]
  rw [e1, e2]
  have a1' : xs.length ≤ c := by rw [← e1]; exact a1
  have b1' : ys.length ≤ d := by rw [← e2]; exact b1
  clear a1 b1
  unfold maxLen at a2 b2
  have A3 := Lib.hid a3
  have B3 := Lib.hid b3
  clear a3 b3 e1 e2
  by_cases hl : xs.length = ys.length
  · have q1 : (xs.length != ys.length) = false := by simp [hl]
    go_enter Try.func30, Try.ntmps30
    have HL := Lib.hid hl
    clear hl
    go_wp2
    go_loopw [13] (fun i wr => ∃ k n : Nat, k ≤ xs.length ∧ i = .int .i64 k ∧ wr = w.drewN n ∧ Hid (xs.take k = ys.take k)) (fun i _ => xs.length - (intOf i).toNat)
    case atStart => exact ⟨0, 0, by omega, rfl, rfl, by unfold Hid; simp⟩
    case round =>
      obtain ⟨k, n, hk, rfl, rfl, ht⟩ := hrel
      by_cases hlt : k < xs.length
      · obtain ⟨x, hx⟩ : ∃ x, xs[k]? = some x := ⟨_, List.getElem?_eq_getElem hlt⟩
        obtain ⟨y, hy⟩ : ∃ y, ys[k]? = some y := ⟨_, List.getElem?_eq_getElem (by rw [← HL.out]; exact hlt)⟩
        obtain ⟨ba, oa, he, ca⟩ := A3.out k (.int .u64 x) (by simp [vals, hx])
        subst he
        obtain ⟨bb, ob, he, cb⟩ := B3.out k (.int .u64 y) (by simp [vals, hy])
        subst he
        have hk2 : (k : Int) < (xs.length : Int) := by omega
        have hk3 : (k : Int) < (ys.length : Int) := by rw [← HL.out]; exact hk2
        have HX := Lib.hid hx
        have HY := Lib.hid hy
        clear hx hy
        go_wp2_with fail
        go_quiet (fail)
        by_cases hxy : x = y
        · subst hxy
          go_wp2
          go_roundw
          case rel => exact ⟨k + 1, _, by omega, by go_num, (by first | rfl | exact World.drewN_drewN _ _ _), by
            have e1 : xs.take (k + 1) = xs.take k ++ [x] := by rw [List.take_add_one, HX.out]; rfl
            have e2 : ys.take (k + 1) = ys.take k ++ [x] := by rw [List.take_add_one, HY.out]; rfl
            unfold Hid; rw [e1, e2, ht.out]⟩
          case measure => simp [intOf]; omega
        · have q2 : (x != y) = true := by simpa using hxy
          go_wp2
          go_ret
          refine ⟨ret_bool ?_, _, by first | rfl | exact World.drewN_drewN _ _ _⟩
          have : xs ≠ ys := by
            intro h; subst h
            have h1 := HX.out; rw [HY.out] at h1; exact hxy (Option.some.inj h1).symm
          simp [this]
      · obtain rfl : k = xs.length := by omega
        go_wp2
        go_ret
        refine ⟨ret_bool ?_, _, by first | rfl | exact World.drewN_drewN _ _ _⟩
        have h := ht.out
        rw [List.take_of_length_le (Nat.le_refl _), List.take_of_length_le (by rw [HL.out]; exact Nat.le_refl _)] at h
        simp [h]
  · have q1 : (xs.length != ys.length) = true := by simpa using hl
    have HL := Lib.hid hl
    clear hl
    go_enter Try.func30, Try.ntmps30
    go_wp2
    go_ret
    refine ⟨ret_bool ?_, 0, rfl⟩
    have : xs ≠ ys := fun h => HL.out (by rw [h])
    simp [this]
theorem eq64Nat (v1 v2 : Value) (xs ys : List Nat) (w : World) (h1 : SeqAt w v1 (cells64 xs)) (h2 : SeqAt w v2 (cells64 ys)) :
    Calls Try.prog 30 #[v1, v2] w fun e w' => e = .returned (.bool (decide (xs = ys))) ∧ ∃ n, w' = w.drewN n := by
  have := eq64 v1 v2 (xs.map fun (n : Nat) => (n : Int)) (ys.map fun (n : Nat) => (n : Int)) w (by rw [vals_nat]; exact h1) (by rw [vals_nat]; exact h2)
  have e : decide ((xs.map fun (n : Nat) => (n : Int)) = (ys.map fun (n : Nat) => (n : Int))) = decide (xs = ys) := by
    congr 1
    apply propext
    constructor
    · intro h
      exact (List.map_inj_right (fun a b h => by omega)).1 h
    · intro h; rw [h]
  rw [e] at this
  exact this
end Go.Proofs.Ytiegmpjoiekekaa
/-
  Two states are compared (layer 16): the registers.
-/
namespace Go.Proofs.Ytiegmpjoiekekaa
open Go.RowKit
set_option linter.unusedVariables false
set_option linter.unusedSimpArgs false
def regB (x y : Nat → Nat) : Bool := (x 0 == y 0) && ((x 1 == y 1) && ((x 2 == y 2) && ((x 3 == y 3) && ((x 4 == y 4) && ((x 5 == y 5) && ((x 6 == y 6) && (x 7 == y 7)))))))
abbrev regC (x : Nat → Nat) : Array Value := #[.int .u64 (x 0 : Int), .int .u64 (x 1 : Int), .int .u64 (x 2 : Int), .int .u64 (x 3 : Int), .int .u64 (x 4 : Int), .int .u64 (x 5 : Int), .int .u64 (x 6 : Int), .int .u64 (x 7 : Int)]
theorem under8 : Try.prog.underlying 24 = some (.array 8 23) := by kernel_rfl
theorem cells1 : Try.prog.cellsOf 23 = 1 := by kernel_rfl
theorem intEqN (a b : Nat) : ((a : Int) == (b : Int)) = (a == b) := by rw [Bool.eq_iff_iff, beq_iff_eq, beq_iff_eq]; omega
set_option maxHeartbeats 2000000 in
theorem regsEql (x y : Nat → Nat) (w : World) : (binOp .eql 24 (.agg (regC x)) (.agg (regC y))).run Try.prog w = .ok (.bool (regB x y)) w := by
  obtain ⟨i0, hi, _, _, _⟩ := info_parts Try.info64
  rw [run_eql_struct, run_equalIn_array w 9999 _ _ under8 hi, cells1]
  rw [show List.range 8 = [0, 1, 2, 3, 4, 5, 6, 7] from rfl]
  have hp : ∀ (l : Array Value) (k : Nat) (a : Int) (q : World), l[k]? = some (.int .u64 a) → (part 23 l (k * 1)).run Try.prog q = .ok (.int .u64 a) q := by
    intro l k a q h
    have hu : Try.prog.underlying 23 = some (.int .u64) := by kernel_rfl
    simp [part, isAgg, run_underlying hu, h]
  have hu : Try.prog.underlying 23 = some (.int .u64) := by kernel_rfl
  have a0 := fun q => hp (regC x) 0 (x 0) q rfl
  have a1 := fun q => hp (regC x) 1 (x 1) q rfl
  have a2 := fun q => hp (regC x) 2 (x 2) q rfl
  have a3 := fun q => hp (regC x) 3 (x 3) q rfl
  have a4 := fun q => hp (regC x) 4 (x 4) q rfl
  have a5 := fun q => hp (regC x) 5 (x 5) q rfl
  have a6 := fun q => hp (regC x) 6 (x 6) q rfl
  have a7 := fun q => hp (regC x) 7 (x 7) q rfl
  have b0 := fun q => hp (regC y) 0 (y 0) q rfl
  have b1 := fun q => hp (regC y) 1 (y 1) q rfl
  have b2 := fun q => hp (regC y) 2 (y 2) q rfl
  have b3 := fun q => hp (regC y) 3 (y 3) q rfl
  have b4 := fun q => hp (regC y) 4 (y 4) q rfl
  have b5 := fun q => hp (regC y) 5 (y 5) q rfl
  have b6 := fun q => hp (regC y) 6 (y 6) q rfl
  have b7 := fun q => hp (regC y) 7 (y 7) q rfl
  have he : ∀ (a b : Nat) (q : World), (Op.equalIn 9999 23 (.int .u64 (a : Int)) (.int .u64 (b : Int))).run Try.prog q = .ok (a == b) q := fun a b q => by
    rw [run_equalIn_int q 9998 23 .u64 .u64 _ _ hu, intEqN]
  generalize regC x = X at *
  generalize regC y = Y at *
  simp only [Op.eqItems, Sem.run_bind, a0, a1, a2, a3, a4, a5, a6, a7, b0, b1, b2, b3, b4, b5, b6, b7, he, Result.andThen_ok, Sem.run_ite, Sem.run_pure]
  unfold regB
  cases (x 0 == y 0) <;> try rfl
  cases (x 1 == y 1) <;> try rfl
  cases (x 2 == y 2) <;> try rfl
  cases (x 3 == y 3) <;> try rfl
  cases (x 4 == y 4) <;> try rfl
  cases (x 5 == y 5) <;> try rfl
  cases (x 6 == y 6) <;> try rfl
  cases (x 7 == y 7) <;> rfl
end Go.Proofs.Ytiegmpjoiekekaa
/-
  Instructions, a thread's state and an event that came along as arguments (layer 16).
-/
namespace Go.Proofs.Ytiegmpjoiekekaa
open Go.RowKit
set_option linter.unusedVariables false
set_option linter.unusedSimpArgs false
section
variable {P : Program} {W : World} {H : Type} {enc : TypeId × Value → H}
theorem trod_slice_cell16 {t e : TypeId} {n : Nat} {cs : List Value} {y : DataW H × List MemPlace} (ht : P.underlying t = some (.slice e)) (h : DataW.trod enc P W 0 (fun _ => true) true n t cs = some y) :
    ∃ A len cap, cs = [.slice A len cap] ∧ DataW.Trod enc P W 0 (fun _ => true) true t (.slice A len cap) y.1 y.2 := by
  rcases Deep.open_slice ht h with ⟨hcs, _⟩ | ⟨a, len, cap, m, n, D, Pl, hcs, _⟩
  · subst hcs; exact ⟨none, 0, 0, rfl, n, h⟩
  · subst hcs; exact ⟨some a, len, cap, rfl, _, h⟩
/-- An array of numbers in a struct. -/
theorem ints_field {e a el : TypeId} {fs : Array Field} {n N : Nat} {cs : List Value} {y : DataW H × List MemPlace} (he : P.underlying e = some (.struct fs)) (h : DataW.trod enc P W 0 (fun _ => true) true n e cs = some y)
    {i : Nat} {f : Field} {k : IntKind} (hf : fs[i]? = some f) (ht : P.underlying f.type = some (.array N el)) (hu : P.underlying el = some (.int k)) (hc : P.cellsOf el = 1) (hcN : P.cellsOf f.type = N) :
    ∀ j, j < N → ∃ z, cs[f.offset + j]? = some (.int k z) ∧ (Lit.int k z).wf = true := by
  intro j hj
  obtain ⟨xs, m, _, _, hl, hn, hx⟩ := DataW.trod_struct he h
  have h1 := hx i f hf
  have hi : i < xs.length := by rw [hn]; exact (Array.getElem?_eq_some_iff.1 hf).1
  rw [List.getElem?_eq_getElem hi] at h1
  obtain ⟨ys, m2, _, _, hl2, hn2, hx2⟩ := DataW.trod_array ht h1
  have h2 := hx2 j hj
  rw [hc, Nat.mul_one, List.getElem?_eq_getElem (by omega)] at h2
  obtain ⟨z, e1, _, e2⟩ := DataW.trod_int hu h2
  refine ⟨z, ?_, e2⟩
  have e3 : ((((cs.drop f.offset).take (P.cellsOf f.type)).drop j).take 1)[0]? = some (.int k z) := by rw [e1]; rfl
  rw [List.getElem?_take, if_pos (by decide), List.getElem?_drop, List.getElem?_take, hcN, if_pos (by omega), List.getElem?_drop, Nat.add_zero] at e3
  exact e3
end
theorem list6w {l : List Value} (h : l.length = 6) : ∃ a b c d e f, l = [a, b, c, d, e, f] := by
  match l, h with
  | [a, b, c, d, e, f], _ => exact ⟨a, b, c, d, e, f, rfl⟩
theorem list5w {l : List Value} (h : l.length = 5) : ∃ a b c d e, l = [a, b, c, d, e] := by
  match l, h with
  | [a, b, c, d, e], _ => exact ⟨a, b, c, d, e, rfl⟩
theorem list14w {l : List Value} (h : l.length = 14) : ∃ a b c d e f g i j k m n o p, l = [a, b, c, d, e, f, g, i, j, k, m, n, o, p] := by
  match l, h with
  | [a, b, c, d, e, f, g, i, j, k, m, n, o, p], _ => exact ⟨a, b, c, d, e, f, g, i, j, k, m, n, o, p, rfl⟩
section
variable {W : World} {H : Type} {enc : TypeId × Value → H}
set_option maxRecDepth 100000 in
theorem in_open16 {n : Nat} {cs : List Value} {y : DataW H × List MemPlace} (hl : cs.length = 6) (h : DataW.trod enc Try.prog W 0 (fun _ => true) true n 50 cs = some y) : ∃ x : In, cs = inF x ∧ inOk x := by
  obtain ⟨z0, g0, b0⟩ := int_field (i := 0) (k := .i64) Try.underlying50 h rfl ⟨Try.underlying3, rfl, by kernel_rfl⟩
  obtain ⟨z1, g1, b1⟩ := int_field (i := 1) (k := .i64) Try.underlying50 h rfl ⟨Try.underlying3, rfl, by kernel_rfl⟩
  obtain ⟨z2, g2, b2⟩ := int_field (i := 2) (k := .i64) Try.underlying50 h rfl ⟨Try.underlying3, rfl, by kernel_rfl⟩
  obtain ⟨z3, g3, b3⟩ := int_field (i := 3) (k := .i64) Try.underlying50 h rfl ⟨Try.underlying3, rfl, by kernel_rfl⟩
  obtain ⟨z4, g4, b4⟩ := int_field (i := 4) (k := .i64) Try.underlying50 h rfl ⟨Try.underlying3, rfl, by kernel_rfl⟩
  obtain ⟨z5, g5, b5⟩ := int_field (i := 5) (k := .u64) Try.underlying50 h rfl ⟨Try.underlying23, rfl, by kernel_rfl⟩
  have c5 := Go.bounds_u64 b5
  obtain ⟨x0, x1, x2, x3, x4, x5, rfl⟩ := list6w hl
  simp at g0 g1 g2 g3 g4 g5
  subst g0 g1 g2 g3 g4 g5
  refine ⟨⟨z0, z1, z2, z3, z4, z5.toNat⟩, ?_, Go.bounds_i64 b0, Go.bounds_i64 b1, Go.bounds_i64 b2, Go.bounds_i64 b3, Go.bounds_i64 b4, ?_⟩
  · unfold inF; simp only
    rw [show ((z5.toNat : Nat) : Int) = z5 by omega]
  · simp only; omega
def InArg (w : World) (a : Option Addr) (len cap : Nat) (l : List In) : Prop := l.length = len ∧ InsAt w a cap l ∧ ∀ x ∈ l, inOk x
theorem opened22 {base : Nat} {a : Option Addr} {len cap : Nat} {d : DataW H} {p : List MemPlace}
    (_ : Value.okWide Try.prog W .any base 22 (.slice a len cap)) (h : DataW.Trod enc Try.prog W 0 (fun _ => true) true 22 (.slice a len cap) d p) : ∃ l : List In, InArg W a len cap l := by
  obtain ⟨l, _, h1, h2, h3⟩ := argOf (f := inF) (sz := 6) (ok := inOk) Try.underlying22 (by kernel_rfl) (by omega) (fun n cs y hl h => in_open16 hl h) h
  subst h1
  exact ⟨l, rfl, h2, h3⟩
theorem opened42 {base : Nat} {v : Value} {d : DataW H} {p : List MemPlace}
    (hok : Value.okWide Try.prog W .any base 42 v) (h : DataW.Trod enc Try.prog W 0 (fun _ => true) true 42 v d p) :
    ∃ z : Ev, v = .agg (evC z) ∧ evOk z := by
  obtain ⟨cs, rfl, hl⟩ := WideShapes.okWide_struct Try.underlying42 hok
  obtain ⟨n, h⟩ := h
  have h : DataW.trod enc Try.prog W 0 (fun _ => true) true n 42 cs.toList = some (d, p) := h
  obtain ⟨z0, g0, b0⟩ := int_field (i := 0) (k := .i64) Try.underlying42 h rfl ⟨Try.underlying3, rfl, by kernel_rfl⟩
  obtain ⟨z1, g1, b1⟩ := int_field (i := 1) (k := .i64) Try.underlying42 h rfl ⟨Try.underlying3, rfl, by kernel_rfl⟩
  obtain ⟨z2, g2, b2⟩ := int_field (i := 2) (k := .i64) Try.underlying42 h rfl ⟨Try.underlying3, rfl, by kernel_rfl⟩
  obtain ⟨z3, g3, b3⟩ := int_field (i := 3) (k := .u64) Try.underlying42 h rfl ⟨Try.underlying23, rfl, by kernel_rfl⟩
  obtain ⟨z4, g4, b4⟩ := int_field (i := 4) (k := .u64) Try.underlying42 h rfl ⟨Try.underlying23, rfl, by kernel_rfl⟩
  have c3 := Go.bounds_u64 b3
  have c4 := Go.bounds_u64 b4
  have hl5 : cs.toList.length = 5 := by rw [Array.length_toList, hl]; kernel_rfl
  obtain ⟨x0, x1, x2, x3, x4, hx⟩ := list5w hl5
  rw [hx] at g0 g1 g2 g3 g4
  simp at g0 g1 g2 g3 g4
  subst g0 g1 g2 g3 g4
  refine ⟨⟨z0, z1, z2, z3.toNat, z4.toNat⟩, ?_, Go.bounds_i64 b0, Go.bounds_i64 b1, Go.bounds_i64 b2, ?_, ?_⟩
  · congr 1
    apply Array.toList_inj.1
    rw [hx]
    simp only [evC]
    rw [show ((z3.toNat : Nat) : Int) = z3 by omega, show ((z4.toNat : Nat) : Int) = z4 by omega]
  · simp only; omega
  · simp only; omega
/-- A state, and where what it saw lies. -/
structure Ta where
  x : Th
  S : Option Addr
  cs : Nat
def TaAt (w : World) (z : Ta) : Prop := thOk z.x ∧ SeqS w 1 (.slice z.S z.x.sn.length z.cs) z.x.sn.length (cells64 z.x.sn)
theorem seqS_of_ints {w : World} {a : Option Addr} {len cap : Nat} {zs : List Int} (h : ArgInts .u64 w a len cap zs) : ∃ l : List Nat, l.length = len ∧ SeqS w 1 (.slice a len cap) len (cells64 l) ∧ ∀ n ∈ l, n ≤ 18446744073709551615 := by
  obtain ⟨h1, h2, h3, h4, h5, h6⟩ := h
  refine ⟨zs.map Int.toNat, by simpa using h4, ⟨by simp [cells64]; omega, a, cap, rfl, h2, h3, fun e => (h1 e).2, ?_⟩, ?_⟩
  · intro k v hv
    have hv2 : (zs.map (Value.int .u64))[k]? = some v := by
      unfold cells64 at hv
      rw [List.getElem?_map, List.getElem?_map] at hv
      rw [List.getElem?_map]
      cases hz : zs[k]? with
      | none => rw [hz] at hv; cases hv
      | some z =>
        rw [hz] at hv
        have hb := Go.bounds_u64 (h6 z (List.mem_of_getElem? hz))
        simp only [Option.map_some, Option.some.injEq] at hv ⊢
        rw [← hv]
        congr 1
        omega
    obtain ⟨b, off, e1, _, e2⟩ := h5 k v hv2
    exact ⟨b, off, e1, e2⟩
  · intro n hn
    obtain ⟨z, hz, rfl⟩ := List.mem_map.1 hn
    have hb := Go.bounds_u64 (h6 z hz)
    omega
set_option maxRecDepth 100000 in
set_option maxHeartbeats 2000000 in
theorem opened27 {base : Nat} {v : Value} {d : DataW H} {p : List MemPlace}
    (hok : Value.okWide Try.prog W .any base 27 v) (h : DataW.Trod enc Try.prog W 0 (fun _ => true) true 27 v d p) :
    ∃ z : Ta, v = .agg (thC z.x (.slice z.S z.x.sn.length z.cs)) ∧ TaAt W z := by
  obtain ⟨cs, rfl, hl⟩ := WideShapes.okWide_struct Try.underlying27 hok
  obtain ⟨n, h⟩ := h
  have h : DataW.trod enc Try.prog W 0 (fun _ => true) true n 27 cs.toList = some (d, p) := h
  obtain ⟨z0, g0, b0⟩ := int_field (i := 0) (k := .i64) Try.underlying27 h rfl ⟨Try.underlying3, rfl, by kernel_rfl⟩
  obtain ⟨z1, g1, b1⟩ := int_field (i := 1) (k := .i64) Try.underlying27 h rfl ⟨Try.underlying3, rfl, by kernel_rfl⟩
  obtain ⟨z2, g2, b2⟩ := int_field (i := 2) (k := .i64) Try.underlying27 h rfl ⟨Try.underlying3, rfl, by kernel_rfl⟩
  obtain ⟨z3, g3, b3⟩ := int_field (i := 3) (k := .i64) Try.underlying27 h rfl ⟨Try.underlying3, rfl, by kernel_rfl⟩
  obtain ⟨z4, g4, b4⟩ := int_field (i := 4) (k := .u64) Try.underlying27 h rfl ⟨Try.underlying23, rfl, by kernel_rfl⟩
  have hreg := ints_field (a := 0) (i := 5) (k := .u64) Try.underlying27 h rfl Try.underlying24 Try.underlying23 (by kernel_rfl) (by kernel_rfl)
  obtain ⟨q0, r0, s0⟩ := hreg 0 (by decide)
  obtain ⟨q1, r1, s1⟩ := hreg 1 (by decide)
  obtain ⟨q2, r2, s2⟩ := hreg 2 (by decide)
  obtain ⟨q3, r3, s3⟩ := hreg 3 (by decide)
  obtain ⟨q4, r4, s4⟩ := hreg 4 (by decide)
  obtain ⟨q5, r5, s5⟩ := hreg 5 (by decide)
  obtain ⟨q6, r6, s6⟩ := hreg 6 (by decide)
  obtain ⟨q7, r7, s7⟩ := hreg 7 (by decide)
  obtain ⟨xs, m, _, _, hlx, hn, hx⟩ := DataW.trod_struct Try.underlying27 h
  have h6 := hx 6 _ rfl
  have hx7 : xs.length = 7 := by rw [hn]; kernel_rfl
  rw [List.getElem?_eq_getElem (by omega)] at h6
  obtain ⟨A, n1, c, e1, t1⟩ := trod_slice_cell16 Try.underlying25 h6
  obtain ⟨zs, hzs⟩ := argInts_of (k := .u64) Try.underlying25 Try.underlying23 (by kernel_rfl) t1
  obtain ⟨l, hll, hls, hlb⟩ := seqS_of_ints hzs
  have b4 := Go.bounds_u64 b4
  have s0 := Go.bounds_u64 s0
  have s1 := Go.bounds_u64 s1
  have s2 := Go.bounds_u64 s2
  have s3 := Go.bounds_u64 s3
  have s4 := Go.bounds_u64 s4
  have s5 := Go.bounds_u64 s5
  have s6 := Go.bounds_u64 s6
  have s7 := Go.bounds_u64 s7
  have hl14 : cs.toList.length = 14 := by rw [Array.length_toList, hl]; kernel_rfl
  obtain ⟨y0, y1, y2, y3, y4, y5, y6, y7, y8, y9, y10, y11, y12, y13, hy⟩ := list14w hl14
  have E6 : [y13] = [Value.slice A n1 c] := by
    have e2 := e1
    rw [hy] at e2
    exact e2
  rw [hy] at g0 g1 g2 g3 g4 r0 r1 r2 r3 r4 r5 r6 r7
  replace r0 : some y5 = _ := r0
  replace r1 : some y6 = _ := r1
  replace r2 : some y7 = _ := r2
  replace r3 : some y8 = _ := r3
  replace r4 : some y9 = _ := r4
  replace r5 : some y10 = _ := r5
  replace r6 : some y11 = _ := r6
  replace r7 : some y12 = _ := r7
  simp only [List.getElem?_cons_zero, List.getElem?_cons_succ, Option.some.injEq] at g0 g1 g2 g3 g4 r0 r1 r2 r3 r4 r5 r6 r7
  simp only [List.cons.injEq, and_true] at E6
  subst g0 g1 g2 g3 g4 r0 r1 r2 r3 r4 r5 r6 r7 E6 hll
  refine ⟨⟨⟨z0, z1, z2, z3, z4.toNat, fun j => if j = 0 then q0.toNat else if j = 1 then q1.toNat else if j = 2 then q2.toNat else if j = 3 then q3.toNat else if j = 4 then q4.toNat else if j = 5 then q5.toNat else if j = 6 then q6.toNat else if j = 7 then q7.toNat else 0, l⟩, A, c⟩, ?_, ⟨Go.bounds_i64 b0, Go.bounds_i64 b1, Go.bounds_i64 b2, Go.bounds_i64 b3, ?_, ?_, hlb⟩, hls⟩
  · congr 1
    apply Array.toList_inj.1
    rw [hy]
    simp [thC]
    omega
  · simp only; omega
  · intro j
    simp only
    repeat' split
    all_goals omega
end
end Go.Proofs.Ytiegmpjoiekekaa
/-
  Two states are compared (layer 16): thread.Same, the document's Same.
-/
namespace Go.Proofs.Ytiegmpjoiekekaa
open Go.RowKit
set_option linter.unusedVariables false
set_option linter.unusedSimpArgs false
def samT (x y : Th) : Bool := (x.at_ == y.at_) && ((x.ph == y.ph) && ((x.rg == y.rg) && ((x.st == y.st) && ((x.tk == y.tk) && (regB x.r y.r && decide (x.sn = y.sn))))))
set_option maxHeartbeats 4000000 in
set_option maxRecDepth 100000 in
theorem thSame (x y : Th) (A : Option Addr) (c : Nat) (B : Option Addr) (d : Nat) (w : World) (h : SeqAt w (.slice A x.sn.length c) (cells64 x.sn)) (k : SeqAt w (.slice B y.sn.length d) (cells64 y.sn)) :
    Calls Try.prog 14 #[.agg (thC x (.slice A x.sn.length c)), .agg (thC y (.slice B y.sn.length d))] w fun e w' => e = .returned (.bool (samT x y)) ∧ Below w.heap.size w w' := by
  have hb := (((Below.refl w.heap.size w).alloc (Nat.le_refl _) (.cells (thC x (.slice A x.sn.length c)) 27))).alloc (by simp) (.cells (thC y (.slice B y.sn.length d)) 27)
  have HB := Lib.hid hb
  have HCA := Lib.hid (fun q (hq : Below w.heap.size w q) => eq64Nat _ _ x.sn y.sn q (SeqAt.later_ h hq) (SeqAt.later_ k hq))
  have HD : Hid (samT x y = ((x.at_ == y.at_) && ((x.ph == y.ph) && ((x.rg == y.rg) && ((x.st == y.st) && ((x.tk == y.tk) && (regB x.r y.r && decide (x.sn = y.sn)))))))) := rfl
  have hge : Try.prog.eqGuardType Try.prog.depth 24 = false := by kernel_rfl
  have hre := fun q => regsEql x.r y.r q
  dsimp only [regC] at hre
  clear hb h k
  obtain ⟨b1, hb1⟩ : ∃ b, (x.at_ == y.at_) = b := ⟨_, rfl⟩
  obtain ⟨b2, hb2⟩ : ∃ b, (x.ph == y.ph) = b := ⟨_, rfl⟩
  obtain ⟨b3, hb3⟩ : ∃ b, (x.rg == y.rg) = b := ⟨_, rfl⟩
  obtain ⟨b4, hb4⟩ : ∃ b, (x.st == y.st) = b := ⟨_, rfl⟩
  obtain ⟨b5, hb5⟩ : ∃ b, (x.tk == y.tk) = b := ⟨_, rfl⟩
  obtain ⟨b6, hb6⟩ : ∃ b, regB x.r y.r = b := ⟨_, rfl⟩
  have ib5 : ((x.tk : Int) == (y.tk : Int)) = b5 := by rw [← hb5, intEqN]
  rw [hb1, hb2, hb3, hb4, hb5, hb6] at HD
  rw [hb6] at hre
  clear hb6
  have hc : (b1 = false) ∨ (b1 = true ∧ b2 = false) ∨ (b1 = true ∧ b2 = true ∧ b3 = false) ∨ (b1 = true ∧ b2 = true ∧ b3 = true ∧ b4 = false) ∨ (b1 = true ∧ b2 = true ∧ b3 = true ∧ b4 = true ∧ b5 = false) ∨ (b1 = true ∧ b2 = true ∧ b3 = true ∧ b4 = true ∧ b5 = true ∧ b6 = false) ∨ (b1 = true ∧ b2 = true ∧ b3 = true ∧ b4 = true ∧ b5 = true ∧ b6 = true) := by
    cases b1 <;> cases b2 <;> cases b3 <;> cases b4 <;> cases b5 <;> cases b6 <;> simp
  rcases hc with rfl | ⟨rfl, rfl⟩ | ⟨rfl, rfl, rfl⟩ | ⟨rfl, rfl, rfl, rfl⟩ | ⟨rfl, rfl, rfl, rfl, rfl⟩ | ⟨rfl, rfl, rfl, rfl, rfl, rfl⟩ | ⟨rfl, rfl, rfl, rfl, rfl, rfl⟩
  all_goals
    have HE := HD.out
    simp only [Bool.true_and, Bool.false_and] at HE
    have HE2 := Lib.hid HE
    clear HE HD
    go_enter Try.func14, Try.ntmps14
    first
      | (go_wp2
         go_ret
         exact ⟨ret_bool HE2.out.symm, HB.out⟩)
      | (go_wp2_with fail
         refine (HCA.out _ HB.out).mono ?_
         rintro e w' ⟨rfl, n, rfl⟩
         go_wp2
         go_ret
         exact ⟨ret_bool HE2.out.symm, below_drewN HB.out n⟩)
set_option maxHeartbeats 4000000 in
set_option maxRecDepth 100000 in
theorem rfThSame (x y : Th) (A : Option Addr) (c : Nat) (B : Option Addr) (d : Nat) (w : World) (h : SeqAt w (.slice A x.sn.length c) (cells64 x.sn)) (k : SeqAt w (.slice B y.sn.length d) (cells64 y.sn)) :
    Calls Try.prog 17 #[.agg (thC x (.slice A x.sn.length c)), .agg (thC y (.slice B y.sn.length d))] w fun e w' => e = .returned (.bool (samT x y)) ∧ Below w.heap.size w w' := by
  have hb := (((Below.refl w.heap.size w).alloc (Nat.le_refl _) (.cells (thC x (.slice A x.sn.length c)) 27))).alloc (by simp) (.cells (thC y (.slice B y.sn.length d)) 27)
  have HB := Lib.hid hb
  have HCA := Lib.hid (fun q (hq : Below w.heap.size w q) => refSameNat _ _ x.sn y.sn q (SeqAt.later_ h hq) (SeqAt.later_ k hq))
  have HD : Hid (samT x y = ((x.at_ == y.at_) && ((x.ph == y.ph) && ((x.rg == y.rg) && ((x.st == y.st) && ((x.tk == y.tk) && (regB x.r y.r && decide (x.sn = y.sn)))))))) := rfl
  have hge : Try.prog.eqGuardType Try.prog.depth 24 = false := by kernel_rfl
  have hre := fun q => regsEql x.r y.r q
  dsimp only [regC] at hre
  clear hb h k
  obtain ⟨b1, hb1⟩ : ∃ b, (x.at_ == y.at_) = b := ⟨_, rfl⟩
  obtain ⟨b2, hb2⟩ : ∃ b, (x.ph == y.ph) = b := ⟨_, rfl⟩
  obtain ⟨b3, hb3⟩ : ∃ b, (x.rg == y.rg) = b := ⟨_, rfl⟩
  obtain ⟨b4, hb4⟩ : ∃ b, (x.st == y.st) = b := ⟨_, rfl⟩
  obtain ⟨b5, hb5⟩ : ∃ b, (x.tk == y.tk) = b := ⟨_, rfl⟩
  obtain ⟨b6, hb6⟩ : ∃ b, regB x.r y.r = b := ⟨_, rfl⟩
  have ib5 : ((x.tk : Int) == (y.tk : Int)) = b5 := by rw [← hb5, intEqN]
  rw [hb1, hb2, hb3, hb4, hb5, hb6] at HD
  rw [hb6] at hre
  clear hb6
  have hc : (b1 = false) ∨ (b1 = true ∧ b2 = false) ∨ (b1 = true ∧ b2 = true ∧ b3 = false) ∨ (b1 = true ∧ b2 = true ∧ b3 = true ∧ b4 = false) ∨ (b1 = true ∧ b2 = true ∧ b3 = true ∧ b4 = true ∧ b5 = false) ∨ (b1 = true ∧ b2 = true ∧ b3 = true ∧ b4 = true ∧ b5 = true ∧ b6 = false) ∨ (b1 = true ∧ b2 = true ∧ b3 = true ∧ b4 = true ∧ b5 = true ∧ b6 = true) := by
    cases b1 <;> cases b2 <;> cases b3 <;> cases b4 <;> cases b5 <;> cases b6 <;> simp
  rcases hc with rfl | ⟨rfl, rfl⟩ | ⟨rfl, rfl, rfl⟩ | ⟨rfl, rfl, rfl, rfl⟩ | ⟨rfl, rfl, rfl, rfl, rfl⟩ | ⟨rfl, rfl, rfl, rfl, rfl, rfl⟩ | ⟨rfl, rfl, rfl, rfl, rfl, rfl⟩
  all_goals
    have HE := HD.out
    simp only [Bool.true_and, Bool.false_and] at HE
    have HE2 := Lib.hid HE
    clear HE HD
    go_enter Try.func17, Try.ntmps17
    first
      | (go_wp2
         go_ret
         exact ⟨ret_bool HE2.out.symm, HB.out⟩)
      | (go_wp2_with fail
         refine (HCA.out _ HB.out).mono ?_
         rintro e w' ⟨rfl, n, rfl⟩
         go_wp2
         go_ret
         exact ⟨ret_bool HE2.out.symm, below_drewN HB.out n⟩)
end Go.Proofs.Ytiegmpjoiekekaa
