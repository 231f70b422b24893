import Derived.Test.YtflaaogopcgdaaaLaw10
namespace Go.Proofs.Ytflaaogopcgdaaa
open Go.RowKit
set_option linter.unusedVariables false
set_option linter.unusedSimpArgs false
theorem list4o {l : List Value} (h : l.length = 4) : ∃ a b c d, l = [a, b, c, d] := by
  match l, h with
  | [a, b, c, d], _ => exact ⟨a, b, c, d, rfl⟩
set_option maxRecDepth 100000 in
theorem opened52 {W : World} {H : Type} {enc : TypeId × Value → H} {base : Nat} {a : Option Addr} {len cap : Nat} {d : DataW H} {p : List MemPlace}
    (_ : Value.okWide Try.prog W .any base 52 (.slice a len cap)) (h : DataW.Trod enc Try.prog W 0 (fun _ => true) true 52 (.slice a len cap) d p) : ∃ l, ArgOf op4F 4 op4Ok W a len cap l :=
  argOf (sz := 4) Try.underlying52 (by kernel_rfl) (by omega) (fun n cs y hl h => by
    obtain ⟨z0, g0, b0⟩ := int_field (i := 0) (k := .i64) Try.underlying71 h rfl ⟨Try.underlying3, rfl, by kernel_rfl⟩
    obtain ⟨z1, g1, b1⟩ := int_field (i := 1) (k := .i64) Try.underlying71 h rfl ⟨Try.underlying3, rfl, by kernel_rfl⟩
    obtain ⟨z2, g2, b2⟩ := int_field (i := 2) (k := .i64) Try.underlying71 h rfl ⟨Try.underlying3, rfl, by kernel_rfl⟩
    obtain ⟨z3, g3, b3⟩ := int_field (i := 3) (k := .u64) Try.underlying71 h rfl ⟨Try.underlying36, rfl, by kernel_rfl⟩
    have c0 := Go.bounds_i64 b0
    have c1 := Go.bounds_i64 b1
    have c2 := Go.bounds_i64 b2
    have c3 := Go.bounds_u64 b3
    obtain ⟨x0, x1, x2, x3, rfl⟩ := list4o hl
    simp at g0 g1 g2 g3
    subst g0 g1 g2 g3
    refine ⟨⟨z0, z1, z2, z3.toNat⟩, ?_, by simp only; omega, by simp only; omega, by simp only; omega, by simp only; omega, by simp only; omega, by simp only; omega, by simp only; omega⟩
    unfold op4F; simp only
    rw [show ((z3.toNat : Nat) : Int) = z3 by omega]) h
set_option maxHeartbeats 4000000 in
set_option maxRecDepth 100000 in
theorem linear_walk (z : Rc) (a1 : Option Addr) (len1 cap1 : Nat) (ops : List Op4) (w : World) (hz : rcOk z) (ha : ArgOf op4F 4 op4Ok w a1 len1 cap1 ops) :
    Calls Try.prog 6 #[.agg #[.int .i64 z.k, .int .i64 z.c, .int .i64 z.r], .slice a1 len1 cap1] w fun e w' => e = .returned (.bool true) ∧ Below w.heap.size w w' := by
  obtain ⟨kk, c, r⟩ := z
  obtain ⟨hn, rfl, hs, hok⟩ := ha
  have hlc := hs.form
  obtain ⟨A', c', e', hc1, hc2, _⟩ := hlc
  simp only [Value.slice.injEq, true_and] at e'
  obtain ⟨rfl, rfl⟩ := e'
  unfold maxLen at hc2
  have hbA := (Below.refl w.heap.size w).alloc (Nat.le_refl _) (.cells #[.int .i64 kk, .int .i64 c, .int .i64 r] 23)
  have HBA := Lib.hid hbA
  have LA := Lib.hid (Lies.made w 23 #[.int .i64 kk, .int .i64 c, .int .i64 r])
  have HS := Lib.hid hs
  have HOK := Lib.hid hok
  clear hok hs hbA hn hz
  go_enter Try.func6, Try.ntmps6
  go_wp2_with fail
  generalize w.alloc (.cells #[.int .i64 kk, .int .i64 c, .int .i64 r] 23) = wA at *
  refine (awake_any _).mono ?_
  rintro e w1 ⟨rfl, hb1⟩
  have la1 := LA.out.below hb1 LA.out.lt
  have c0 := (la1.cell 0).trans (show _ = some (Value.int .i64 kk) from rfl)
  have c1 := (la1.cell 1).trans (show _ = some (Value.int .i64 c) from rfl)
  have c2 := (la1.cell 2).trans (show _ = some (Value.int .i64 r) from rfl)
  have hla := la1.lt
  have HB1 := Lib.hid (HBA.out.trans (hb1.mono HBA.out.size))
  have LA1 := Lib.hid la1
  clear la1 hb1 LA
  by_cases h300 : ops.length ≤ 300
  · have hci : ¬ (300 : Int) < (ops.length : Int) := by omega
    go_wp2_with fail
    refine (refMay kk c r _).mono ?_
    rintro e w2 ⟨rfl, hb2⟩
    have la2 := LA1.out.below hb2 LA1.out.lt
    have HB2 := Lib.hid (HB1.out.trans (hb2.mono HB1.out.size))
    clear c0 c1 c2 hla
    have c0 := (la2.cell 0).trans (show _ = some (Value.int .i64 kk) from rfl)
    have c1 := (la2.cell 1).trans (show _ = some (Value.int .i64 c) from rfl)
    have c2 := (la2.cell 2).trans (show _ = some (Value.int .i64 r) from rfl)
    have hla := la2.lt
    clear la2 hb2 LA1 HB1
    obtain ⟨mb, hmb⟩ : ∃ mb, mayB kk c r = mb := ⟨_, rfl⟩
    rw [hmb]
    cases mb
    · clear hmb
      go_wp2_with fail
      refine (awake_any _).mono ?_
      rintro e w3 ⟨rfl, hb3⟩
      have hb3 := HB2.out.trans (hb3.mono HB2.out.size)
      go_wp2
      go_ret
      exact ⟨rfl, hb3⟩
    · obtain ⟨cap, rfl⟩ : ∃ n : Nat, c = n := ⟨c.toNat, by have := of_decide_eq_true hmb; omega⟩
      obtain ⟨rd, rfl⟩ : ∃ n : Nat, r = n := ⟨r.toNat, by have := of_decide_eq_true hmb; omega⟩
      have hmb := of_decide_eq_true hmb
      have HC := Lib.hid (played_walk ops a1 cap1 kk cap rd w2 (by omega) (by omega) (by omega) (by omega) (by omega) (HS.out.later HB2.out) HOK.out h300)
      clear hmb
      go_wp2_with fail
      refine HC.out.mono ?_
      rintro e w5 ⟨q, g, gb, vb, R, M, all, P, rfl, hst, _, _, hP6, _, _⟩
      have hb5 := HB2.out.trans (hst.2.2.2.mono HB2.out.size)
      have hbn := hb5.alloc hb5.size (.cells z24 56)
      have l6 := Lies.made w5 56 z24
      have hrl : (rowsOf pdF P).length = 24 := by rw [rowsOf_length pdF_length, hP6]
      have hth := Lib.hid (lies_there l6 (o := 0) (n := (rowsOf pdF P).toArray.size) (by simp only [List.size_toArray]; rw [hrl]; decide))
      have HI2 := Lib.hid (show (Try.prog.info? 56).map (·.size) = some (rowsOf pdF P).toArray.size by simp only [List.size_toArray]; rw [hrl]; exact Try.info6)
      have HONE := Lib.hid (all_oneCell_toArray (pdF_one P))
      have HBE := Lib.hid (hbn.trans ((kept_cells (g := w5.heap.size) (rowsOf pdF P) 0 (w5.alloc (.cells z24 56))).below hbn.size (fun i hi (e : i = w5.heap.size) => by have := hb5.size; omega)))
      clear hst hb5 hbn l6 hrl hP6 HC c0 c1 c2 hla
      generalize rowsOf pdF P = rows at *
      go_wp2_with (refine wpList_store_mid rfl 56 _ _ rfl w5.heap.size 0 rows.toArray rfl rfl hth.out HI2.out HONE.out ?_)
      go_ret
      exact ⟨rfl, HBE.out⟩
  · have hci : (300 : Int) < (ops.length : Int) := by omega
    go_wp2_with fail
    refine (awake_any _).mono ?_
    rintro e w3 ⟨rfl, hb3⟩
    have hb3 := HB1.out.trans (hb3.mono HB1.out.size)
    go_wp2
    go_ret
    exact ⟨rfl, hb3⟩
end Go.Proofs.Ytflaaogopcgdaaa
