import Derived.Test.YtoimipcnllmneaaLaw4
import Derived.Test.YtoimipcnllmneaaMapx
import Derived.Test.YtoimipcnllmneaaOrdm
namespace Go.Proofs.Ytoimipcnllmneaa
open Go.RowKit
open Go.ChangeMaps (setBlock heap_setBlock_same)
open Go.WideMaps (KeyLaw)
open Go.Maps (Keyed IsMap has)
set_option linter.unusedVariables false
set_option linter.unusedSimpArgs false
theorem opLaw : KeyLaw Try.prog 39 := deep_law_laid (by kernel_rfl) (m := 2) (by omega) (of_decide_eq_true (by kernel_rfl)) (by kernel_rfl) (by rw [Try.underlying39])
theorem opKeyed : Keyed Try.prog 39 := Keyed.of_law opLaw
theorem u64Keyed : Keyed Try.prog 37 := Go.Maps.int_keyed Try.underlying37
def gkey (j : Int) (t : Nat) : Lit := .string (keyBytes [.int .i64 0, .int .i64 j, .int .u64 (t : Int), .int .u64 0])
theorem opKey {j : Int} {t : Nat} (wj : (Lit.int .i64 j).wf = true) (wt : (Lit.int .u64 (t : Int)).wf = true) : keyOf Try.prog 39 (.agg #[.int .i64 0, .int .i64 j, .int .u64 (t : Int), .int .u64 0]) = some (gkey j t) := by
  obtain ⟨m, hm⟩ : ∃ m, Try.prog.types.size = m + 1 := Nat.exists_eq_succ_of_ne_zero (by have : 0 < Try.prog.types.size := of_decide_eq_true (by kernel_rfl); omega)
  have hkt : Try.prog.keyType 39 = true := by kernel_rfl
  have c3 : Try.prog.cellsOf 3 = 1 := by kernel_rfl
  have c32 : Try.prog.cellsOf 37 = 1 := by kernel_rfl
  have co : Try.prog.cellsOf 39 = 4 := by kernel_rfl
  have w0 : (Lit.int .i64 0).wf = true := by decide
  have w1 : (Lit.int .u64 0).wf = true := by decide
  unfold keyOf
  simp only [Try.underlying39]
  rw [if_pos (by simp [hkt, Value.formed, Try.underlying39, co]), hm]
  unfold Program.keyLits
  simp only [Try.underlying39, Value.cells]
  rw [if_pos (by rw [co]; simp)]
  simp [Program.keyLits, Try.underlying3, Try.underlying37, wj, wt, w0, w1, c3, c32, gkey]
theorem gkey_inj {j i : Int} {t x : Nat} (wj : (Lit.int .i64 j).wf = true) (wt : (Lit.int .u64 (t : Int)).wf = true) (wi : (Lit.int .i64 i).wf = true) (wx : (Lit.int .u64 (x : Int)).wf = true) (h : gkey i x = gkey j t) : i = j ∧ x = t := by
  have := opLaw.inj (opKey wi wx) (by rw [h]; exact opKey wj wt)
  simp only [Value.agg.injEq, Array.mk.injEq, List.cons.injEq, Value.int.injEq, true_and, and_true] at this
  exact ⟨this.1, by omega⟩
/-- What was got: once, or not. -/
def GotIs (D : DataW Unit) (Gf : Int → Nat → Bool) : Prop := IsMap D ∧ ∀ (j : Int) (t : Nat), (Lit.int .i64 j).wf = true → (Lit.int .u64 (t : Int)).wf = true → D.atKey (gkey j t) (.lit (.int .i64 0)) = .lit (.int .i64 (if Gf j t then 1 else 0))
theorem GotIs.empty : GotIs (.map []) (fun _ _ => false) := ⟨Go.Maps.isMap_empty, fun j t _ _ => rfl⟩
theorem GotIs.put {D : DataW Unit} {Gf : Int → Nat → Bool} (h : GotIs D Gf) {j : Int} {t : Nat} (wj : (Lit.int .i64 j).wf = true) (wt : (Lit.int .u64 (t : Int)).wf = true) : GotIs (D.put (gkey j t) (.lit (.int .i64 (0 + 1)))) (fun i x => if i = j ∧ x = t then true else Gf i x) := by
  refine ⟨h.1.put _ _, fun i x wi wx => ?_⟩
  by_cases e : i = j ∧ x = t
  · obtain ⟨rfl, rfl⟩ := e
    rw [Go.Maps.atKey_put_same h.1 (k := gkey i x) trivial]
    simp
  · have hne : gkey i x ≠ gkey j t := fun he => e (gkey_inj wj wt wi wx he)
    rw [Go.Maps.atKey_put_other hne, h.2 i x wi wx]
    simp only [if_neg e]
/-- How all stands: the ring, the two maps of the law's own. -/
structure OrdAt (w wx : World) (g bp bg n : Nat) (r : Nat) (L : List Sl) (Pf : Nat → Option Nat) (Gf : Int → Nat → Bool) (Dp Dg : DataW Unit) : Prop where
  rg : SlAt wx g 55 [] [] r L
  mp : wx.ownsMap Try.prog 37 (plainElem Try.prog 37) bp n Dp
  mg : wx.ownsMap Try.prog 39 (plainElem Try.prog 3) bg n Dg
  pis : PutIs Dp Pf
  gis : GotIs Dg Gf
  bel : Below w.heap.size w wx
  ne : bp ≠ g ∧ bg ≠ g ∧ bp ≠ bg ∧ w.heap.size ≤ g ∧ w.heap.size ≤ bp ∧ w.heap.size ≤ bg
theorem OrdAt.later {w a b : World} {g bp bg n : Nat} {r : Nat} {L : List Sl} {Pf : Nat → Option Nat} {Gf : Int → Nat → Bool} {Dp Dg : DataW Unit} (h : OrdAt w a g bp bg n r L Pf Gf Dp Dg) (k : Below a.heap.size a b) : OrdAt w b g bp bg n r L Pf Gf Dp Dg :=
  ⟨h.rg.later k, ownsMap_below h.mp k h.mp.lt, ownsMap_below h.mg k h.mg.lt, h.pis, h.gis, h.bel.trans (k.mono h.bel.size), h.ne⟩
set_option maxRecDepth 100000 in
theorem OrdAt.look {w a : World} {g bp bg n : Nat} {r : Nat} {L : List Sl} {Pf : Nat → Option Nat} {Gf : Int → Nat → Bool} {Dp Dg : DataW Unit} (h : OrdAt w a g bp bg n r L Pf Gf Dp Dg) (t : Nat) (ht : (Lit.int .u64 (t : Int)).wf = true) :
    ∃ v : Int, (Instr.lookup 35 (.map (some bp)) (.int .u64 (t : Int)) true).run Try.prog a = .ok (.tuple #[.int .u64 v, .bool (Pf t).isSome]) a ∧ ∀ y, Pf t = some y → v = (y : Int) := by
  obtain ⟨v, ps, hrun, hv⟩ := h.mp.look_ok u64Keyed Try.underlying35 (z := .int .u64 0) (by kernel_rfl) (plainElem_int Try.underlying37 (by decide)) (Go.Maps.keyOf_int_mk Try.underlying37 ht)
  obtain ⟨c, rfl, hc, _⟩ := plainElem_int_inv Try.underlying37 hv
  rw [(h.pis.2 t).1] at hrun
  refine ⟨c, hrun, fun y hy => ?_⟩
  rw [(h.pis.2 t).2 y hy] at hc
  simp only [Prod.mk.injEq, DataW.lit.injEq, Lit.int.injEq, true_and] at hc
  exact hc.1.symm
theorem OrdAt.put {w a : World} {g bp bg n : Nat} {r : Nat} {L : List Sl} {Pf : Nat → Option Nat} {Gf : Int → Nat → Bool} {Dp Dg : DataW Unit} (h : OrdAt w a g bp bg n r L Pf Gf Dp Dg) (t v : Nat) (ht : (Lit.int .u64 (t : Int)).wf = true) (hv : (Lit.int .u64 (v : Int)).wf = true) (hn : n < maxLen) :
    ∃ b, (Instr.mapUpdate 35 (.map (some bp)) (.int .u64 (t : Int)) (.int .u64 (v : Int))).run Try.prog a = .ok () b ∧ ∃ D, OrdAt w b g bp bg (n + 1) r L (fun x => if x = t then some v else Pf x) Gf D Dg := by
  obtain ⟨b, hrun, hown, hg⟩ := h.mp.update u64Keyed Try.underlying35 hn (Go.Maps.keyOf_int_mk Try.underlying37 ht) (plainElem_int Try.underlying37 hv)
  have hk := kept_own hg
  obtain ⟨n1, n2, n3, n4, n5, n6⟩ := h.ne
  exact ⟨b, hrun, _, h.rg.kept hk (fun (e : g = bp) => n1 e.symm), hown, (h.mg.mono (Nat.le_succ n)).kept hg (fun e => n3 (Option.some.inj e).symm), h.pis.put t v, h.gis, h.bel.grown hg h.bel.size (fun k e => by have := Option.some.inj e; omega), h.ne⟩
set_option maxRecDepth 100000 in
theorem zero_int (u : World) : (zeroValue 3).run Try.prog u = .ok (.int .i64 0) u := by kernel_rfl
theorem OrdAt.bump {w a : World} {g bp bg n : Nat} {r : Nat} {L : List Sl} {Pf : Nat → Option Nat} {Gf : Int → Nat → Bool} {Dp Dg : DataW Unit} (h : OrdAt w a g bp bg n r L Pf Gf Dp Dg) (j : Int) (t : Nat) (wj : (Lit.int .i64 j).wf = true) (wt : (Lit.int .u64 (t : Int)).wf = true) (hn : n < maxLen) (hg0 : Gf j t = false) :
    (Instr.lookup 36 (.map (some bg)) (.agg #[.int .i64 0, .int .i64 j, .int .u64 (t : Int), .int .u64 0]) false).run Try.prog a = .ok (.int .i64 0) a ∧
    ∃ (st : Nat) (w1 b : World), (Instr.mapEntry 36 (.map (some bg)) (.agg #[.int .i64 0, .int .i64 j, .int .u64 (t : Int), .int .u64 0])).run Try.prog a = .ok (.tuple #[.int .i64 0, .int .i64 (st : Int)]) w1 ∧
      (Instr.lookup 36 (.map (some bg)) (.agg #[.int .i64 0, .int .i64 j, .int .u64 (t : Int), .int .u64 0]) false).run Try.prog w1 = .ok (.int .i64 0) w1 ∧
      (Instr.entryStore 36 (.map (some bg)) (.int .i64 (st : Int)) (.int .i64 1)).run Try.prog w1 = .ok () b ∧
      (Instr.lookup 36 (.map (some bg)) (.agg #[.int .i64 0, .int .i64 j, .int .u64 (t : Int), .int .u64 0]) false).run Try.prog b = .ok (.int .i64 1) b ∧
      Kept (oneRow bg) a b ∧ ∃ D, OrdAt w b g bp bg (n + 1) r L Pf (fun i x => if i = j ∧ x = t then true else Gf i x) Dp D := by
  have hat : Dg.atKey (gkey j t) (.lit (.int .i64 0)) = .lit (.int .i64 0) := by
    have := h.gis.2 j t wj wt
    rw [hg0] at this; exact this
  obtain ⟨c, hl, hc, _⟩ := h.mg.lookup_int opKeyed Try.underlying36 Try.underlying3 (zero_int a) (opKey wj wt)
  rw [hat] at hc
  simp only [DataW.lit.injEq, Lit.int.injEq, true_and] at hc
  subst hc
  obtain ⟨st, w1, b, h1, h2, h3, hown, hg, hg1⟩ := own_bump h.mg opLaw Try.underlying36 Try.underlying3 zero_int hn (opKey wj wt) hat (by decide)
  obtain ⟨n1, n2, n3, n4, n5, n6⟩ := h.ne
  have hgis := h.gis.put wj wt
  obtain ⟨c2, hl2, hc2, _⟩ := hown.lookup_int opKeyed Try.underlying36 Try.underlying3 (zero_int b) (opKey wj wt)
  rw [hgis.2 j t wj wt] at hc2
  simp only [and_self, if_true, DataW.lit.injEq, Lit.int.injEq, true_and] at hc2
  subst hc2
  have hk : Kept (oneRow bg) a b := kept_own hg
  exact ⟨hl, st, w1, b, h1, h2, h3, hl2, hk, _, h.rg.kept hk (fun (e : g = bg) => n2 e.symm), (h.mp.mono (Nat.le_succ n)).kept hg (fun e => n3 (Option.some.inj e)), hown, h.pis, hgis, h.bel.grown hg h.bel.size (fun k e => by have := Option.some.inj e; omega), h.ne⟩
end Go.Proofs.Ytoimipcnllmneaa
