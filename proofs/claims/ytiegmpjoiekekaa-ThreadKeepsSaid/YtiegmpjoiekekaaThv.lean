/-
  What a thread asks for (layer 16): thread.visible.
-/
import Derived.Test.YtiegmpjoiekekaaThp
namespace Go.Proofs.Ytiegmpjoiekekaa
open Go.RowKit
set_option linter.unusedVariables false
set_option linter.unusedSimpArgs false
structure Ak where
  kd : Int
  rg : Int
  md : Int
  rd : Int
  tk : Nat
  vl : Nat
abbrev akC (a : Ak) : Array Value := #[.int .i64 a.kd, .int .i64 a.rg, .int .i64 a.md, .int .i64 a.rd, .int .u64 (a.tk : Int), .int .u64 (a.vl : Int)]
def noneA (k : Int) : Ak := ⟨k, 0, 0, 0, 0, 0⟩
/-- What a visible instruction asks for. -/
def visA (i : In) (x : Th) : Ak :=
  if i.op = 18 then ⟨1, i.c, i.d, 0, 0, x.r i.a.toNat⟩
  else if i.op = 19 then ⟨2, i.c, i.d, wrap64 (i.k : Int), 0, 0⟩
  else if i.op = 20 then ⟨3, i.c, 0, 0, 0, 0⟩
  else if i.op = 21 then noneA 4
  else if i.op = 22 then noneA 5
  else if i.op = 23 then noneA 6
  else if i.op = 24 then ⟨7, 0, 0, 0, 0, x.r i.a.toNat⟩
  else noneA 8
theorem vis_reg {i : In} (h : rightB i = true) (h1 : i.op = 18 ∨ i.op = 24) : 0 ≤ i.a ∧ i.a ≤ 7 := by
  obtain ⟨op, a, b, c, d, k⟩ := i
  unfold rightB at h
  simp only [Bool.and_eq_true] at h h1 ⊢
  obtain ⟨_, q1, q2, q3, _, q5⟩ := h
  unfold wB at q1
  rcases h1 with e | e
  all_goals
    subst e
    simp [gL] at q1
    omega
set_option maxHeartbeats 8000000 in
set_option maxRecDepth 100000 in
theorem visible16 (i : In) (x : Th) (v : Value) (w : World) (hr : rightB i = true) :
    Calls Try.prog 42 #[.agg (inC i), .agg (thC x v)] w fun e w' => e = .returned (.agg (akC (visA i x))) ∧ Below w.heap.size w w' := by
  have hb0 : Below w.heap.size w (w.alloc (.cells (inC i) 50)) := (Below.refl _ _).alloc (Nat.le_refl _) _
  have hb1 := hb0.alloc (by simp) (.cells (thC x v) 27)
  have l0 := Lies.made w 50 (inC i)
  have l1 := Lies.made (w.alloc (.cells (inC i) 50)) 27 (thC x v)
  have hbA := (Below.refl (w.alloc (.cells (inC i) 50)).heap.size (w.alloc (.cells (inC i) 50))).alloc (Nat.le_refl _) (.cells (thC x v) 27)
  have l0b := l0.below hbA l0.lt
  have HB := Lib.hid hb1
  have HL := Lib.hid l0b
  have HG := Lib.hid l1
  have HVR := Lib.hid (@vis_reg i hr)
  have HVD : Hid (visA i x = if i.op = 18 then ⟨1, i.c, i.d, 0, 0, x.r i.a.toNat⟩ else if i.op = 19 then ⟨2, i.c, i.d, wrap64 (i.k : Int), 0, 0⟩ else if i.op = 20 then ⟨3, i.c, 0, 0, 0, 0⟩ else if i.op = 21 then noneA 4 else if i.op = 22 then noneA 5 else if i.op = 23 then noneA 6 else if i.op = 24 then ⟨7, 0, 0, 0, 0, x.r i.a.toNat⟩ else noneA 8) := rfl
  clear hb0 hb1 l0 l1 hbA l0b hr
  have hba := Below.refl ((w.alloc (.cells (inC i) 50)).alloc (.cells (thC x v) 27)).heap.size ((w.alloc (.cells (inC i) 50)).alloc (.cells (thC x v) 27))
  have HGA := Lib.hid (fun o => HG.out.below (hba.alloc (Nat.le_refl _) o) HG.out.lt)
  have HBA := Lib.hid (fun o => HB.out.alloc (by simp; omega) o)
  rw [show (w.alloc (.cells (inC i) 50)).heap.size = w.heap.size + 1 by simp] at HGA
  clear hba
  by_cases o18 : i.op = 18
  · obtain ⟨an, han⟩ : ∃ n : Nat, i.a = n := ⟨i.a.toNat, by have := HVR.out (.inl o18); omega⟩
    have ha8 : an < 8 := by have := HVR.out (.inl o18); omega
    have e18 : (i.op == 18) = true := by rw [beq_iff_eq]; exact o18
    rw [if_pos o18, han, Int.toNat_natCast] at HVD
    have HGR := Lib.hid (fun o => ((HGA.out o).cell (5 + an)).trans (thC_reg x v ha8))
    have HAN := Lib.hid han
    clear o18 HVR HG HGA HB HAN
    obtain ⟨iop, ia, ib, ic, id, ik⟩ := i
    have han : ia = an := han
    subst han
    go_enter Try.func42, Try.ntmps42
    go_upto_region 3 with (fail)
    have ra := HGR.out (.cells #[.int .i64 0, .int .i64 0, .int .i64 0, .int .i64 0, .int .u64 0, .int .u64 0] 31)
    go_region
    go_wp2
    exact bodyPost_ret (by simp [results, Try.results42, go_sem]; rfl) rfl ⟨by rw [HVD.out]; rfl, (HBA.out _).drew⟩
  have e18 : (i.op == 18) = false := by rw [beq_eq_false_iff_ne]; exact o18
  rw [if_neg o18] at HVD
  by_cases o19 : i.op = 19
  · have e19 : (i.op == 19) = true := by rw [beq_iff_eq]; exact o19
    rw [if_pos o19] at HVD
    clear HVR HG HGA
    go_enter Try.func42, Try.ntmps42
    go_wp2
    exact bodyPost_ret (by simp [results, Try.results42, go_sem]; rfl) rfl ⟨by rw [HVD.out]; rfl, HBA.out _⟩
  have e19 : (i.op == 19) = false := by rw [beq_eq_false_iff_ne]; exact o19
  rw [if_neg o19] at HVD
  by_cases o20 : i.op = 20
  · have e20 : (i.op == 20) = true := by rw [beq_iff_eq]; exact o20
    rw [if_pos o20] at HVD
    clear HVR HG HGA
    go_enter Try.func42, Try.ntmps42
    go_wp2
    exact bodyPost_ret (by simp [results, Try.results42, go_sem]; rfl) rfl ⟨by rw [HVD.out]; rfl, HBA.out _⟩
  have e20 : (i.op == 20) = false := by rw [beq_eq_false_iff_ne]; exact o20
  rw [if_neg o20] at HVD
  by_cases o21 : i.op = 21
  · have e21 : (i.op == 21) = true := by rw [beq_iff_eq]; exact o21
    rw [if_pos o21] at HVD
    clear HVR HG HGA
    go_enter Try.func42, Try.ntmps42
    go_wp2
    exact bodyPost_ret (by simp [results, Try.results42, go_sem]; rfl) rfl ⟨by rw [HVD.out]; rfl, HBA.out _⟩
  have e21 : (i.op == 21) = false := by rw [beq_eq_false_iff_ne]; exact o21
  rw [if_neg o21] at HVD
  by_cases o22 : i.op = 22
  · have e22 : (i.op == 22) = true := by rw [beq_iff_eq]; exact o22
    rw [if_pos o22] at HVD
    clear HVR HG HGA
    go_enter Try.func42, Try.ntmps42
    go_wp2
    exact bodyPost_ret (by simp [results, Try.results42, go_sem]; rfl) rfl ⟨by rw [HVD.out]; rfl, HBA.out _⟩
  have e22 : (i.op == 22) = false := by rw [beq_eq_false_iff_ne]; exact o22
  rw [if_neg o22] at HVD
  by_cases o23 : i.op = 23
  · have e23 : (i.op == 23) = true := by rw [beq_iff_eq]; exact o23
    rw [if_pos o23] at HVD
    clear HVR HG HGA
    go_enter Try.func42, Try.ntmps42
    go_wp2
    exact bodyPost_ret (by simp [results, Try.results42, go_sem]; rfl) rfl ⟨by rw [HVD.out]; rfl, HBA.out _⟩
  have e23 : (i.op == 23) = false := by rw [beq_eq_false_iff_ne]; exact o23
  rw [if_neg o23] at HVD
  by_cases o24 : i.op = 24
  · obtain ⟨an, han⟩ : ∃ n : Nat, i.a = n := ⟨i.a.toNat, by have := HVR.out (.inr o24); omega⟩
    have ha8 : an < 8 := by have := HVR.out (.inr o24); omega
    have e24 : (i.op == 24) = true := by rw [beq_iff_eq]; exact o24
    rw [if_pos o24, han, Int.toNat_natCast] at HVD
    have HGR := Lib.hid (fun o => ((HGA.out o).cell (5 + an)).trans (thC_reg x v ha8))
    have HAN := Lib.hid han
    clear o24 HVR HG HGA HB HAN
    obtain ⟨iop, ia, ib, ic, id, ik⟩ := i
    have han : ia = an := han
    subst han
    go_enter Try.func42, Try.ntmps42
    go_upto_region 15 with (fail)
    have ra := HGR.out (.cells #[.int .i64 0, .int .i64 0, .int .i64 0, .int .i64 0, .int .u64 0, .int .u64 0] 31)
    go_wp2
    exact bodyPost_ret (by simp [results, Try.results42, go_sem]; rfl) rfl ⟨by rw [HVD.out]; rfl, HBA.out _⟩
  have e24 : (i.op == 24) = false := by rw [beq_eq_false_iff_ne]; exact o24
  rw [if_neg o24] at HVD
  clear HVR HG HGA
  go_enter Try.func42, Try.ntmps42
  go_wp2
  exact bodyPost_ret (by simp [results, Try.results42, go_sem]; rfl) rfl ⟨by rw [HVD.out]; rfl, HBA.out _⟩
end Go.Proofs.Ytiegmpjoiekekaa
