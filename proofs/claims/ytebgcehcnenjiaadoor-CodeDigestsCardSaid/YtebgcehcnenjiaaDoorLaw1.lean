/-
  CodeTargets: its walk.
-/
import Derived.Test.YtebgcehcnenjiaaDoorAwake
import Derived.Test.YtebgcehcnenjiaaDoorPgopen
namespace Go.Proofs.YtebgcehcnenjiaaDoor
open Go.RowKit
set_option linter.unusedVariables false
set_option linter.unusedSimpArgs false
section
variable {W : World} {H : Type} {enc : TypeId × Value → H}
theorem opened24 {base : Nat} {v : Value} {d : DataW H} {p : List MemPlace}
    (hok : Value.okWide Tryd.prog W .any base 24 v) (h : DataW.Trod enc Tryd.prog W 0 (fun _ => true) true 24 v d p) :
    ∃ z : In, v = .agg (inC z) ∧ inOk z := by
  obtain ⟨cs, rfl, hl⟩ := WideShapes.okWide_struct Tryd.underlying24 hok
  obtain ⟨n, h⟩ := h
  obtain ⟨x, hx, ho⟩ := in_open (cs := cs.toList) (by rw [Array.length_toList, hl]; kernel_rfl) h
  refine ⟨x, ?_, ho⟩
  rw [show inC x = cs from Array.toList_inj.1 hx.symm]
end
set_option maxHeartbeats 4000000 in
set_option maxRecDepth 100000 in
theorem targets_walk (z : In) (W : World) (h : inOk z) (hN : NamesAt W) :
    Calls Tryd.prog 4 #[.agg (inC z)] W fun e w' => e = .returned (.bool true) ∧ Below W.heap.size W w' := by
  have hb0 : Below W.heap.size W (W.alloc (.cells (inC z) 24)) := (Below.refl _ _).alloc (Nat.le_refl _) _
  have hN1 := hN.later hb0 hN.lt
  have HAW := Lib.hid (awake_any _ hN1)
  have l0 := Lies.made W 24 (inC z)
  have HB := Lib.hid hb0
  have HL := Lib.hid l0
  have HK : Hid (jumpsB z.op = true → 256 < z.k → rightB z = false) := by
    intro hj hk
    cases hr : rightB z with
    | false => rfl
    | true =>
      exfalso
      unfold rightB at hr
      simp only [Bool.and_eq_true] at hr
      obtain ⟨_, _, _, _, _, h5⟩ := hr
      have h5 := of_decide_eq_true h5
      unfold jumpsB at hj
      simp only [Bool.and_eq_true, decide_eq_true_eq] at hj
      have : z.op = 15 ∨ z.op = 16 ∨ z.op = 17 := by omega
      rcases this with e | e | e <;> (rw [e] at h5; simp [gK] at h5; omega)
  clear hb0 hN1 l0 hN h
  have HJ : Hid (jumpsB z.op = ((z.op == 15) || ((z.op == 16) || (z.op == 17)))) := by
    show _ = _
    unfold jumpsB
    rw [Bool.eq_iff_iff]
    simp only [Bool.and_eq_true, Bool.or_eq_true, decide_eq_true_eq, beq_iff_eq]
    omega
  have HQ := Lib.hid (fun w => jumps_any z w)
  have HR := Lib.hid (fun w => right_any z w)
  have hk9 : (256 < z.k) = ((256 : Int) < (z.k : Int)) := by apply propext; omega
  obtain ⟨a4, ha4⟩ : ∃ a, decide (256 < z.k) = a := ⟨_, rfl⟩
  have ha5 : decide ((256 : Int) < (z.k : Int)) = a4 := by rw [← ha4]; congr 1; exact hk9.symm
  have HA4 := Lib.hid ha4
  clear hk9
  generalize jumpsB z.op = jb at *
  generalize rightB z = rb at *
  have c0 := (HL.out.cell 0).trans (show _ = some (Value.int .i64 z.op) from rfl)
  have c1 := (HL.out.cell 1).trans (show _ = some (Value.int .i64 z.a) from rfl)
  have c2 := (HL.out.cell 2).trans (show _ = some (Value.int .i64 z.b) from rfl)
  have c3 := (HL.out.cell 3).trans (show _ = some (Value.int .i64 z.c) from rfl)
  have c4 := (HL.out.cell 4).trans (show _ = some (Value.int .i64 z.d) from rfl)
  have c5 := (HL.out.cell 5).trans (show _ = some (Value.int .u64 (z.k : Int)) from rfl)
  have cl := HL.out.lt
  obtain ⟨a1, ha1⟩ : ∃ a, (z.op == 15) = a := ⟨_, rfl⟩
  obtain ⟨a2, ha2⟩ : ∃ a, (z.op == 16) = a := ⟨_, rfl⟩
  obtain ⟨a3, ha3⟩ : ∃ a, (z.op == 17) = a := ⟨_, rfl⟩
  rw [ha1, ha2, ha3] at HJ
  have hnb : jb = true → a4 = true → rb = false := by
    intro h1 h2
    exact HK.out h1 (of_decide_eq_true (HA4.out.trans h2))
  have HNB := Lib.hid hnb
  clear hnb HK
  cases a1 <;> cases a2 <;> cases a3
  all_goals
    have hj : Hid (jb = _) := HJ.out
    clear HJ
    have hjj := hj.out
    simp only [Bool.or_false, Bool.false_or, Bool.true_or, Bool.or_true] at hjj
    clear hj
    subst hjj
    cases a4
    all_goals
      go_enter Tryd.func4, Tryd.ntmps4
      go_wp2_with fail
      generalize W.alloc (.cells (inC z) 24) = w1 at *
      refine HAW.out.mono ?_
      rintro e w2 ⟨rfl, hbm⟩
      have HB2 := Lib.hid (HB.out.trans (hbm.mono HB.out.size))
      have HL2 := Lib.hid (HL.out.below hbm HL.out.lt)
      clear hbm c0 c1 c2 c3 c4 c5 cl
      have c0 := (HL2.out.cell 0).trans (show _ = some (Value.int .i64 z.op) from rfl)
      have c1 := (HL2.out.cell 1).trans (show _ = some (Value.int .i64 z.a) from rfl)
      have c2 := (HL2.out.cell 2).trans (show _ = some (Value.int .i64 z.b) from rfl)
      have c3 := (HL2.out.cell 3).trans (show _ = some (Value.int .i64 z.c) from rfl)
      have c4 := (HL2.out.cell 4).trans (show _ = some (Value.int .i64 z.d) from rfl)
      have c5 := (HL2.out.cell 5).trans (show _ = some (Value.int .u64 (z.k : Int)) from rfl)
      have cl := HL2.out.lt
      go_wp2_with fail
      refine (HQ.out _).mono ?_
      rintro e w3 ⟨rfl, hbm⟩
      have HB3 := Lib.hid (HB2.out.trans (hbm.mono HB2.out.size))
      have HL3 := Lib.hid (HL2.out.below hbm HL2.out.lt)
      clear hbm c0 c1 c2 c3 c4 c5 cl
      have c0 := (HL3.out.cell 0).trans (show _ = some (Value.int .i64 z.op) from rfl)
      have c1 := (HL3.out.cell 1).trans (show _ = some (Value.int .i64 z.a) from rfl)
      have c2 := (HL3.out.cell 2).trans (show _ = some (Value.int .i64 z.b) from rfl)
      have c3 := (HL3.out.cell 3).trans (show _ = some (Value.int .i64 z.c) from rfl)
      have c4 := (HL3.out.cell 4).trans (show _ = some (Value.int .i64 z.d) from rfl)
      have c5 := (HL3.out.cell 5).trans (show _ = some (Value.int .u64 (z.k : Int)) from rfl)
      have cl := HL3.out.lt
      first
        | (go_wp2
           go_ret
           exact ⟨rfl, HB3.out⟩)
        | (go_wp2_with fail
           refine (HR.out _).mono ?_
           rintro e w4 ⟨rfl, hbm⟩
           have HB4 := Lib.hid (HB3.out.trans (hbm.mono HB3.out.size))
           have hrb := HNB.out (by simp) (by simp)
           subst hrb
           go_wp2
           go_ret
           exact ⟨rfl, HB4.out⟩)
end Go.Proofs.YtebgcehcnenjiaaDoor
