/-
  check.Right, check.names.
-/
import Derived.Test.YteecfffgigaomaaChk2
namespace Go.Proofs.Yteecfffgigaomaa
open Go.RowKit
set_option linter.unusedVariables false
set_option linter.unusedSimpArgs false
section
variable (p : Pg) (A : Option Addr) (c : Nat) (B : Option Addr) (d : Nat) (w : World)
set_option maxHeartbeats 4000000 in
theorem ckRight (h : PgAt w A c B d p) (hok : pgOk p) : Calls Try.prog 14 #[.agg (pgC A c B d p)] w fun e w' => e = .returned (.bool (rightP p)) ∧ Below w.heap.size w w' := by
  have hb0 : Below w.heap.size w (w.alloc (.cells (pgC A c B d p) 25)) := (Below.refl _ _).alloc (Nat.le_refl _) _
  have HC := Lib.hid (check_any p A c B d _ (h.later hb0) hok)
  have HB0 := Lib.hid hb0
  have HE : Hid (rightP p = ((checkR p).2.2 == 0)) := rfl
  clear h hok hb0
  go_enter Try.func14, Try.ntmps14
  go_wp2_with fail
  generalize w.alloc (.cells (pgC A c B d p) 25) = w1 at *
  refine HC.out.mono ?_
  rintro e w2 ⟨rfl, hb2⟩
  have hb2 := HB0.out.trans (hb2.mono HB0.out.size)
  generalize (checkR p).1 = r1 at *
  generalize (checkR p).2.1 = r2 at *
  generalize (checkR p).2.2 = r3 at *
  clear HC
  go_wp2
  go_ret
  exact ⟨ret_bool (by rw [HE.out, Bool.eq_iff_iff, beq_iff_eq, beq_iff_eq]; omega), hb2⟩
def namesE (t : Int) : Nat := if rightP p = false then 1 else if t < 0 ∨ (p.ts.length : Int) ≤ t then 5 else 0
set_option maxHeartbeats 4000000 in
theorem ckNames (t : Int) (h : PgAt w A c B d p) (hok : pgOk p) (ht : i64 t) : Calls Try.prog 28 #[.agg (pgC A c B d p), .int .i64 t] w fun e w' => e = .returned (.int .i64 (namesE p t : Nat)) ∧ Below w.heap.size w w' := by
  obtain ⟨hd1, hd2⟩ := h.2.form
  have hb0 : Below w.heap.size w (w.alloc (.cells (pgC A c B d p) 25)) := (Below.refl _ _).alloc (Nat.le_refl _) _
  have l0 := Lies.made w 25 (pgC A c B d p)
  have HC := Lib.hid (ckRight p A c B d _ (h.later hb0) hok)
  have HB0 := Lib.hid hb0
  have HL0 := Lib.hid l0
  have HE : Hid (namesE p t = _) := show namesE p t = _ by unfold namesE; rfl
  clear h hok hb0 l0
  go_enter Try.func28, Try.ntmps28
  go_wp2_with fail
  generalize w.alloc (.cells (pgC A c B d p) 25) = w1 at *
  refine HC.out.mono ?_
  rintro e w2 ⟨rfl, hb2⟩
  have c1 := (HL0.out.below hb2 HL0.out.lt |>.cell 1).trans (show _ = some (Value.slice B p.ts.length d) from rfl)
  have HB2 := Lib.hid (HB0.out.trans (hb2.mono HB0.out.size))
  clear HC HB0 HL0 hb2
  by_cases hr : rightP p = false
  · have HE2 := Lib.hid (HE.out.trans (if_pos hr))
    rw [hr]
    clear HE hr
    go_wp2
    go_ret
    exact ⟨ret_int (by rw [HE2.out]; rfl), HB2.out⟩
  have HE2 := Lib.hid (HE.out.trans (if_neg hr))
  have hr : rightP p = true := by simpa using hr
  rw [hr]
  clear HE hr
  by_cases h1 : t < 0
  · have HE3 := Lib.hid (HE2.out.trans (if_pos (.inl h1)))
    have e1 : decide (t < 0) = true := by simpa using h1
    clear HE2
    go_wp2
    go_ret
    exact ⟨ret_int (by rw [HE3.out]; rfl), HB2.out⟩
  have e1 : decide (t < 0) = false := by simpa using h1
  by_cases h2 : (p.ts.length : Int) ≤ t
  · have HE3 := Lib.hid (HE2.out.trans (if_pos (.inr h2)))
    have e2 : decide ((p.ts.length : Int) ≤ t) = true := by simpa using h2
    clear HE2
    go_wp2
    go_ret
    exact ⟨ret_int (by rw [HE3.out]; rfl), HB2.out⟩
  have HE3 := Lib.hid (HE2.out.trans (if_neg (fun h => h.elim h1 h2)))
  have e2 : decide ((p.ts.length : Int) ≤ t) = false := by simpa using h2
  clear HE2
  go_wp2
  go_ret
  exact ⟨ret_int (by rw [HE3.out]; rfl), HB2.out⟩
end
end Go.Proofs.Yteecfffgigaomaa
