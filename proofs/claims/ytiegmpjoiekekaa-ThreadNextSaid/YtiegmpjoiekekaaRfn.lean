/-
  The document's own: which instructions may be (form, most, Right).
-/
import Derived.Test.YtiegmpjoiekekaaCode2
namespace Go.Proofs.Ytiegmpjoiekekaa
open Go.RowKit
set_option linter.unusedVariables false
set_option linter.unusedSimpArgs false
/-- Which letters an instruction has. -/
def formL (op : Int) : List UInt8 :=
  if op = 1 then [114, 48, 48, 48, 110] else if op = 2 ∨ op = 23 then [114, 114, 48, 48, 48] else if 3 ≤ op ∧ op ≤ 14 then [114, 114, 114, 48, 48] else
  if op = 15 then [48, 48, 48, 48, 112] else if op = 16 ∨ op = 17 then [114, 48, 48, 48, 112] else if op = 18 then [114, 114, 103, 109, 48] else if op = 19 then [114, 114, 103, 109, 100] else
  if op = 20 then [48, 48, 103, 48, 48] else if op = 21 ∨ op = 22 ∨ op = 24 then [114, 48, 48, 48, 48] else if op = 25 then [48, 48, 48, 48, 48] else []
def mostN (c : Nat) : Nat := if c = 114 ∨ c = 103 ∨ c = 100 then 7 else if c = 109 then 2 else if c = 112 then 256 else if c = 110 then 18446744073709551615 else 0
theorem form_no {op : Int} (h : opB op = false) : formL op = [] := by
  have := of_decide_eq_false h
  unfold formL
  repeat (rw [if_neg (by omega)])
theorem form_yes {op : Int} (h : opB op = true) : (formL op).length = 5 ∧ mostN ((formL op).getD 4 0).toNat = gK op ∧ ((mostN ((formL op).getD 0 0).toNat : Nat) : Int) = (gL op).1 ∧ ((mostN ((formL op).getD 1 0).toNat : Nat) : Int) = (gL op).2.1 ∧ ((mostN ((formL op).getD 2 0).toNat : Nat) : Int) = (gL op).2.2.1 ∧ ((mostN ((formL op).getD 3 0).toNat : Nat) : Int) = (gL op).2.2.2 := by
  rcases op_lit h with rfl | rfl | rfl | rfl | rfl | rfl | rfl | rfl | rfl | rfl | rfl | rfl | rfl | rfl | rfl | rfl | rfl | rfl | rfl | rfl | rfl | rfl | rfl | rfl | rfl <;> decide +kernel
set_option maxHeartbeats 8000000 in
theorem form_lit (op : Int) (w : World) (h : op = 1 ∨ op = 2 ∨ op = 3 ∨ op = 4 ∨ op = 5 ∨ op = 6 ∨ op = 7 ∨ op = 8 ∨ op = 9 ∨ op = 10 ∨ op = 11 ∨ op = 12 ∨ op = 13 ∨ op = 14 ∨ op = 15 ∨ op = 16 ∨ op = 17 ∨ op = 18 ∨ op = 19 ∨ op = 20 ∨ op = 21 ∨ op = 22 ∨ op = 23 ∨ op = 24 ∨ op = 25) :
    Calls Try.prog 46 #[.int .i64 op] w fun e w' => e = .returned (.string ⟨(formL op).toArray⟩) ∧ w = w' := by
  rcases h with rfl | rfl | rfl | rfl | rfl | rfl | rfl | rfl | rfl | rfl | rfl | rfl | rfl | rfl | rfl | rfl | rfl | rfl | rfl | rfl | rfl | rfl | rfl | rfl | rfl
  all_goals
    go_enter Try.func46, Try.ntmps46
    go_wp2
    go_ret
    exact ⟨rfl, rfl⟩
set_option maxHeartbeats 4000000 in
theorem form_none (op : Int) (w : World) (h : opB op = false) : Calls Try.prog 46 #[.int .i64 op] w fun e w' => e = .returned (.string ⟨#[]⟩) ∧ w = w' := by
  have h := of_decide_eq_false h
  by_cases h1 : op < 1
  · have a1 : (op == 1) = false := by rw [beq_eq_false_iff_ne]; omega
    have a2 : (op == 2) = false := by rw [beq_eq_false_iff_ne]; omega
    have a23 : (op == 23) = false := by rw [beq_eq_false_iff_ne]; omega
    have a3 : decide (3 ≤ op) = false := by simp; omega
    have a15 : (op == 15) = false := by rw [beq_eq_false_iff_ne]; omega
    have a16 : (op == 16) = false := by rw [beq_eq_false_iff_ne]; omega
    have a17 : (op == 17) = false := by rw [beq_eq_false_iff_ne]; omega
    have a18 : (op == 18) = false := by rw [beq_eq_false_iff_ne]; omega
    have a19 : (op == 19) = false := by rw [beq_eq_false_iff_ne]; omega
    have a20 : (op == 20) = false := by rw [beq_eq_false_iff_ne]; omega
    have a21 : (op == 21) = false := by rw [beq_eq_false_iff_ne]; omega
    have a22 : (op == 22) = false := by rw [beq_eq_false_iff_ne]; omega
    have a24 : (op == 24) = false := by rw [beq_eq_false_iff_ne]; omega
    have a25 : (op == 25) = false := by rw [beq_eq_false_iff_ne]; omega
    clear h
    go_enter Try.func46, Try.ntmps46
    go_wp2
    go_ret
    exact ⟨rfl, rfl⟩
  · have h2 : 25 < op := by omega
    have a1 : (op == 1) = false := by rw [beq_eq_false_iff_ne]; omega
    have a2 : (op == 2) = false := by rw [beq_eq_false_iff_ne]; omega
    have a23 : (op == 23) = false := by rw [beq_eq_false_iff_ne]; omega
    have a3 : decide (3 ≤ op) = true := by simp; omega
    have a14 : decide (op ≤ 14) = false := by simp; omega
    have a15 : (op == 15) = false := by rw [beq_eq_false_iff_ne]; omega
    have a16 : (op == 16) = false := by rw [beq_eq_false_iff_ne]; omega
    have a17 : (op == 17) = false := by rw [beq_eq_false_iff_ne]; omega
    have a18 : (op == 18) = false := by rw [beq_eq_false_iff_ne]; omega
    have a19 : (op == 19) = false := by rw [beq_eq_false_iff_ne]; omega
    have a20 : (op == 20) = false := by rw [beq_eq_false_iff_ne]; omega
    have a21 : (op == 21) = false := by rw [beq_eq_false_iff_ne]; omega
    have a22 : (op == 22) = false := by rw [beq_eq_false_iff_ne]; omega
    have a24 : (op == 24) = false := by rw [beq_eq_false_iff_ne]; omega
    have a25 : (op == 25) = false := by rw [beq_eq_false_iff_ne]; omega
    clear h h1
    go_enter Try.func46, Try.ntmps46
    go_wp2
    go_ret
    exact ⟨rfl, rfl⟩
set_option maxHeartbeats 4000000 in
theorem most_any (c : Nat) (w : World) : Calls Try.prog 47 #[.int .u8 (c : Int)] w fun e w' => e = .returned (.int .u64 (mostN c : Nat)) ∧ w = w' := by
  have hm : mostN c = if c = 114 ∨ c = 103 ∨ c = 100 then 7 else if c = 109 then 2 else if c = 112 then 256 else if c = 110 then 18446744073709551615 else 0 := rfl
  have HM := Lib.hid hm
  clear hm
  obtain ⟨b1, h1⟩ : ∃ b, ((c : Int) == 114) = b := ⟨_, rfl⟩
  obtain ⟨b2, h2⟩ : ∃ b, ((c : Int) == 103) = b := ⟨_, rfl⟩
  obtain ⟨b3, h3⟩ : ∃ b, ((c : Int) == 100) = b := ⟨_, rfl⟩
  obtain ⟨b4, h4⟩ : ∃ b, ((c : Int) == 109) = b := ⟨_, rfl⟩
  obtain ⟨b5, h5⟩ : ∃ b, ((c : Int) == 112) = b := ⟨_, rfl⟩
  obtain ⟨b6, h6⟩ : ∃ b, ((c : Int) == 110) = b := ⟨_, rfl⟩
  cases b1
  case true =>
    have : c = 114 := by have := beq_iff_eq.1 h1; omega
    subst this
    clear h1 h2 h3 h4 h5 h6
    go_enter Try.func47, Try.ntmps47
    go_wp2
    go_ret
    exact ⟨rfl, rfl⟩
  cases b2
  case true =>
    have : c = 103 := by have := beq_iff_eq.1 h2; omega
    subst this
    clear h1 h2 h3 h4 h5 h6
    go_enter Try.func47, Try.ntmps47
    go_wp2
    go_ret
    exact ⟨rfl, rfl⟩
  cases b3
  case true =>
    have : c = 100 := by have := beq_iff_eq.1 h3; omega
    subst this
    clear h1 h2 h3 h4 h5 h6
    go_enter Try.func47, Try.ntmps47
    go_wp2
    go_ret
    exact ⟨rfl, rfl⟩
  cases b4
  case true =>
    have : c = 109 := by have := beq_iff_eq.1 h4; omega
    subst this
    clear h1 h2 h3 h4 h5 h6
    go_enter Try.func47, Try.ntmps47
    go_wp2
    go_ret
    exact ⟨rfl, rfl⟩
  cases b5
  case true =>
    have : c = 112 := by have := beq_iff_eq.1 h5; omega
    subst this
    clear h1 h2 h3 h4 h5 h6
    go_enter Try.func47, Try.ntmps47
    go_wp2
    go_ret
    exact ⟨rfl, rfl⟩
  cases b6
  case true =>
    have : c = 110 := by have := beq_iff_eq.1 h6; omega
    subst this
    clear h1 h2 h3 h4 h5 h6
    go_enter Try.func47, Try.ntmps47
    go_wp2
    go_ret
    exact ⟨rfl, rfl⟩
  have HZ : Hid (mostN c = 0) := by
    rw [beq_eq_false_iff_ne] at h1 h2 h3 h4 h5 h6
    show mostN c = 0
    rw [HM.out, if_neg (by omega), if_neg (by omega), if_neg (by omega), if_neg (by omega)]
  go_enter Try.func47, Try.ntmps47
  go_wp2
  go_ret
  exact ⟨by rw [HZ.out]; rfl, rfl⟩
end Go.Proofs.Ytiegmpjoiekekaa
