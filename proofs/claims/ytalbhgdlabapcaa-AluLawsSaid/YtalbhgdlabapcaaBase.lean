import Derived.Test.YtalbhgdlabapcaaRows
import Derived.Test.YtalbhgdlabapcaaKit
import Derived.WalkKit
import Derived.Outline
import Derived.OpenShut
import Derived.BigQuiet
import Derived.Deep.RegionWith
namespace Go.Proofs.Ytalbhgdlabapcaa
open Go.RowKit

theorem Try.info3 : (Try.prog.info? 3).map (fun i => (i.zero, i.size, i.bytes)) = some (some (.int .i64 0), 1, 8) := by kernel_rfl

/-- The list of all operations up to k. -/
def opsTo (k : Nat) : List Value := (List.range k).map (fun (j : Nat) => Value.int .i64 ((j : Int) + 3))
theorem opsTo_succ (k : Nat) : opsTo (k + 1) = opsTo k ++ [.int .i64 ((k : Int) + 3)] := by simp [opsTo, List.range_succ]

set_option maxHeartbeats 400000 in
theorem ops_any (w : World) : Calls Try.prog 10 #[] w fun e w' => ∃ v, e = .returned v ∧ w'.ownsRow w.heap.size 3 1 v 12 (opsTo 12) ∧ Below w.heap.size w w' := by
  go_enter Try.func10, Try.ntmps10
  go_wp2
  go_loopw [1, 2] (fun v i wr => ∃ k : Nat, k ≤ 12 ∧ i = .int .i64 ((k : Int) + 3) ∧ wr.ownsRow w.heap.size 3 1 v k (opsTo k) ∧ Below w.heap.size w wr)
    (fun _ i _ => 15 - (intOf i).toNat)
  case atStart => exact ⟨0, by omega, rfl, World.ownsRow_nil _ _ _ _, Below.refl _ _⟩
  case round =>
    obtain ⟨k, hk, rfl, hown, hbel⟩ := hrel
    have hsz := hbel.size
    by_cases hlt : k < 12
    · have hle : decide ((k : Int) + 3 ≤ 14) = true := by simp; omega
      have hsu := Lib.hid (opsTo_succ k)
      go_wp2_with (first
        | (at_builtin; refine append_one wr _ rfl (.tmp 7) (.tmp 9) 25 rfl w.heap.size 3 _ _ Try.underlying25 Try.info3 rfl rfl _ _ _ rfl hown rfl (by unfold maxLen; omega) (by omega) hsz ?_; intro v' w1 hown1 hb1 _))
      go_roundw
      case rel => exact ⟨k + 1, by omega, by go_num, by rw [hsu.out]; exact hown1, hbel.trans hb1⟩
      case measure => simp [intOf]; omega
    · have hle : decide ((k : Int) + 3 ≤ 14) = false := by simp; omega
      obtain rfl : k = 12 := by omega
      go_wp2
      go_ret
      exact ⟨_, rfl, hown, hbel⟩

/-- What an operation makes of two numbers, and whether there is one. -/
def doV (op a b : Int) : Int :=
  if op = 3 then IntKind.u64.wrap (a + b) else
  if op = 4 then IntKind.u64.wrap (a - b) else
  if op = 5 then IntKind.u64.wrap (a * b) else
  if op = 6 then (if b = 0 then 0 else a / b) else
  if op = 7 then (if b = 0 then 0 else a % b) else
  if op = 8 then bits BinOp.and IntKind.u64 a b else
  if op = 9 then bits BinOp.or IntKind.u64 a b else
  if op = 10 then bits BinOp.xor IntKind.u64 a b else
  if op = 11 then IntKind.u64.wrap (a * 2 ^ (b % 64).toNat) else
  if op = 12 then a / 2 ^ (b % 64).toNat else
  if op = 13 then (if a < b then 1 else 0) else
  if op = 14 then (if a = b then 1 else 0) else 0
def isOp (op : Int) : Bool := decide (3 ≤ op ∧ op ≤ 14)

theorem ret_pair {a b : Int} {p q : Bool} (h : a = b) (k : p = q) : Ending.returned (.tuple #[.int .u64 a, .bool p]) = .returned (.tuple #[.int .u64 b, .bool q]) := by rw [h, k]

/-- Numbers of 64 bits. -/
def U64 (a : Int) : Prop := 0 ≤ a ∧ a ≤ 18446744073709551615
theorem u64_of (a : Int) (h : (Lit.int .u64 a).wf = true) : U64 a := Go.bounds_u64 h

set_option maxHeartbeats 1000000 in
theorem do_plain (op a b : Int) (w : World) (ho : op = 3 ∨ op = 4 ∨ op = 5 ∨ op = 8 ∨ op = 9 ∨ op = 10 ∨ op = 11 ∨ op = 12) (ha : U64 a) (hb : U64 b) :
    Calls Try.prog 8 #[.int .i64 op, .int .u64 a, .int .u64 b] w fun e w' => e = .returned (.tuple #[.int .u64 (doV op a b), .bool (isOp op)]) ∧ w = w' := by
  obtain ⟨h1, h2⟩ := ha
  obtain ⟨h3, h4⟩ := hb
  rcases ho with rfl | rfl | rfl | rfl | rfl | rfl | rfl | rfl
  all_goals
    go_enter Try.func8, Try.ntmps8
    go_wp2
    go_ret2
    exact ⟨ret_pair rfl rfl, rfl⟩
set_option maxHeartbeats 1000000 in
theorem do_div (op a b : Int) (w : World) (ho : op = 6 ∨ op = 7) (ha : U64 a) (hb : U64 b) :
    Calls Try.prog 8 #[.int .i64 op, .int .u64 a, .int .u64 b] w fun e w' => e = .returned (.tuple #[.int .u64 (doV op a b), .bool (isOp op)]) ∧ w = w' := by
  obtain ⟨h1, h2⟩ := ha
  obtain ⟨h3, h4⟩ := hb
  by_cases hz : b = 0
  · subst hz
    rcases ho with rfl | rfl
    all_goals
      go_enter Try.func8, Try.ntmps8
      go_wp2
      go_ret2
      exact ⟨ret_pair rfl rfl, rfl⟩
  · have hz1 : (b == 0) = false := by simpa using hz
    rcases ho with rfl | rfl
    all_goals
      go_enter Try.func8, Try.ntmps8
      go_wp2
      go_ret2
      exact ⟨ret_pair (by simp [doV, hz]) rfl, rfl⟩
set_option maxHeartbeats 1000000 in
theorem do_less (op a b : Int) (w : World) (ho : op = 13 ∨ op = 14) (ha : U64 a) (hb : U64 b) :
    Calls Try.prog 8 #[.int .i64 op, .int .u64 a, .int .u64 b] w fun e w' => e = .returned (.tuple #[.int .u64 (doV op a b), .bool (isOp op)]) ∧ w = w' := by
  obtain ⟨h1, h2⟩ := ha
  obtain ⟨h3, h4⟩ := hb
  rcases ho with rfl | rfl
  · by_cases hz : a < b
    all_goals
      go_enter Try.func8, Try.ntmps8
      go_wp2
      go_ret2
      exact ⟨ret_pair (by simp [doV, hz]) rfl, rfl⟩
  · by_cases hz : a = b
    · subst hz
      go_enter Try.func8, Try.ntmps8
      go_wp2
      go_ret2
      exact ⟨ret_pair (by simp [doV]) rfl, rfl⟩
    · have hz1 : (a == b) = false := by simpa using hz
      go_enter Try.func8, Try.ntmps8
      go_wp2
      go_ret2
      exact ⟨ret_pair (by simp [doV, hz]) rfl, rfl⟩
set_option maxHeartbeats 1000000 in
theorem do_none (op a b : Int) (w : World) (ho : op < 3 ∨ 14 < op) :
    Calls Try.prog 8 #[.int .i64 op, .int .u64 a, .int .u64 b] w fun e w' => e = .returned (.tuple #[.int .u64 (doV op a b), .bool (isOp op)]) ∧ w = w' := by
  have k3 : (op == 3) = false := by simp; omega
  have k4 : (op == 4) = false := by simp; omega
  have k5 : (op == 5) = false := by simp; omega
  have k6 : (op == 6) = false := by simp; omega
  have k7 : (op == 7) = false := by simp; omega
  have k8 : (op == 8) = false := by simp; omega
  have k9 : (op == 9) = false := by simp; omega
  have k10 : (op == 10) = false := by simp; omega
  have k11 : (op == 11) = false := by simp; omega
  have k12 : (op == 12) = false := by simp; omega
  have k13 : (op == 13) = false := by simp; omega
  have k14 : (op == 14) = false := by simp; omega
  have hv : doV op a b = 0 := by
    simp at k3 k4 k5 k6 k7 k8 k9 k10 k11 k12 k13 k14
    simp [doV, *]
  have hi : isOp op = false := by simp [isOp]; omega
  have HV := Lib.hid hv
  have HI := Lib.hid hi
  clear hv hi
  go_enter Try.func8, Try.ntmps8
  go_wp2
  go_ret2
  exact ⟨ret_pair HV.out.symm HI.out.symm, rfl⟩
theorem do_any (op a b : Int) (w : World) (ha : U64 a) (hb : U64 b) :
    Calls Try.prog 8 #[.int .i64 op, .int .u64 a, .int .u64 b] w fun e w' => e = .returned (.tuple #[.int .u64 (doV op a b), .bool (isOp op)]) ∧ w = w' := by
  by_cases h : op < 3 ∨ 14 < op
  · exact do_none op a b w h
  · by_cases h1 : op = 6 ∨ op = 7
    · exact do_div op a b w h1 ha hb
    · by_cases h2 : op = 13 ∨ op = 14
      · exact do_less op a b w h2 ha hb
      · exact do_plain op a b w (by omega) ha hb
set_option maxHeartbeats 400000 in
theorem lawdo_any (op a b : Int) (w : World) (ha : U64 a) (hb : U64 b) :
    Calls Try.prog 13 #[.int .i64 op, .int .u64 a, .int .u64 b] w fun e w' => e = .returned (.int .u64 (doV op a b)) ∧ w = w' := by
  go_enter Try.func13, Try.ntmps13
  go_wp2_with fail
  refine (do_any _ _ _ _ ha hb).mono ?_
  rintro e w' ⟨rfl, rfl⟩
  go_wp2
  go_ret
  exact ⟨rfl, rfl⟩
theorem u64_lit (n : Int) (h : 0 ≤ n ∧ n ≤ 18446744073709551615) : U64 n := h
set_option maxHeartbeats 400000 in
theorem awake_any (w : World) : Calls Try.prog 11 #[] w fun e w' => e = .returned (.bool true) ∧ Below w.heap.size w w' := by
  go_enter Try.func11, Try.ntmps11
  go_wp2_with fail
  refine (do_any _ _ _ _ (u64_lit _ (by omega)) (u64_lit _ (by omega))).mono ?_
  rintro e w' ⟨rfl, rfl⟩
  go_wp2_with fail
  refine (ops_any _).mono ?_
  rintro e w1 ⟨v, rfl, hown, hbel⟩
  obtain ⟨g, cap, rfl, hg, hgs, hn, hm, hc⟩ := ownsRow_open hown (by omega)
  have c0 : w1.cell? ⟨g, 0, none⟩ = some (.int .i64 3) := hc 0 _ rfl
  have c11 : w1.cell? ⟨g, 11, none⟩ = some (.int .i64 14) := hc 11 _ rfl
  have e1 : (doV 4 1 2 == 18446744073709551615) = true := by decide
  have e2 : (doV 11 1 65 == 2) = true := by decide
  have e3 : (doV 6 7 0 == 0) = true := by decide
  have e4 : (doV 7 7 4 == 3) = true := by decide
  have e5 : (doV 13 1 2 == 1) = true := by decide
  have e6 : isOp 2 = false := by decide
  clear hc hown
  go_wp2_with (first
    | (go_at_call 13; refine (lawdo_any _ _ _ _ (u64_lit _ (by omega)) (u64_lit _ (by omega))).mono ?_; rintro e w' ⟨rfl, rfl⟩)
    | go_in)
  go_ret
  exact ⟨rfl, hbel⟩
end Go.Proofs.Ytalbhgdlabapcaa
