/-
  The slots' own calls, by contracts over any block that holds them.
-/
import Derived.Test.YtahojmioonpodaaRows
import Derived.Test.YtahojmioonpodaaSlm
import Derived.Test.YtahojmioonpodaaQuiet
import Derived.Laws.Bits64
import Derived.Laws.Bits64b
import Derived.RegionTactic
namespace Go.Proofs.Ytahojmioonpodaa
open Go.RowKit
set_option linter.unusedVariables false
set_option linter.unusedSimpArgs false
theorem slotsFree (t : Nat) (w : World) (ht : t ≤ 9223372036854775807) : Calls Try.prog 55 #[.int .u64 t] w fun e w' => e = .returned (.int .u64 (2 * t : Nat)) ∧ w = w' := by
  go_enter Try.func55, Try.ntmps55
  go_wp2
  go_ret
  exact ⟨by go_num, rfl⟩
theorem slotsHeld (t : Nat) (w : World) (ht : t ≤ 9223372036854775807) : Calls Try.prog 65 #[.int .u64 t] w fun e w' => e = .returned (.int .u64 (2 * t + 1 : Nat)) ∧ w = w' := by
  go_enter Try.func65, Try.ntmps65
  go_wp2
  go_ret
  exact ⟨by go_num, rfl⟩
theorem slotsBit (j : Nat) (w : World) (hj : j ≤ 8) : Calls Try.prog 67 #[.int .i64 j] w fun e w' => e = .returned (.int .i64 (2 ^ j)) ∧ w = w' := by
  have hp : (2 : Int) ^ j ≤ 256 := by
    rcases (show j = 0 ∨ j = 1 ∨ j = 2 ∨ j = 3 ∨ j = 4 ∨ j = 5 ∨ j = 6 ∨ j = 7 ∨ j = 8 by omega) with rfl | rfl | rfl | rfl | rfl | rfl | rfl | rfl | rfl <;> decide
  have hp0 : (0 : Int) < 2 ^ j := Int.pow_pos (by decide)
  go_enter Try.func67, Try.ntmps67
  go_wp2
  go_ret
  exact ⟨by go_num, rfl⟩
theorem slotsPlace (g o c t : Nat) (w : World) (h : w.cell? ⟨g, o, none⟩ = some (.int .i64 (c : Int))) (h1 : 1 ≤ c) (h2 : c ≤ 64) (ht : t ≤ 18446744073709551615) :
    Calls Try.prog 63 #[.pointer (some ⟨g, o, none⟩), .int .u64 t] w fun e w' => e = .returned (.int .u64 (t % c : Nat)) ∧ w = w' := by
  have hm : Int.tmod (t : Int) (c : Int) = ((t % c : Nat) : Int) := rfl
  have hml : t % c < c := Nat.mod_lt _ (by omega)
  have HM := Lib.hid hm
  clear hm
  go_enter Try.func63, Try.ntmps63
  go_wp2
  go_ret
  exact ⟨by go_num, rfl⟩
theorem slotsEveryone (g o r : Nat) (w : World) (h : w.cell? ⟨g, o + 1, none⟩ = some (.int .i64 (r : Int))) (h2 : r ≤ 8) :
    Calls Try.prog 66 #[.pointer (some ⟨g, o, none⟩)] w fun e w' => e = .returned (.int .i64 (everyN r)) ∧ w = w' := by
  have hb := slotsBit r w h2
  have he := everyN_pos h2
  unfold everyN at he ⊢
  have HB := Lib.hid hb
  clear hb
  go_enter Try.func66, Try.ntmps66
  go_wp2_with fail
  refine HB.out.mono ?_
  rintro e w' ⟨rfl, rfl⟩
  go_wp2
  go_ret
  exact ⟨by go_num, rfl⟩
end Go.Proofs.Ytahojmioonpodaa
