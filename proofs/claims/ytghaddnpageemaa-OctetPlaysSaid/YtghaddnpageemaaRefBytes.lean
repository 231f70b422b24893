import Derived.Test.YtghaddnpageemaaWriter
import Derived.LoopN
namespace Go.Proofs.Ytghaddnpageemaa
open Go.RowKit
set_option linter.unusedVariables false
set_option maxHeartbeats 1000000 in
theorem refBytes (n : Nat) (w : World) (hn : n < 4294967296) : Calls Try.prog 14 #[.int .u32 n] w fun e w' => e = .returned (.string (fourBytes n)) ∧ Kept noRow w w' := by
  have hcv := Lib.run_convert_whole (P := Try.prog) (w.alloc (.cells #[.int .u8 ((n : Int) % 256), .int .u8 ((n : Int) / 256 % 256), .int .u8 ((n : Int) / 256 / 256 % 256), .int .u8 ((n : Int) / 256 / 256 / 256 % 256)] 5)) 36 5 9 Try.underlying36 Try.underlying5 Try.underlying9 w.heap.size 0 (fourBytes n) (fun i hi => by
    rw [Nat.zero_add, (Lies.made w _ _).cell i]
    have h4 : i = 0 ∨ i = 1 ∨ i = 2 ∨ i = 3 := by have : i < 4 := hi; omega
    rcases h4 with rfl | rfl | rfl | rfl
    · show some _ = some (Value.int .u8 ((UInt8.ofNat n).toNat : Int)); rw [UInt8.toNat_ofNat']; exact congrArg some (v_int (by omega))
    · show some _ = some (Value.int .u8 ((UInt8.ofNat (n / 256)).toNat : Int)); rw [UInt8.toNat_ofNat']; exact congrArg some (v_int (by omega))
    · show some _ = some (Value.int .u8 ((UInt8.ofNat (n / 65536)).toNat : Int)); rw [UInt8.toNat_ofNat']; exact congrArg some (v_int (by omega))
    · show some _ = some (Value.int .u8 ((UInt8.ofNat (n / 16777216)).toNat : Int)); rw [UInt8.toNat_ofNat']; exact congrArg some (v_int (by omega))) 4
  rw [show (fourBytes n).size = 4 from rfl] at hcv
  go_enter Try.func14, Try.ntmps14
  go_wp2
  refine wp_loop_rounds 5 ?_
  rw [rounds_succ]
  go_wp2
  rw [rounds_succ]
  go_wp2
  rw [rounds_succ]
  go_wp2
  rw [rounds_succ]
  go_wp2
  rw [rounds_succ]
  go_wp2
  go_ret
  exact ⟨rfl, Kept.alloc _ _ _⟩
end Go.Proofs.Ytghaddnpageemaa
