import Derived.Test.YtbmclhnidemooaaMores
namespace Go.Proofs.Ytbmclhnidemooaa
open Go.RowKit
set_option linter.unusedVariables false
theorem at_byte (r : Nat) (b : UInt8) : (r ^^^ b.toNat) % 256 = b.toNat ^^^ (r % 256) := by
  have hb := b.toNat_lt
  have := Nat.xor_mod_two_pow (a := r) (b := b.toNat) (n := 8)
  rw [show (2 : Nat) ^ 8 = 256 from rfl] at this
  rw [this, Nat.mod_eq_of_lt hb, Nat.xor_comm]
set_option maxRecDepth 100000 in
theorem refBy (ts : List Nat) (s : ByteArray) (w : World) (ht : IsT ts) (hs : s.size ≤ maxLen) :
    Calls Try.prog 13 #[.agg (cellsU ts).toArray, .string s] w fun e w' => e = .returned (.int .u32 (moreT ts 0 s.data.toList)) ∧ Below w.heap.size w w' := by
  have hcells : ∀ i n, ts[i]? = some n → (w.alloc (.cells (cellsU ts).toArray 23)).cell? ⟨w.heap.size, i, none⟩ = some (.int .u32 ((n : Nat) : Int)) := fun i n h => by
    rw [(Lies.made w _ _).cell i]; simp [cellsU, h]
  have hbel : Below w.heap.size w (w.alloc (.cells (cellsU ts).toArray 23)) := (Below.refl _ _).alloc (Nat.le_refl _) _
  have HC := Lib.hid hcells
  clear hcells
  unfold maxLen at hs
  go_enter Try.func13, Try.ntmps13
  go_wp2_with fail
  generalize w.alloc (.cells (cellsU ts).toArray 23) = w1 at *

  go_loopw [5, 6] (fun r c wr => ∃ k : Nat, k ≤ s.size ∧ c = .int .i64 k ∧ r = .int .u32 (runT ts 4294967295 (s.data.toList.take k)) ∧ wr = w1)
    (fun _ c _ => s.size - (intOf c).toNat)
  case atStart => exact ⟨0, by omega, rfl, rfl, rfl⟩
  case round =>
    obtain ⟨k, hk, rfl, rfl, rfl⟩ := hrel
    have hrl := runT_lt ht (s.data.toList.take k) 4294967295 (by decide)
    by_cases hlt : k < s.size
    · have hki : (k : Int) < (s.size : Int) := by omega
      have HNX := Lib.hid (runT_next ts 4294967295 s k hlt)
      generalize runT ts 4294967295 (s.data.toList.take k) = r at *
      have hb := (s[k]'hlt).toNat_lt
      have hixl : (s[k]'hlt).toNat ^^^ (r % 256) < 256 := Nat.xor_lt_two_pow (n := 8) hb (by show _ < 256; omega)
      obtain ⟨q1, q2⟩ := getT ht ((s[k]'hlt).toNat ^^^ (r % 256)) hixl
      have hcl := HC.out _ _ q1
      have hx1 := fun w => refXor r (s[k]'hlt).toNat w hrl (by omega)
      have hx1l := xor_lt32 r (s[k]'hlt).toNat hrl (by omega)
      have hab := at_byte r (s[k]'hlt)
      have hx2 := fun w => refXor (r / 256) (ts.getD ((s[k]'hlt).toNat ^^^ (r % 256)) 0) w (by omega) q2
      rw [show (r / 256) ^^^ ts.getD ((s[k]'hlt).toNat ^^^ (r % 256)) 0 = stepT ts r (s[k]'hlt) from rfl] at hx2
      rw [show ((r / 256 : Nat) : Int) = (r : Int) / 256 by omega] at hx2
      have HX1 := Lib.hid hx1
      have HX2 := Lib.hid hx2
      have HAB := Lib.hid hab
      generalize ts.getD ((s[k]'hlt).toNat ^^^ (r % 256)) 0 = tv at *
      generalize (s[k]'hlt).toNat ^^^ (r % 256) = ix at *
      generalize r ^^^ (s[k]'hlt).toNat = X at *
      have hX3 : X ≤ 4294967295 := by omega
      have hixi : (ix : Int) < 256 := by omega
      have hmi : (X : Int) % 256 = (ix : Int) := by have := HAB.out; omega
      have hr3 : r ≤ 4294967295 := by omega
      have hb3 : ((s[k]'hlt).toNat : Int) ≤ 255 := by omega
      clear hx1 hx2 hab q1 q2 hx1l hrl hb
      go_wp2_with fail
      refine (HX1.out _).mono ?_
      rintro e w' ⟨rfl, rfl⟩
      go_wp2_with fail
      refine (HX2.out _).mono ?_
      rintro e w' ⟨rfl, rfl⟩
      go_wp2
      go_roundw
      case rel => exact ⟨k + 1, by omega, by go_num, by rw [HNX.out], trivial⟩
      case measure => simp [intOf]; omega
    · obtain rfl : k = s.size := by omega
      have hfull : s.data.toList.take s.size = s.data.toList := List.take_of_length_le (by simp)
      rw [hfull] at hrl ⊢
      have hmore : moreT ts 0 s.data.toList = runT ts 4294967295 s.data.toList ^^^ 4294967295 := by
        unfold moreT; rw [Nat.xor_comm, show 4294967295 ^^^ 0 = 4294967295 from rfl]
      have HMORE := Lib.hid hmore
      have hxr := refXor (runT ts 4294967295 s.data.toList) 4294967295 wr hrl (by decide)
      have HXR := Lib.hid hxr
      generalize runT ts 4294967295 s.data.toList = r at *
      have hr3 : r ≤ 4294967295 := by omega
      clear hfull hmore hxr hrl
      go_wp2_with fail
      refine HXR.out.mono ?_
      rintro e w' ⟨rfl, rfl⟩
      go_wp2
      go_ret
      exact ⟨ret_int (by rw [HMORE.out]), hbel⟩
end Go.Proofs.Ytbmclhnidemooaa
