import Derived.Test.YtebgcehcnenjiaaDoorCrctab
namespace Go.Proofs.YtebgcehcnenjiaaDoor
open Go.RowKit
set_option linter.unusedVariables false
set_option linter.unusedSimpArgs false
def stepT (ts : List Nat) (r : Nat) (b : UInt8) : Nat := (r / 256) ^^^ ts.getD (b.toNat ^^^ (r % 256)) 0
def runT (ts : List Nat) (r : Nat) (l : List UInt8) : Nat := l.foldl (stepT ts) r
def moreT (ts : List Nat) (m : Nat) (l : List UInt8) : Nat := 4294967295 ^^^ runT ts (4294967295 ^^^ m) l
def cellsU (ts : List Nat) : List Value := ts.map fun (n : Nat) => .int .u32 (n : Int)
/-- A table. -/
def IsT (ts : List Nat) : Prop := ts.length = 256 ∧ ∀ n ∈ ts, n < 4294967296
theorem xor_lt32 (a b : Nat) (ha : a < 4294967296) (hb : b < 4294967296) : a ^^^ b < 4294967296 := Nat.xor_lt_two_pow (n := 32) ha hb
theorem xor_u8 (a b : Nat) (ha : a < 256) (hb : b < 256) : bits .xor .u8 a b = ((a ^^^ b : Nat) : Int) := by
  show IntKind.u8.wrap ((BitVec.ofInt 8 a ^^^ BitVec.ofInt 8 b).toNat : Int) = _
  rw [BitVec.ofInt_natCast, BitVec.ofInt_natCast, BitVec.toNat_xor, BitVec.toNat_ofNat, BitVec.toNat_ofNat, Nat.mod_eq_of_lt ha, Nat.mod_eq_of_lt hb]
  have := Nat.xor_lt_two_pow (n := 8) (x := a) (y := b) ha hb
  rw [IntKind.wrap_u8]
  omega
theorem inv_u32 (m : Nat) (hm : m < 4294967296) : bits .xor .u32 IntKind.u32.max (m : Int) = ((4294967295 ^^^ m : Nat) : Int) := by
  rw [show IntKind.u32.max = ((4294967295 : Nat) : Int) by decide]
  exact xor_u32 _ _ (by decide) hm
theorem getT {ts : List Nat} (h : IsT ts) (i : Nat) (hi : i < 256) : ts[i]? = some (ts.getD i 0) ∧ ts.getD i 0 < 4294967296 := by
  have hl : i < ts.length := by rw [h.1]; exact hi
  have e : ts.getD i 0 = ts[i] := by simp [List.getD_eq_getElem?_getD, hl]
  rw [e]
  exact ⟨List.getElem?_eq_getElem hl, h.2 _ (List.getElem_mem hl)⟩
theorem stepT_lt {ts : List Nat} (h : IsT ts) (r : Nat) (b : UInt8) (hr : r < 4294967296) : stepT ts r b < 4294967296 := by
  refine xor_lt32 _ _ (by omega) (getT h _ ?_).2
  exact Nat.xor_lt_two_pow (n := 8) b.toNat_lt (by show _ < 256; omega)
theorem runT_lt {ts : List Nat} (h : IsT ts) (l : List UInt8) : ∀ r, r < 4294967296 → runT ts r l < 4294967296 := by
  induction l with
  | nil => intro r hr; exact hr
  | cons b l ih => intro r hr; exact ih _ (stepT_lt h r b hr)
theorem runT_next (ts : List Nat) (r : Nat) (s : ByteArray) (k : Nat) (hk : k < s.size) : runT ts r (s.data.toList.take (k + 1)) = stepT ts (runT ts r (s.data.toList.take k)) (s[k]'hk) := by
  have : s.data.toList[k]? = some (s[k]'hk) := by
    rw [Array.getElem?_toList]; exact Array.getElem?_eq_getElem hk
  rw [List.take_add_one, this]
  simp [runT]
set_option maxRecDepth 100000 in
theorem crcMore (ts : List Nat) (s : ByteArray) (m : Nat) (w : World) (ht : IsT ts) (hm : m < 4294967296) (hs : s.size ≤ maxLen) :
    Calls Tryd.prog 48 #[.agg (cellsU ts).toArray, .int .u32 m, .string s] w fun e w' => e = .returned (.int .u32 (moreT ts m s.data.toList)) ∧ Below w.heap.size w w' := by
  obtain ⟨zs, hzs⟩ : ∃ zs : Array Value, zs = Array.replicate 256 (.int .u32 0) := ⟨_, rfl⟩
  have hz := zero23
  rw [← hzs] at hz
  have hcells : ∀ i n, ts[i]? = some n → (w.alloc (.cells (cellsU ts).toArray 72)).cell? ⟨w.heap.size, i, none⟩ = some (.int .u32 ((n : Nat) : Int)) := fun i n h => by
    rw [(Lies.made w _ _).cell i]; simp [cellsU, h]
  have hbel : Below w.heap.size w (w.alloc (.cells (cellsU ts).toArray 72)) := (Below.refl _ _).alloc (Nat.le_refl _) _
  have hinv := inv_u32 m hm
  have hm3 : m ≤ 4294967295 := by omega
  have HC := Lib.hid hcells
  have HI := Lib.hid hinv
  have HM := Lib.hid hm
  clear hcells hzs hinv hm
  unfold maxLen at hs
  go_enter Tryd.func48, Tryd.ntmps48
  go_wp2_with fail
  rw [HI.out]
  generalize w.alloc (.cells (cellsU ts).toArray 72) = w1 at *
  go_loopw [7, 13] (fun r c wr => ∃ k : Nat, k ≤ s.size ∧ c = .int .i64 k ∧ r = .int .u32 (runT ts (4294967295 ^^^ m) (s.data.toList.take k)) ∧ wr = w1)
    (fun _ c _ => s.size - (intOf c).toNat)
  case atStart => exact ⟨0, by omega, rfl, rfl, rfl⟩
  case round =>
    obtain ⟨k, hk, rfl, rfl, rfl⟩ := hrel
    have hrl := runT_lt ht (s.data.toList.take k) (4294967295 ^^^ m) (xor_lt32 _ _ (by decide) HM.out)
    by_cases hlt : k < s.size
    · have hki : (k : Int) < (s.size : Int) := by omega
      have hnx := runT_next ts (4294967295 ^^^ m) s k hlt
      have HNX := Lib.hid hnx
      clear hnx
      generalize runT ts (4294967295 ^^^ m) (s.data.toList.take k) = r at *
      have hb := (s[k]'hlt).toNat_lt
      obtain ⟨q1, q2⟩ := getT ht ((s[k]'hlt).toNat ^^^ (r % 256)) (Nat.xor_lt_two_pow (n := 8) hb (by show _ < 256; omega))
      have hx8 : bits .xor .u8 ((s[k]'hlt).toNat : Int) ((r : Int) % 256) = (((s[k]'hlt).toNat ^^^ (r % 256) : Nat) : Int) := by
        have := xor_u8 (s[k]'hlt).toNat (r % 256) hb (by omega)
        rwa [show ((r % 256 : Nat) : Int) = (r : Int) % 256 by omega] at this
      have hcl := HC.out _ _ q1
      have hx32 : bits .xor .u32 ((r : Int) / 256) ((ts.getD ((s[k]'hlt).toNat ^^^ (r % 256)) 0 : Nat) : Int) = (stepT ts r (s[k]'hlt) : Nat) := by
        have := xor_u32 (r / 256) _ (by omega) q2
        rwa [show ((r / 256 : Nat) : Int) = (r : Int) / 256 by omega] at this
      have hixl : (s[k]'hlt).toNat ^^^ (r % 256) < 256 := Nat.xor_lt_two_pow (n := 8) hb (by show _ < 256; omega)
      have HX32 := Lib.hid hx32
      clear hx32 q1 q2
      have hr3 : r ≤ 4294967295 := by omega
      generalize ts.getD ((s[k]'hlt).toNat ^^^ (r % 256)) 0 = tv at *
      generalize (s[k]'hlt).toNat ^^^ (r % 256) = ix at *
      have hixi : (ix : Int) < 256 := by omega
      clear hrl hb hm3
      go_wp2_with fail
      go_roundw
      case rel => exact ⟨k + 1, by omega, by go_num, by rw [HNX.out, ← HX32.out], trivial⟩
      case measure => simp [intOf]; omega
    · obtain rfl : k = s.size := by omega
      have hfull : s.data.toList.take s.size = s.data.toList := List.take_of_length_le (by simp)
      rw [hfull] at hrl ⊢
      have hinv := inv_u32 _ hrl
      have hmore : moreT ts m s.data.toList = 4294967295 ^^^ runT ts (4294967295 ^^^ m) s.data.toList := rfl
      have HMORE := Lib.hid hmore
      generalize runT ts (4294967295 ^^^ m) s.data.toList = r at *
      have hr3 : r ≤ 4294967295 := by omega
      have HINV := Lib.hid hinv
      clear hfull hinv hmore hrl
      go_wp2
      go_ret
      exact ⟨ret_int (by rw [HMORE.out]; exact HINV.out), hbel⟩
set_option maxRecDepth 100000 in
theorem crcSum (ts : List Nat) (s : ByteArray) (w : World) (ht : IsT ts) (hs : s.size ≤ maxLen) :
    Calls Tryd.prog 38 #[.agg (cellsU ts).toArray, .string s] w fun e w' => e = .returned (.int .u32 (moreT ts 0 s.data.toList)) ∧ Below w.heap.size w w' := by
  have hM : ∀ w : World, Calls Tryd.prog 48 #[.agg (cellsU ts).toArray, .int .u32 0, .string s] w fun e w' => e = .returned (.int .u32 (moreT ts 0 s.data.toList)) ∧ Below w.heap.size w w' := fun w => crcMore ts s 0 w ht (by decide) hs
  generalize moreT ts 0 s.data.toList = R at *
  have hcs : (cellsU ts).length = 256 := by simp [cellsU, ht.1]
  generalize cellsU ts = L at *
  have hi1 : (Tryd.prog.info? 72).map (·.size) = some L.length := by rw [hcs]; exact info23
  have hr : (w.alloc (.cells L.toArray 72)).rangeAt w.heap.size 0 L := fun j v hv => by
    rw [Nat.zero_add, (Lies.made w _ _).cell j]; simpa using hv
  have hbel : Below w.heap.size w (w.alloc (.cells L.toArray 72)) := (Below.refl _ _).alloc (Nat.le_refl _) _
  have HM := Lib.hid hM
  have HI1 := Lib.hid hi1
  have HR := Lib.hid hr
  clear hM hi1 hr hcs
  go_enter Tryd.func38, Tryd.ntmps38
  go_wp2_with (refine wpList_load_mid rfl 72 _ rfl w.heap.size 0 rfl L _ HR.out under23 rfl HI1.out ?_)
  refine (HM.out _).mono ?_
  rintro e w2 ⟨rfl, hb2⟩
  go_wp2
  go_ret
  exact ⟨rfl, then_ hbel hb2⟩
end Go.Proofs.YtebgcehcnenjiaaDoor
