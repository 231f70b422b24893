/-
  Numbers in digits of ten (layers 10 and 15): event.growNumber.
-/
import Derived.Test.YtndcnflboikodaaDoorBytes
import Derived.Test.YtndcnflboikodaaDoorOwn
import Derived.Deep.DeepCutAuto
namespace Go.Proofs.YtndcnflboikodaaDoor
open Go.RowKit
set_option linter.unusedVariables false
set_option linter.unusedSimpArgs false
theorem own_sliceD {w : World} {B n : Nat} {e : TypeId} {sz : Nat} {v : Value} {xs : List Value} (h : w.ownsRow B e sz v n xs) : ∃ A c, v = .slice A n c := by
  rcases owns_row h with ⟨rfl, h0, _⟩ | ⟨r, cap, cur, rfl, _⟩
  · subst h0; exact ⟨none, 0, rfl⟩
  · exact ⟨_, _, rfl⟩
def decF : Nat → Nat → List UInt8
  | 0, n => [UInt8.ofNat (48 + n % 10)]
  | f + 1, n => if n < 10 then [UInt8.ofNat (48 + n)] else decF f (n / 10) ++ [UInt8.ofNat (48 + n % 10)]
def decE (n : Nat) : List UInt8 := decF 19 n
theorem decF_length : ∀ f n, 1 ≤ (decF f n).length ∧ (decF f n).length ≤ f + 1
  | 0, n => by simp [decF]
  | f + 1, n => by
    have := decF_length f (n / 10)
    unfold decF
    split
    · simp
    · rw [List.length_append]; simp; omega
theorem digit_val (n : Nat) : ((UInt8.ofNat (48 + n % 10)).toNat : Int) = 48 + (n : Int) % 10 := by
  rw [UInt8.toNat_ofNat', Nat.mod_eq_of_lt (by omega)]; omega
/-- Blocks that hold no bytes are left as they are. -/
def KeepT (w w' : World) : Prop := ∀ g t cs, 5 ≠ t → Lies w g t cs → Lies w' g t cs
theorem KeepT.refl (w : World) : KeepT w w := fun _ _ _ _ h => h
theorem KeepT.trans {a b c : World} (h : KeepT a b) (k : KeepT b c) : KeepT a c := fun g t cs ht hl => k g t cs ht (h g t cs ht hl)
theorem KeepT.below {w w' : World} (h : Below w.heap.size w w') : KeepT w w' := fun _ _ _ _ hl => hl.below h hl.lt
theorem KeepT.grown {w w' : World} {B n : Nat} {v : Value} {xs : List Value} (ho : w.ownsRow B 5 1 v n xs) (hg : w.grownBy w' v.ownBlock) : KeepT w w' :=
  fun g t cs ht hl => hl.kept (Kept.of_grown hg) (fun hs => own_ne ho hl ht hs)
theorem KeepT.alloc_grown {w w' : World} {B n : Nat} {v : Value} {xs : List Value} {o : Obj} (ho : w.ownsRow B 5 1 v n xs) (hg : (w.alloc o).grownBy w' v.ownBlock) : KeepT w w' :=
  (KeepT.below ((Below.refl _ _).alloc (Nat.le_refl _) o)).trans (KeepT.grown (owned_below ho ((Below.refl _ _).alloc (Nat.le_refl _) o)) hg)
set_option maxHeartbeats 4000000 in
set_option maxRecDepth 100000 in
theorem growNumber_any (B : Nat) : ∀ (f n : Nat) (bs : List UInt8) (v : Value) (w : World), n < 10 ^ (f + 1) → f ≤ 19 → n < 18446744073709551616 → bs.length ≤ 140737488300000 → w.ownsRow B 5 1 v bs.length (cellsB bs) → B ≤ w.heap.size →
    Calls Tryd.prog 37 #[v, .int .u64 (n : Int)] w fun e w' => ∃ v', e = .returned v' ∧ w'.ownsRow B 5 1 v' (bs ++ decF f n).length (cellsB (bs ++ decF f n)) ∧ Below B w w' ∧ KeepT w w'
  | f, n, bs, v, w, hn, hf, h64, hbs, ho, hB => by
    have hw1 : IntKind.u8.wrap ((n : Int) % 10) = (n : Int) % 10 := by rw [IntKind.wrap_u8]; omega
    have hw2 : IntKind.u8.wrap (48 + (n : Int) % 10) = 48 + (n : Int) % 10 := by rw [IntKind.wrap_u8]; omega
    have HD := Lib.hid (digit_val n)
    have HO := Lib.hid ho
    have hB0 := Below.refl B w
    have HB0 := Lib.hid hB0
    obtain ⟨S, hS⟩ : ∃ S : Int, (n : Int) = S := ⟨_, rfl⟩
    clear ho hB0
    by_cases h10 : n < 10
    · have HE : Hid (decF f n = [UInt8.ofNat (48 + n % 10)]) := by
        show _ = _
        cases f with
        | zero => rfl
        | succ f => unfold decF; rw [if_pos h10, Nat.mod_eq_of_lt h10]
      have e1 : decide ((10 : Int) ≤ (n : Int)) = false := decide_eq_false (by omega)
      have e2 : decide (10 ≤ n) = false := decide_eq_false (by omega)
      obtain ⟨A9, c9, rfl⟩ := own_sliceD HO.out
      clear hS hn
      go_enter Tryd.func37, Tryd.ntmps37
      go_wp2_with (at_builtin; refine append_one _ (.int .u8 (48 + (n : Int) % 10)) rfl (.tmp 11) (.tmp 16) 53 rfl B 5 _ _ Tryd.underlying53 Tryd.infoU8 rfl rfl _ _ _ rfl HO.out rfl (by unfold maxLen; omega) (by omega) hB ?_)
      intro v' w3 ho hb hgr
      rw [← HD.out, cellsB_push] at ho
      have HO3 := Lib.hid ho
      have HB3 := Lib.hid hb
      have HK3 := Lib.hid (KeepT.alloc_grown HO.out hgr)
      clear ho hb hgr
      go_wp2
      go_ret
      refine ⟨_, rfl, ?_, HB3.out, HK3.out⟩
      rw [HE.out, List.length_append]
      exact HO3.out
    · cases f with
      | zero => exact absurd (show n < 10 from by simpa using hn) h10
      | succ f =>
        have HE : Hid (decF (f + 1) n = decF f (n / 10) ++ [UInt8.ofNat (48 + n % 10)]) := by
          show _ = _
          rw [decF, if_neg h10]
        have e1 : decide ((10 : Int) ≤ (n : Int)) = true := decide_eq_true (by omega)
        have e2 : decide (10 ≤ n) = true := decide_eq_true (by omega)
        have hd : ((n : Int) / 10) = ((n / 10 : Nat) : Int) := by omega
        have hlen := decF_length f (n / 10)
        have HC := Lib.hid (growNumber_any B f (n / 10) bs v w (by rw [Nat.pow_succ] at hn; omega) (by omega) (by omega) hbs HO.out hB)
        have HLN := Lib.hid hlen
        have hs0 : (0 : Int) ≤ (n : Int) := by omega
        have hs1 : (n : Int) ≤ 18446744073709551615 := by omega
        clear hS hn hlen e2 h10 h64
        generalize (n : Int) = S2 at *
        have hq1 : ¬ S2 < 10 := by
          have := of_decide_eq_true e1
          omega
        go_enter Tryd.func37, Tryd.ntmps37
        go_wp2_with fail
        refine HC.out.mono ?_
        rintro e w2 ⟨v2, rfl, ho2, hb2, hk2⟩
        have HK2 := Lib.hid hk2
        clear hk2
        have HO2 := Lib.hid ho2
        have hlb : (bs ++ decF f (n / 10)).length ≤ 140737488300020 := by rw [List.length_append]; have := HLN.out; omega
        have hB2 : B ≤ w2.heap.size := Nat.le_trans hB hb2.size
        have HB2 := Lib.hid hb2
        obtain ⟨A9, c9, rfl⟩ := own_sliceD ho2
        clear ho2 hb2 HC hd
        obtain ⟨bt, hbt⟩ : ∃ bt, bs ++ decF f (n / 10) = bt := ⟨_, rfl⟩
        rw [hbt] at HO2 hlb
        have HBT := Lib.hid hbt
        rw [hbt]
        clear hbt
        go_wp2_with (at_builtin; refine append_one _ (.int .u8 (48 + S2 % 10)) rfl (.tmp 11) (.tmp 16) 53 rfl B 5 _ _ Tryd.underlying53 Tryd.infoU8 rfl rfl _ _ _ rfl HO2.out rfl (by unfold maxLen; omega) (by omega) hB2 ?_)
        intro v' w3 ho hb hgr
        rw [← HD.out, cellsB_push] at ho
        have HO3 := Lib.hid ho
        have HB3 := Lib.hid (HB2.out.trans hb)
        have HK3 := Lib.hid (HK2.out.trans (KeepT.alloc_grown HO2.out hgr))
        clear ho hb hgr
        go_wp2
        go_ret
        refine ⟨_, rfl, ?_, HB3.out, HK3.out⟩
        rw [HE.out, ← List.append_assoc, HBT.out, List.length_append]
        exact HO3.out
end Go.Proofs.YtndcnflboikodaaDoor
