/-
  A text's part ahead of a byte, and behind it; small numbers (layer 15): event.cut, event.small.
-/
import Derived.Test.YtndcnflboikodaaDoorEvm
namespace Go.Proofs.YtndcnflboikodaaDoor
open Go.RowKit
set_option linter.unusedVariables false
set_option linter.unusedSimpArgs false
theorem ret_ssb {a b a' b' : ByteArray} {t t' : Bool} (h : a = a') (h2 : b = b') (h3 : t = t') : Ending.returned (.tuple #[.string a, .string b, .bool t]) = .returned (.tuple #[.string a', .string b', .bool t']) := by rw [h, h2, h3]
/-- What cut answers of a text and a byte. -/
def CutIs (bs : List UInt8) (b : UInt8) (e : Ending) : Prop :=
  (∃ p q, bs = p ++ b :: q ∧ b ∉ p ∧ e = .returned (.tuple #[.string (textB p), .string (textB q), .bool true])) ∨ (b ∉ bs ∧ e = .returned (.tuple #[.string (textB bs), .string (textB []), .bool false]))
theorem cut_take {bs : List UInt8} {i : Nat} (h : i ≤ bs.length) : (textB bs).extract 0 i = textB (bs.take i) := by
  apply eq_of_data
  simp [textB]
theorem cut_drop {bs : List UInt8} {i : Nat} : (textB bs).extract i bs.length = textB (bs.drop i) := by
  apply eq_of_data
  simp [textB]
  exact List.take_of_length_le (by simp)
theorem text_byte {bs : List UInt8} {i : Nat} {c : UInt8} (h : bs[i]? = some c) : (textB bs)[i]? = some c := by
  have hl := (List.getElem?_eq_some_iff.1 h).1
  have h2 := (List.getElem?_eq_some_iff.1 h).2
  rw [getElem?_pos (textB bs) i (by rw [textB_size]; exact hl)]
  congr 1
set_option maxHeartbeats 8000000 in
set_option maxRecDepth 100000 in
theorem cut15 (bs : List UInt8) (b : UInt8) (w : World) (hbs : bs.length ≤ 140737488355328) :
    Calls Tryd.prog 34 #[.string (textB bs), .int .u8 (b.toNat : Int)] w fun e w' => CutIs bs b e ∧ Below w.heap.size w w' := by
  have hsz := textB_size bs
  have HSZ := Lib.hid hsz
  clear hsz
  go_enter Tryd.func34, Tryd.ntmps34
  go_wp2_with fail
  go_loopw [10] (fun u wr => ∃ k : Nat, k ≤ bs.length ∧ u = .int .i64 k ∧ Hid (b ∉ bs.take k) ∧ wr = w) (fun u _ => bs.length - (intOf u).toNat)
  case atStart => exact ⟨0, by omega, rfl, by show _ ∉ _; simp, rfl⟩
  case round =>
    obtain ⟨k, hk, rfl, HNO, rfl⟩ := hrel
    by_cases hlt : k < bs.length
    · obtain ⟨c, hc⟩ : ∃ c, bs[k]? = some c := ⟨_, List.getElem?_eq_getElem hlt⟩
      have hki : (k : Int) < (bs.length : Int) := by omega
      have hki2 : (k : Int) < ((textB bs).size : Int) := by rw [HSZ.out]; omega
      have g0 := text_byte hc
      have hnx : bs.take (k + 1) = bs.take k ++ [c] := by rw [List.take_add_one, hc]; rfl
      have hdr : bs = bs.take k ++ c :: bs.drop (k + 1) := by
        have h1 := List.take_append_drop k bs
        rw [List.drop_eq_getElem_cons hlt] at h1
        rw [(List.getElem?_eq_some_iff.1 hc).2] at h1
        exact h1.symm
      have HDR := Lib.hid hdr
      have HNX := Lib.hid hnx
      have hs1 := cut_take (bs := bs) (i := k) (by omega)
      have hs2 := cut_drop (bs := bs) (i := k + 1)
      have HS1 := Lib.hid hs1
      have HS2 := Lib.hid hs2
      clear hdr hnx hc hs1 hs2
      have hx0 : ((textB bs)[k]'(by rw [HSZ.out]; exact hlt)).toNat = c.toNat := by
        have := getElem?_pos (textB bs) k (by rw [HSZ.out]; exact hlt)
        rw [g0] at this
        injection this with this
        rw [← this]
      clear g0
      by_cases he : c = b
      · subst he
        obtain ⟨x, hx⟩ : ∃ x, c.toNat = x := ⟨_, rfl⟩
        rw [hx] at hx0 ⊢
        have e1 : ((x : Int) == (x : Int)) = true := by simp
        clear hx
        go_wp2
        go_quiet (fail)
        go_wp2
        go_ret3
        exact ⟨.inl ⟨_, _, HDR.out, HNO.out, ret_ssb HS1.out HS2.out rfl⟩, below_drewN (Below.refl _ _) _⟩
      · have HN2 : Hid (b ∉ bs.take (k + 1)) := by
          show _ ∉ _
          rw [HNX.out, List.mem_append, List.mem_singleton]
          rintro (h | h)
          · exact HNO.out h
          · exact he h.symm
        have hne : c.toNat ≠ b.toNat := fun h => he (UInt8.toNat_inj.1 h)
        obtain ⟨x, hx⟩ : ∃ x, c.toNat = x := ⟨_, rfl⟩
        obtain ⟨y, hy⟩ : ∃ y, b.toNat = y := ⟨_, rfl⟩
        rw [hx, hy] at hne
        rw [hx] at hx0
        rw [hy]
        have e1 : ((x : Int) == (y : Int)) = false := by rw [beq_eq_false_iff_ne]; omega
        have e2 : (x == y) = false := beq_eq_false_iff_ne.2 hne
        clear HDR HNX HNO hx hy hne he
        go_wp2
        go_roundw
        case rel => exact ⟨k + 1, by omega, by go_num, HN2, trivial⟩
        case measure => simp [intOf]; omega
    · obtain rfl : k = bs.length := by omega
      have HN2 : Hid (b ∉ bs) := by
        have := HNO.out
        rwa [List.take_length] at this
      go_wp2
      go_ret3
      exact ⟨.inr ⟨HN2.out, rfl⟩, Below.refl _ _⟩
def smI (n : Nat) : Int := if 255 < n then -1 else (n : Int)
theorem small15 (n : Nat) (w : World) (h : n < 18446744073709551616) : Calls Tryd.prog 41 #[.int .u64 (n : Int)] w fun e w' => e = .returned (.int .i64 (smI n)) ∧ w = w' := by
  have HS : Hid (smI n = if 255 < n then -1 else (n : Int)) := rfl
  by_cases hn : 255 < n
  · rw [if_pos hn] at HS
    have e1 : decide ((255 : Int) < (n : Int)) = true := decide_eq_true (by omega)
    have e2 : decide (255 < n) = true := decide_eq_true hn
    clear h hn
    go_enter Tryd.func41, Tryd.ntmps41
    go_wp2
    go_ret
    exact ⟨ret_int HS.out.symm, rfl⟩
  · rw [if_neg hn] at HS
    have e1 : decide ((255 : Int) < (n : Int)) = false := decide_eq_false (by omega)
    have e2 : decide (255 < n) = false := decide_eq_false hn
    have hw : IntKind.i64.wrap (n : Int) = (n : Int) := IntWalk.i64_in _ (by omega)
    clear h hn
    go_enter Tryd.func41, Tryd.ntmps41
    go_wp2
    go_ret
    exact ⟨ret_int HS.out.symm, rfl⟩
end Go.Proofs.YtndcnflboikodaaDoor
