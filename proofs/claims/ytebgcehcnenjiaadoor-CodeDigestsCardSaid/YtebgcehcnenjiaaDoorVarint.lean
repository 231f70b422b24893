/-
  What the package varint's functions do, each for every input.
-/
import Derived.Test.YtebgcehcnenjiaaDoorOctet
import Derived.Test.YtebgcehcnenjiaaDoorLeb
import Derived.Test.YtebgcehcnenjiaaDoorBytes
import Derived.Laws.BitsAllLaws
import Derived.Laws.Bits64
import Derived.Laws.Bits64b
import Derived.Lib.BufferRead
namespace Go.Proofs.YtebgcehcnenjiaaDoor
open Go.RowKit
set_option linter.unusedVariables false
set_option linter.unusedSimpArgs false

theorem or128 : ∀ a : Nat, a < 256 → a ||| 128 = a % 128 + 128 := by decide +kernel
theorem bits_or128 (n : Nat) : bits .or .u8 ((n : Int) % 256) 128 = ((n % 128 + 128 : Nat) : Int) := by
  have h : ((n : Int) % 256) = ((n % 256 : Nat) : Int) := by omega
  have := u8_or_nat (n % 256) 128 (Nat.mod_lt _ (by decide)) (by decide)
  rw [h]
  refine Eq.trans this ?_
  rw [or128 _ (Nat.mod_lt _ (by decide)), show n % 256 % 128 = n % 128 by omega]

theorem more_byte (m : Nat) : bits .or .u8 ((m : Int) % 256) 128 = ((UInt8.ofNat (m % 128 + 128)).toNat : Int) := by
  rw [bits_or128, UInt8.toNat_ofNat']
  omega
theorem last_byte (m : Nat) (h : m < 128) : (m : Int) = ((UInt8.ofNat m).toNat : Int) := by
  rw [UInt8.toNat_ofNat']
  omega
/-- The round's step, no Go in sight. -/
theorem grow_step {f m : Nat} {d l : List UInt8} {n : Nat} (hd : d ++ leb f m = l ++ enc n) (hp : m < 128 ^ (f + 1)) (h : ¬ m < 128) :
    ∃ f', f = f' + 1 ∧ d ++ [UInt8.ofNat (m % 128 + 128)] ++ leb f' (m / 128) = l ++ enc n ∧ m / 128 < 128 ^ (f' + 1) := by
  cases f with
  | zero => simp at hp; omega
  | succ f =>
    refine ⟨f, rfl, ?_, lt_div _ _ hp⟩
    rw [leb_big _ _ h] at hd
    rw [← hd]; simp
theorem grow_done {f m : Nat} {d l : List UInt8} {n : Nat} (hd : d ++ leb f m = l ++ enc n) (h : m < 128) : d ++ [UInt8.ofNat m] = l ++ enc n := by
  rw [leb_small _ _ h] at hd; exact hd
set_option maxHeartbeats 1000000 in
theorem varintGrow (v : Value) (l : List UInt8) (n : Nat) (w : World) (B : Nat) (hB : B ≤ w.heap.size) (ho : w.ownsRow B 5 1 v l.length (cellsB l)) (hl : l.length ≤ 140737488355000) (hn : n < M64) :
    Calls Tryd.prog 47 #[v, .int .u64 n] w fun e w' => ∃ v', e = .returned v' ∧ w'.ownsRow B 5 1 v' (l ++ enc n).length (cellsB (l ++ enc n)) ∧ Below B w w' := by
  have hn2 : n ≤ 18446744073709551615 := by unfold M64 at hn; omega
  go_enter Tryd.func47, Tryd.ntmps47
  go_wp2
  go_loopw [0, 1] (fun t i wr => ∃ (f m : Nat) (d : List UInt8), i = .int .u64 m ∧ m ≤ 18446744073709551615 ∧ f ≤ 9 ∧ Hid (m < 128 ^ (f + 1)) ∧ Hid (d ++ leb f m = l ++ enc n) ∧ d.length + (f + 1) ≤ l.length + 10 ∧ wr.ownsRow B 5 1 t d.length (cellsB d) ∧ Below B w wr)
    (fun _ i _ => (intOf i).toNat)
  case atStart => exact ⟨9, n, l, rfl, hn2, by omega, Nat.lt_of_lt_of_le hn m64_lt, rfl, by omega, ho, Below.refl _ _⟩
  case round =>
    clear ho
    obtain ⟨f, m, d, rfl, hm, hf, hp, hd, hdl, ho, hb⟩ := hrel
    have hBr : B ≤ wr.heap.size := Nat.le_trans hB hb.size
    by_cases h : m < 128
    · have e0 : decide ((128 : Int) ≤ (m : Int)) = false := by simp; omega
      have hx := last_byte m h
      have hg := Lib.hid (grow_done hd.out h)
      generalize UInt8.ofNat m = b at *
      have HX := Lib.hid hx
      clear hx
      go_wp2_with (at_builtin; rw [HX.out]; refine append_one wr (.int .u8 b.toNat) rfl (.tmp 15) (.tmp 18) 62 rfl B 5 _ _ Tryd.underlying62 Tryd.infoU8 rfl rfl _ _ _ rfl ho rfl (by unfold maxLen; omega) (by omega) hBr ?_; intro v' w1 hown1 hb1 _)
      go_ret
      rw [cellsB_push, hg.out] at hown1
      exact ⟨_, rfl, by rw [← hg.out, List.length_append]; rw [hg.out]; exact hown1, hb.trans hb1⟩
    · have e0 : decide ((128 : Int) ≤ (m : Int)) = true := by simp; omega
      have hx := more_byte m
      obtain ⟨f', rfl, hd', hp'⟩ := grow_step hd.out hp.out h
      have HD := Lib.hid hd'
      have HP := Lib.hid hp'
      clear hd hp hd' hp'
      generalize UInt8.ofNat (m % 128 + 128) = b at *
      go_wp2_with (at_builtin; refine append_one wr (.int .u8 b.toNat) rfl (.tmp 9) (.tmp 13) 62 rfl B 5 _ _ Tryd.underlying62 Tryd.infoU8 rfl rfl _ _ _ rfl ho rfl (by unfold maxLen; omega) (by omega) hBr ?_; intro v' w1 hown1 hb1 _)
      rw [cellsB_push] at hown1
      go_roundw
      case rel => exact ⟨f', m / 128, d ++ [b], by go_num, by omega, by omega, HP, HD, by rw [List.length_append]; simp; omega, by rw [List.length_append]; exact hown1, hb.trans hb1⟩
      case measure => simp [intOf]; omega

def wrongB (k : Nat) (b : UInt8) : Bool := decide ((0 < k ∧ b = 0) ∨ (k = 9 ∧ 1 < b.toNat))
theorem varintWrong (k : Nat) (b : UInt8) (w : World) (hk : k ≤ 9) : Calls Tryd.prog 57 #[.int .i64 k, .int .u8 b.toNat] w fun e w' => e = .returned (.bool (wrongB k b)) ∧ w = w' := by
  have hb := b.toNat_lt
  have hz : (b = 0) ↔ b.toNat = 0 := by
    constructor
    · rintro rfl; rfl
    · intro h; exact UInt8.toNat_inj.1 h
  have hw : wrongB k b = decide ((0 < k ∧ b.toNat = 0) ∨ (k = 9 ∧ 1 < b.toNat)) := by simp only [wrongB, hz]
  have HW := Lib.hid hw
  clear hw hz
  generalize b.toNat = B at *
  by_cases h1 : 0 < k
  · have e1 : decide ((0 : Int) < (k : Int)) = true := by simp; omega
    by_cases h2 : B = 0
    · have e2 : ((B : Int) == 0) = true := by simp; omega
      go_enter Tryd.func57, Tryd.ntmps57
      go_wp2
      go_ret
      exact ⟨ret_bool (by rw [HW.out]; simp; omega), rfl⟩
    · have e2 : ((B : Int) == 0) = false := by simp; omega
      by_cases h3 : k = 9
      · subst h3
        have hf : (decide ((1 : Int) < (B : Int))) = decide ((0 < 9 ∧ B = 0) ∨ ((9 : Nat) = 9 ∧ 1 < B)) := by simp [h2]; omega
        have HF := Lib.hid hf
        clear hf
        go_enter Tryd.func57, Tryd.ntmps57
        go_wp2
        go_ret
        exact ⟨ret_bool (by rw [HW.out]; exact HF.out), rfl⟩
      · have e3 : ((k : Int) == 9) = false := by simp; omega
        go_enter Tryd.func57, Tryd.ntmps57
        go_wp2
        go_ret
        exact ⟨ret_bool (by rw [HW.out]; simp; omega), rfl⟩
  · have e1 : decide ((0 : Int) < (k : Int)) = false := by simp; omega
    have e3 : ((k : Int) == 9) = false := by simp; omega
    go_enter Tryd.func57, Tryd.ntmps57
    go_wp2
    go_ret
    exact ⟨ret_bool (by rw [HW.out]; simp; omega), rfl⟩

/-- What is left of a text behind its first i bytes. -/
def restOf (s : ByteArray) (i : Nat) : List UInt8 := s.data.toList.drop i
theorem rest_cons (s : ByteArray) (i : Nat) (h : i < s.size) : restOf s i = s[i]'h :: restOf s (i + 1) := by
  unfold restOf
  rw [List.drop_eq_getElem_cons (by simpa using h)]
  rfl
theorem rest_nil (s : ByteArray) : restOf s s.size = [] := by unfold restOf; exact List.drop_of_length_le (by simp)
theorem rdV_wrong (f k v : Nat) (b : UInt8) (l : List UInt8) (h : wrongB k b = true) : rdV (f + 1) k v (b :: l) = (0, 3, 1) := by
  unfold wrongB at h; rw [rdV, if_pos (of_decide_eq_true h)]
theorem rdV_last (f k v : Nat) (b : UInt8) (l : List UInt8) (h : wrongB k b = false) (hb : b.toNat < 128) : rdV (f + 1) k v (b :: l) = (v + b.toNat * 128 ^ k, 0, 1) := by
  unfold wrongB at h; rw [rdV, if_neg (of_decide_eq_false h), if_pos hb]
theorem rdV_more (f k v : Nat) (b : UInt8) (l : List UInt8) (h : wrongB k b = false) (hb : ¬ b.toNat < 128) : rdV (f + 1) k v (b :: l) =
    ((rdV f (k + 1) (v + (b.toNat - 128) * 128 ^ k) l).1, (rdV f (k + 1) (v + (b.toNat - 128) * 128 ^ k) l).2.1, (rdV f (k + 1) (v + (b.toNat - 128) * 128 ^ k) l).2.2 + 1) := by
  unfold wrongB at h; rw [rdV, if_neg (of_decide_eq_false h), if_neg hb]
theorem and127 : ∀ a : Nat, a < 256 → a &&& 127 = a % 128 := by decide +kernel
theorem bits_and127 (b : UInt8) : bits .and .u8 (b.toNat : Int) 127 = ((b.toNat % 128 : Nat) : Int) := by
  have := u8_and_nat b.toNat 127 b.toNat_lt (by decide)
  refine Eq.trans this ?_
  rw [and127 _ b.toNat_lt]
theorem pow7 (k : Nat) : (128 : Nat) ^ k = 2 ^ (7 * k) := by rw [Nat.pow_mul]
theorem group_fits (k x : Nat) (hk : k ≤ 9) (hx : x < 128) (h9 : k = 9 → x < 2) : x * 128 ^ k < 18446744073709551616 := by
  by_cases h : k = 9
  · subst h; have := h9 rfl
    rw [show (128 : Nat) ^ 9 = 9223372036854775808 by decide +kernel]; omega
  · have h8 : k ≤ 8 := by omega
    have hp : (128 : Nat) ^ k ≤ 128 ^ 8 := Nat.pow_le_pow_right (by decide) h8
    rw [show (128 : Nat) ^ 8 = 72057594037927936 by decide +kernel] at hp
    calc x * 128 ^ k ≤ 127 * 72057594037927936 := Nat.mul_le_mul (by omega) hp
      _ < 18446744073709551616 := by decide +kernel
theorem or_group (k v x : Nat) (hk : k ≤ 9) (hv : v < 128 ^ k) (hx : x < 128) (h9 : k = 9 → x < 2) :
    bits .or .u64 (v : Int) (IntKind.u64.wrap ((x : Int) * 2 ^ (7 * k))) = ((v + x * 128 ^ k : Nat) : Int) ∧ v + x * 128 ^ k < 128 ^ (k + 1) ∧ v + x * 128 ^ k ≤ 18446744073709551615 := by
  have hf := group_fits k x hk hx h9
  have hp : (128 : Nat) ^ k ≤ 128 ^ 9 := Nat.pow_le_pow_right (by decide) hk
  rw [show (128 : Nat) ^ 9 = 9223372036854775808 by decide +kernel] at hp
  have hw : IntKind.u64.wrap ((x : Int) * 2 ^ (7 * k)) = ((x * 128 ^ k : Nat) : Int) := by
    have e : (x : Int) * 2 ^ (7 * k) = ((x * 128 ^ k : Nat) : Int) := by rw [pow7, Int.natCast_mul, Int.natCast_pow]; rfl
    rw [e, IntKind.wrap_u64]
    omega
  refine ⟨?_, ?_, ?_⟩
  · rw [hw, bits_or_u64_nat _ _ (by omega) hf]
    congr 1
    rw [pow7]
    exact or_add (by rw [← pow7]; exact hv)
  · rw [pow128_succ]
    have : x * 128 ^ k ≤ 127 * 128 ^ k := Nat.mul_le_mul_right _ (by omega)
    omega
  · by_cases h : k = 9
    · subst h
      have := h9 rfl
      rw [show (128 : Nat) ^ 9 = 9223372036854775808 by decide +kernel] at *
      omega
    · have h8 : k ≤ 8 := by omega
      have hp8 : (128 : Nat) ^ k ≤ 128 ^ 8 := Nat.pow_le_pow_right (by decide) h8
      rw [show (128 : Nat) ^ 8 = 72057594037927936 by decide +kernel] at hp8
      have : x * 128 ^ k ≤ 127 * 72057594037927936 := Nat.mul_le_mul (by omega) hp8
      omega
/-- .. as the walk spells it. -/
theorem or_group_byte (k v : Nat) (b : UInt8) (hk : k ≤ 9) (hv : v < 128 ^ k) (hw : wrongB k b = false) :
    bits .or .u64 (v : Int) (IntKind.u64.wrap ((b.toNat : Int) % 128 * 2 ^ (7 * k))) = ((v + b.toNat % 128 * 128 ^ k : Nat) : Int) ∧ v + b.toNat % 128 * 128 ^ k < 128 ^ (k + 1) ∧ v + b.toNat % 128 * 128 ^ k ≤ 18446744073709551615 := by
  have h9 : k = 9 → b.toNat < 2 := by
    intro h; unfold wrongB at hw; have := of_decide_eq_false hw; omega
  have := or_group k v (b.toNat % 128) hk hv (Nat.mod_lt _ (by decide)) (fun h => by have := h9 h; omega)
  rw [Int.natCast_emod] at this
  exact this
set_option maxHeartbeats 1000000 in
theorem varintRead (g : Nat) (s : ByteArray) (i : Nat) (w : World) (h : RdAt w g s i) : Calls Tryd.prog 56 #[.pointer (some ⟨g, 0, none⟩)] w fun e w' =>
    e = .returned (.tuple #[.int .u64 (rd (restOf s i)).1, .int .i64 (rd (restOf s i)).2.1]) ∧ RdAt w' g s (i + (rd (restOf s i)).2.2) ∧ Kept (oneRow g) w w' := by
  go_enter Tryd.func56, Tryd.ntmps56
  go_wp2
  go_loopw [4, 5] (fun t u wr => ∃ (k v : Nat), k ≤ 9 ∧ t = .int .u64 v ∧ u = .int .i64 k ∧ RdAt wr g s (i + k) ∧ Hid (v < 128 ^ k) ∧ v ≤ 18446744073709551615 ∧ Kept (oneRow g) w wr ∧
      Hid (rd (restOf s i) = ((rdV (9 - k + 1) k v (restOf s (i + k))).1, (rdV (9 - k + 1) k v (restOf s (i + k))).2.1, (rdV (9 - k + 1) k v (restOf s (i + k))).2.2 + k)))
    (fun _ u _ => 10 - (intOf u).toNat)
  case atStart => exact ⟨0, 0, by omega, rfl, rfl, h, by show 0 < 1; omega, by omega, Kept.refl _ _, rfl⟩
  case round =>
    clear h
    obtain ⟨k, v, hk, rfl, rfl, hr, hv, hv2, hkp, hrd⟩ := hrel
    by_cases hend : i + k < s.size
    · have hb := rest_cons s (i + k) hend
      go_wp2_with fail
      refine (octetByteOk g s (i + k) wr hr hend).mono ?_
      rintro e w1 ⟨rfl, hr1, hk1⟩
      have hkp := hkp.trans hk1 (fun _ _ h => h)
      generalize s[i + k]'hend = b at *
      rw [hb] at hrd
      clear hb hr hk1
      have hbl := b.toNat_lt
      go_wp2_with fail
      refine (varintWrong k b w1 hk).mono ?_
      rintro e w' ⟨rfl, rfl⟩
      cases hwb : wrongB k b
      · by_cases hlast : b.toNat < 128
        · have e1 : decide ((b.toNat : Int) < 128) = true := by simp; omega
          have hx := bits_and127 b
          obtain ⟨og, _, _⟩ := or_group_byte k v b hk hv.out hwb
          have OG := Lib.hid og
          have hres := hrd.out
          rw [rdV_last _ _ _ _ _ hwb hlast, ← Nat.mod_eq_of_lt hlast] at hres
          have HRES := Lib.hid hres
          clear hrd hres og
          go_wp2
          go_ret2
          exact ⟨ret_two (v_int (by rw [HRES.out]; exact OG.out)) (v_int (by rw [HRES.out]; rfl)), by rw [HRES.out]; show RdAt w1 g s (i + (1 + k)); rw [Nat.add_comm 1 k, ← Nat.add_assoc]; exact hr1, hkp⟩
        · have e1 : decide ((b.toNat : Int) < 128) = false := by simp; omega
          have hx := bits_and127 b
          obtain ⟨og, og2, og3⟩ := or_group_byte k v b hk hv.out hwb
          have OG := Lib.hid og
          have OG2 := Lib.hid og2
          have hk8 : k ≤ 8 := by
            unfold wrongB at hwb; have := of_decide_eq_false hwb; omega
          have hres := hrd.out
          rw [rdV_more _ _ _ _ _ hwb hlast, show b.toNat - 128 = b.toNat % 128 by omega] at hres
          have HRES := Lib.hid hres
          clear hrd hres og og2
          go_wp2
          go_roundw
          case rel =>
            refine ⟨k + 1, v + b.toNat % 128 * 128 ^ k, by omega, v_int OG.out, by go_num, hr1, OG2, og3, hkp, ?_⟩
            have he : 9 - k = 9 - (k + 1) + 1 := by omega
            show _ = _
            rw [HRES.out, he]
            simp only [Nat.add_assoc, Nat.add_comm 1 k]
          case measure => simp [intOf]; omega
      · have hres := hrd.out
        rw [rdV_wrong _ _ _ _ _ hwb] at hres
        have HRES := Lib.hid hres
        clear hrd hres
        go_wp2
        go_ret2
        exact ⟨ret_two (v_int (by rw [HRES.out]; rfl)) (v_int (by rw [HRES.out]; rfl)), by rw [HRES.out]; show RdAt w1 g s (i + (1 + k)); rw [Nat.add_comm 1 k, ← Nat.add_assoc]; exact hr1, hkp⟩
    · have hpos : i + k = s.size := by have := hr.2.1; omega
      have hres := hrd.out
      rw [hpos] at hr hres
      rw [rest_nil, rdV] at hres
      have HRES := Lib.hid hres
      have HPOS := Lib.hid hpos
      clear hrd hres hpos
      go_wp2_with fail
      refine (octetByteEnd g s wr hr).mono ?_
      rintro e w1 ⟨rfl, n1, rfl⟩
      go_wp2
      go_ret2
      exact ⟨ret_two (v_int (by rw [HRES.out]; rfl)) (v_int (by rw [HRES.out]; rfl)), by rw [HRES.out]; show RdAt _ g s (i + (0 + k)); rw [Nat.zero_add, HPOS.out]; exact hr, hkp.trans (Kept.drewN _ _ _) (fun _ _ h => h)⟩
end Go.Proofs.YtebgcehcnenjiaaDoor
