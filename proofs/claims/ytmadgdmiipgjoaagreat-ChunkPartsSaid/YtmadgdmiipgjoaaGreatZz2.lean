import Derived.Test.YtmadgdmiipgjoaaGreatZz1
namespace Go.Proofs.YtmadgdmiipgjoaaGreat
open Go.RowKit
set_option linter.unusedVariables false
set_option linter.unusedSimpArgs false
theorem or128 : ∀ a : Nat, a < 256 → a ||| 128 = a % 128 + 128 := by decide +kernel
theorem bits_or128 (n : Nat) : bits .or .u8 ((n : Int) % 256) 128 = ((n % 128 + 128 : Nat) : Int) := by
 have h : ((n : Int) % 256) = ((n % 256 : Nat) : Int) := by omega
 have := u8_or_nat (n % 256) 128 (Nat.mod_lt _ (by decide)) (by decide)
 rw [h]
 refine Eq.trans this ?_
 rw [or128 _ (Nat.mod_lt _ (by decide)), show n % 256 % 128 = n % 128 by omega]
theorem more_byte (m : Nat) : bits .or .u8 ((m : Int) % 256) 128 = ((UInt8.ofNat (m % 128 + 128)).toNat : Int) := by
 rw [bits_or128, UInt8.toNat_ofNat']
 omega
theorem last_byte (m : Nat) (h : m < 128) : (m : Int) = ((UInt8.ofNat m).toNat : Int) := by
 rw [UInt8.toNat_ofNat']
 omega
theorem grow_step {f m : Nat} {d l : List UInt8} {n : Nat} (hd : d ++ leb f m = l ++ enc n) (hp : m < 128 ^ (f + 1)) (h : ¬ m < 128) :
  ∃ f', f = f' + 1 ∧ d ++ [UInt8.ofNat (m % 128 + 128)] ++ leb f' (m / 128) = l ++ enc n ∧ m / 128 < 128 ^ (f' + 1) := by
 cases f with
 | zero => simp at hp; omega
 | succ f =>
  refine ⟨f, rfl, ?_, lt_div _ _ hp⟩
  rw [leb_big _ _ h] at hd
  rw [← hd]; simp
theorem grow_done {f m : Nat} {d l : List UInt8} {n : Nat} (hd : d ++ leb f m = l ++ enc n) (h : m < 128) : d ++ [UInt8.ofNat m] = l ++ enc n := by
 rw [leb_small _ _ h] at hd; exact hd
set_option maxHeartbeats 1000000 in
theorem varintGrow (v : Value) (l : List UInt8) (n : Nat) (w : World) (B : Nat) (hB : B ≤ w.heap.size) (ho : w.ownsRow B 5 1 v l.length (cellsB l)) (hl : l.length ≤ 140737488355000) (hn : n < M64) :
  Calls Tryz.prog 66 #[v, .int .u64 n] w fun e w' => ∃ v', e = .returned v' ∧ w'.ownsRow B 5 1 v' (l ++ enc n).length (cellsB (l ++ enc n)) ∧ Below B w w' := by
 have hn2 : n ≤ 18446744073709551615 := by unfold M64 at hn; omega
 go_enter Tryz.func66, Tryz.ntmps66
 go_wp2
 go_loopw [0, 1] (fun t i wr => ∃ (f m : Nat) (d : List UInt8), i = .int .u64 m ∧ m ≤ 18446744073709551615 ∧ f ≤ 9 ∧ Hid (m < 128 ^ (f + 1)) ∧ Hid (d ++ leb f m = l ++ enc n) ∧ d.length + (f + 1) ≤ l.length + 10 ∧ wr.ownsRow B 5 1 t d.length (cellsB d) ∧ Below B w wr)
  (fun _ i _ => (intOf i).toNat)
 case atStart => exact ⟨9, n, l, rfl, hn2, by omega, Nat.lt_of_lt_of_le hn m64_lt, rfl, by omega, ho, Below.refl _ _⟩
 case round =>
  clear ho
  obtain ⟨f, m, d, rfl, hm, hf, hp, hd, hdl, ho, hb⟩ := hrel
  have hBr : B ≤ wr.heap.size := Nat.le_trans hB hb.size
  by_cases h : m < 128
  ·have e0 : decide ((128 : Int) ≤ (m : Int)) = false := by simp; omega
   have hx := last_byte m h
   have hg := Lib.hid (grow_done hd.out h)
   generalize UInt8.ofNat m = b at *
   have HX := Lib.hid hx
   clear hx
   go_wp2_with (at_builtin; rw [HX.out]; refine append_one wr (.int .u8 b.toNat) rfl (.tmp 15) (.tmp 18) 43 rfl B 5 _ _ Tryz.underlying43 Tryz.infoU8 rfl rfl _ _ _ rfl ho rfl (by unfold maxLen; omega) (by omega) hBr ?_; intro v' w1 hown1 hb1 _)
   go_ret
   rw [cellsB_push, hg.out] at hown1
   exact ⟨_, rfl, by rw [← hg.out, List.length_append]; rw [hg.out]; exact hown1, hb.trans hb1⟩
  ·have e0 : decide ((128 : Int) ≤ (m : Int)) = true := by simp; omega
   have hx := more_byte m
   obtain ⟨f', rfl, hd', hp'⟩ := grow_step hd.out hp.out h
   have HD := Lib.hid hd'
   have HP := Lib.hid hp'
   clear hd hp hd' hp'
   generalize UInt8.ofNat (m % 128 + 128) = b at *
   go_wp2_with (at_builtin; refine append_one wr (.int .u8 b.toNat) rfl (.tmp 9) (.tmp 13) 43 rfl B 5 _ _ Tryz.underlying43 Tryz.infoU8 rfl rfl _ _ _ rfl ho rfl (by unfold maxLen; omega) (by omega) hBr ?_; intro v' w1 hown1 hb1 _)
   rw [cellsB_push] at hown1
   go_roundw
   case rel => exact ⟨f', m / 128, d ++ [b], by go_num, by omega, by omega, HP, HD, by rw [List.length_append]; simp; omega, by rw [List.length_append]; exact hown1, hb.trans hb1⟩
   case measure => simp [intOf]; omega
def wrongB (k : Nat) (b : UInt8) : Bool := decide ((0 < k ∧ b = 0) ∨ (k = 9 ∧ 1 < b.toNat))
theorem varintWrong (k : Nat) (b : UInt8) (w : World) (hk : k ≤ 9) : Calls Tryz.prog 87 #[.int .i64 k, .int .u8 b.toNat] w fun e w' => e = .returned (.bool (wrongB k b)) ∧ w = w' := by
 have hb := b.toNat_lt
 have hz : (b = 0) ↔ b.toNat = 0 := by
  constructor
  ·rintro rfl; rfl
  ·intro h; exact UInt8.toNat_inj.1 h
 have hw : wrongB k b = decide ((0 < k ∧ b.toNat = 0) ∨ (k = 9 ∧ 1 < b.toNat)) := by simp only [wrongB, hz]
 have HW := Lib.hid hw
 clear hw hz
 generalize b.toNat = B at *
 by_cases h1 : 0 < k
 ·have e1 : decide ((0 : Int) < (k : Int)) = true := by simp; omega
  by_cases h2 : B = 0
  ·have e2 : ((B : Int) == 0) = true := by simp; omega
   go_enter Tryz.func87, Tryz.ntmps87
   go_wp2
   go_ret
   exact ⟨ret_bool (by rw [HW.out]; simp; omega), rfl⟩
  ·have e2 : ((B : Int) == 0) = false := by simp; omega
   by_cases h3 : k = 9
   ·subst h3
    have hf : (decide ((1 : Int) < (B : Int))) = decide ((0 < 9 ∧ B = 0) ∨ ((9 : Nat) = 9 ∧ 1 < B)) := by simp [h2]; omega
    have HF := Lib.hid hf
    clear hf
    go_enter Tryz.func87, Tryz.ntmps87
    go_wp2
    go_ret
    exact ⟨ret_bool (by rw [HW.out]; exact HF.out), rfl⟩
   ·have e3 : ((k : Int) == 9) = false := by simp; omega
    go_enter Tryz.func87, Tryz.ntmps87
    go_wp2
    go_ret
    exact ⟨ret_bool (by rw [HW.out]; simp; omega), rfl⟩
 ·have e1 : decide ((0 : Int) < (k : Int)) = false := by simp; omega
  have e3 : ((k : Int) == 9) = false := by simp; omega
  go_enter Tryz.func87, Tryz.ntmps87
  go_wp2
  go_ret
  exact ⟨ret_bool (by rw [HW.out]; simp; omega), rfl⟩
def restOf (s : ByteArray) (i : Nat) : List UInt8 := s.data.toList.drop i
theorem rest_cons (s : ByteArray) (i : Nat) (h : i < s.size) : restOf s i = s[i]'h :: restOf s (i + 1) := by
 unfold restOf
 rw [List.drop_eq_getElem_cons (by simpa using h)]
 rfl
theorem rest_nil (s : ByteArray) : restOf s s.size = [] := by unfold restOf; exact List.drop_of_length_le (by simp)
theorem rdV_wrong (f k v : Nat) (b : UInt8) (l : List UInt8) (h : wrongB k b = true) : rdV (f + 1) k v (b :: l) = (0, 3, 1) := by
 unfold wrongB at h; rw [rdV, if_pos (of_decide_eq_true h)]
theorem rdV_last (f k v : Nat) (b : UInt8) (l : List UInt8) (h : wrongB k b = false) (hb : b.toNat < 128) : rdV (f + 1) k v (b :: l) = (v + b.toNat * 128 ^ k, 0, 1) := by
 unfold wrongB at h; rw [rdV, if_neg (of_decide_eq_false h), if_pos hb]
theorem rdV_more (f k v : Nat) (b : UInt8) (l : List UInt8) (h : wrongB k b = false) (hb : ¬ b.toNat < 128) : rdV (f + 1) k v (b :: l) =
  ((rdV f (k + 1) (v + (b.toNat - 128) * 128 ^ k) l).1, (rdV f (k + 1) (v + (b.toNat - 128) * 128 ^ k) l).2.1, (rdV f (k + 1) (v + (b.toNat - 128) * 128 ^ k) l).2.2 + 1) := by
 unfold wrongB at h; rw [rdV, if_neg (of_decide_eq_false h), if_neg hb]
theorem and127 : ∀ a : Nat, a < 256 → a &&& 127 = a % 128 := by decide +kernel
theorem bits_and127 (b : UInt8) : bits .and .u8 (b.toNat : Int) 127 = ((b.toNat % 128 : Nat) : Int) := by
 have := u8_and_nat b.toNat 127 b.toNat_lt (by decide)
 refine Eq.trans this ?_
 rw [and127 _ b.toNat_lt]
theorem pow7 (k : Nat) : (128 : Nat) ^ k = 2 ^ (7 * k) := by rw [Nat.pow_mul]
theorem group_fits (k x : Nat) (hk : k ≤ 9) (hx : x < 128) (h9 : k = 9 → x < 2) : x * 128 ^ k < 18446744073709551616 := by
 by_cases h : k = 9
 ·subst h; have := h9 rfl
  rw [show (128 : Nat) ^ 9 = 9223372036854775808 by decide +kernel]; omega
 ·have h8 : k ≤ 8 := by omega
  have hp : (128 : Nat) ^ k ≤ 128 ^ 8 := Nat.pow_le_pow_right (by decide) h8
  rw [show (128 : Nat) ^ 8 = 72057594037927936 by decide +kernel] at hp
  calc x * 128 ^ k ≤ 127 * 72057594037927936 := Nat.mul_le_mul (by omega) hp
   _ < 18446744073709551616 := by decide +kernel
theorem or_group (k v x : Nat) (hk : k ≤ 9) (hv : v < 128 ^ k) (hx : x < 128) (h9 : k = 9 → x < 2) :
  bits .or .u64 (v : Int) (IntKind.u64.wrap ((x : Int) * 2 ^ (7 * k))) = ((v + x * 128 ^ k : Nat) : Int) ∧ v + x * 128 ^ k < 128 ^ (k + 1) ∧ v + x * 128 ^ k ≤ 18446744073709551615 := by
 have hf := group_fits k x hk hx h9
 have hp : (128 : Nat) ^ k ≤ 128 ^ 9 := Nat.pow_le_pow_right (by decide) hk
 rw [show (128 : Nat) ^ 9 = 9223372036854775808 by decide +kernel] at hp
 have hw : IntKind.u64.wrap ((x : Int) * 2 ^ (7 * k)) = ((x * 128 ^ k : Nat) : Int) := by
  have e : (x : Int) * 2 ^ (7 * k) = ((x * 128 ^ k : Nat) : Int) := by rw [pow7, Int.natCast_mul, Int.natCast_pow]; rfl
  rw [e, IntKind.wrap_u64]
  omega
 refine ⟨?_, ?_, ?_⟩
 ·rw [hw, bits_or_u64_nat _ _ (by omega) hf]
  congr 1
  rw [pow7]
  exact or_add (by rw [← pow7]; exact hv)
 ·rw [pow128_succ]
  have : x * 128 ^ k ≤ 127 * 128 ^ k := Nat.mul_le_mul_right _ (by omega)
  omega
 ·by_cases h : k = 9
  ·subst h
   have := h9 rfl
   rw [show (128 : Nat) ^ 9 = 9223372036854775808 by decide +kernel] at *
   omega
  ·have h8 : k ≤ 8 := by omega
   have hp8 : (128 : Nat) ^ k ≤ 128 ^ 8 := Nat.pow_le_pow_right (by decide) h8
   rw [show (128 : Nat) ^ 8 = 72057594037927936 by decide +kernel] at hp8
   have : x * 128 ^ k ≤ 127 * 72057594037927936 := Nat.mul_le_mul (by omega) hp8
   omega
theorem or_group_byte (k v : Nat) (b : UInt8) (hk : k ≤ 9) (hv : v < 128 ^ k) (hw : wrongB k b = false) :
  bits .or .u64 (v : Int) (IntKind.u64.wrap ((b.toNat : Int) % 128 * 2 ^ (7 * k))) = ((v + b.toNat % 128 * 128 ^ k : Nat) : Int) ∧ v + b.toNat % 128 * 128 ^ k < 128 ^ (k + 1) ∧ v + b.toNat % 128 * 128 ^ k ≤ 18446744073709551615 := by
 have h9 : k = 9 → b.toNat < 2 := by
  intro h; unfold wrongB at hw; have := of_decide_eq_false hw; omega
 have := or_group k v (b.toNat % 128) hk hv (Nat.mod_lt _ (by decide)) (fun h => by have := h9 h; omega)
 rw [Int.natCast_emod] at this
 exact this
set_option maxHeartbeats 1000000 in
theorem varintRead (g : Nat) (s : ByteArray) (i : Nat) (w : World) (h : RdAt w g s i) : Calls Tryz.prog 55 #[.pointer (some ⟨g, 0, none⟩)] w fun e w' =>
  e = .returned (.tuple #[.int .u64 (rd (restOf s i)).1, .int .i64 (rd (restOf s i)).2.1]) ∧ RdAt w' g s (i + (rd (restOf s i)).2.2) ∧ Kept (oneRow g) w w' := by
 go_enter Tryz.func55, Tryz.ntmps55
 go_wp2
 go_loopw [4, 5] (fun t u wr => ∃ (k v : Nat), k ≤ 9 ∧ t = .int .u64 v ∧ u = .int .i64 k ∧ RdAt wr g s (i + k) ∧ Hid (v < 128 ^ k) ∧ v ≤ 18446744073709551615 ∧ Kept (oneRow g) w wr ∧
   Hid (rd (restOf s i) = ((rdV (9 - k + 1) k v (restOf s (i + k))).1, (rdV (9 - k + 1) k v (restOf s (i + k))).2.1, (rdV (9 - k + 1) k v (restOf s (i + k))).2.2 + k)))
  (fun _ u _ => 10 - (intOf u).toNat)
 case atStart => exact ⟨0, 0, by omega, rfl, rfl, h, by show 0 < 1; omega, by omega, Kept.refl _ _, rfl⟩
 case round =>
  clear h
  obtain ⟨k, v, hk, rfl, rfl, hr, hv, hv2, hkp, hrd⟩ := hrel
  by_cases hend : i + k < s.size
  ·have hb := rest_cons s (i + k) hend
   go_wp2_with fail
   refine (octetByteOk g s (i + k) wr hr hend).mono ?_
   rintro e w1 ⟨rfl, hr1, hk1⟩
   have hkp := hkp.trans hk1 (fun _ _ h => h)
   generalize s[i + k]'hend = b at *
   rw [hb] at hrd
   clear hb hr hk1
   have hbl := b.toNat_lt
   go_wp2_with fail
   refine (varintWrong k b w1 hk).mono ?_
   rintro e w' ⟨rfl, rfl⟩
   cases hwb : wrongB k b
   ·by_cases hlast : b.toNat < 128
    ·have e1 : decide ((b.toNat : Int) < 128) = true := by simp; omega
     have hx := bits_and127 b
     obtain ⟨og, _, _⟩ := or_group_byte k v b hk hv.out hwb
     have OG := Lib.hid og
     have hres := hrd.out
     rw [rdV_last _ _ _ _ _ hwb hlast, ← Nat.mod_eq_of_lt hlast] at hres
     have HRES := Lib.hid hres
     clear hrd hres og
     go_wp2
     go_ret2
     exact ⟨ret_two (v_int (by rw [HRES.out]; exact OG.out)) (v_int (by rw [HRES.out]; rfl)), by rw [HRES.out]; show RdAt w1 g s (i + (1 + k)); rw [Nat.add_comm 1 k, ← Nat.add_assoc]; exact hr1, hkp⟩
    ·have e1 : decide ((b.toNat : Int) < 128) = false := by simp; omega
     have hx := bits_and127 b
     obtain ⟨og, og2, og3⟩ := or_group_byte k v b hk hv.out hwb
     have OG := Lib.hid og
     have OG2 := Lib.hid og2
     have hk8 : k ≤ 8 := by
      unfold wrongB at hwb; have := of_decide_eq_false hwb; omega
     have hres := hrd.out
     rw [rdV_more _ _ _ _ _ hwb hlast, show b.toNat - 128 = b.toNat % 128 by omega] at hres
     have HRES := Lib.hid hres
     clear hrd hres og og2
     go_wp2
     go_roundw
     case rel =>
      refine ⟨k + 1, v + b.toNat % 128 * 128 ^ k, by omega, v_int OG.out, by go_num, hr1, OG2, og3, hkp, ?_⟩
      have he : 9 - k = 9 - (k + 1) + 1 := by omega
      show _ = _
      rw [HRES.out, he]
      simp only [Nat.add_assoc, Nat.add_comm 1 k]
     case measure => simp [intOf]; omega
   ·have hres := hrd.out
    rw [rdV_wrong _ _ _ _ _ hwb] at hres
    have HRES := Lib.hid hres
    clear hrd hres
    go_wp2
    go_ret2
    exact ⟨ret_two (v_int (by rw [HRES.out]; rfl)) (v_int (by rw [HRES.out]; rfl)), by rw [HRES.out]; show RdAt w1 g s (i + (1 + k)); rw [Nat.add_comm 1 k, ← Nat.add_assoc]; exact hr1, hkp⟩
  ·have hpos : i + k = s.size := by have := hr.2.1; omega
   have hres := hrd.out
   rw [hpos] at hr hres
   rw [rest_nil, rdV] at hres
   have HRES := Lib.hid hres
   have HPOS := Lib.hid hpos
   clear hrd hres hpos
   go_wp2_with fail
   refine (octetByteEnd g s wr hr).mono ?_
   rintro e w1 ⟨rfl, n1, rfl⟩
   go_wp2
   go_ret2
   exact ⟨ret_two (v_int (by rw [HRES.out]; rfl)) (v_int (by rw [HRES.out]; rfl)), by rw [HRES.out]; show RdAt _ g s (i + (0 + k)); rw [Nat.zero_add, HPOS.out]; exact hr, hkp.trans (Kept.drewN _ _ _) (fun _ _ h => h)⟩
theorem Tryz.infoU64 : (Tryz.prog.info? 34).map (fun i => (i.zero, i.size, i.bytes)) = some (some (.int .u64 0), 1, 8) := by kernel_rfl
theorem rdV_ok (f : Nat) : ∀ k v l, (rdV f k v l).2.1 = 0 → 1 ≤ (rdV f k v l).2.2 := by
 induction f with
 | zero => intro k v l h; simp [rdV] at h
 | succ f ih =>
  intro k v l
  cases l with
  | nil => simp [rdV]
  | cons b l =>
   rw [rdV]
   split
   ·simp
   ·split
    ·simp
    ·simp
theorem rd_ok (l : List UInt8) (h : (rd l).2.1 = 0) : 1 ≤ (rd l).2.2 := rdV_ok _ _ _ _ h
theorem rdV_bound (f : Nat) : ∀ k v l, v ≤ 18446744073709551615 → k + f = 10 → v < 128 ^ k → (rdV f k v l).1 ≤ 18446744073709551615 := by
 induction f with
 | zero => intro k v l _ _ _; simp [rdV]
 | succ f ih =>
  intro k v l hv hk hp
  cases l with
  | nil => simp [rdV]
  | cons b l =>
   cases hw : wrongB k b
   ·have hg := or_group_byte k v b (by omega) hp hw
    by_cases hb : b.toNat < 128
    ·rw [rdV_last _ _ _ _ _ hw hb]
     have := hg.2.2
     rw [Nat.mod_eq_of_lt hb] at this
     exact this
    ·rw [rdV_more _ _ _ _ _ hw hb, show b.toNat - 128 = b.toNat % 128 by have := b.toNat_lt; omega]
     exact ih _ _ _ hg.2.2 (by omega) hg.2.1
   ·rw [rdV_wrong _ _ _ _ _ hw]; simp
theorem rd_bound (l : List UInt8) : (rd l).1 ≤ 18446744073709551615 := rdV_bound 10 0 0 l (by omega) rfl (by omega)
def cells64 (l : List Nat) : List Value := l.map fun (n : Nat) => Value.int .u64 (n : Int)
theorem cells64_push (d : List Nat) (n : Nat) : cells64 d ++ [.int .u64 (n : Int)] = cells64 (d ++ [n]) := by simp [cells64]
theorem cells64_get {l : List Nat} {k n : Nat} (h : l[k]? = some n) : (cells64 l)[k]? = some (.int .u64 (n : Int)) := by simp [cells64, h]
def pushRun (rs : List (Nat × Nat)) (n : Nat) : List (Nat × Nat) := match rs.getLast? with
 | some (v, c) => if v = n then rs.dropLast ++ [(v, c + 1)] else rs ++ [(n, 1)]
 | none => [(n, 1)]
def packs (l : List Nat) : List (Nat × Nat) := l.foldl pushRun []
theorem pushRun_nil (n : Nat) : pushRun [] n = [(n, 1)] := rfl
theorem pushRun_same (l : List (Nat × Nat)) (n c : Nat) : pushRun (l ++ [(n, c)]) n = l ++ [(n, c + 1)] := by simp [pushRun]
theorem pushRun_new (l : List (Nat × Nat)) (v c n : Nat) (h : v ≠ n) : pushRun (l ++ [(v, c)]) n = l ++ [(v, c)] ++ [(n, 1)] := by simp [pushRun, h]
theorem packs_next {l : List Nat} {k n : Nat} (h : l[k]? = some n) : packs (l.take (k + 1)) = pushRun (packs (l.take k)) n := by
 rw [List.take_add_one, h]; simp [packs]
theorem runs_cases (rs : List (Nat × Nat)) : rs = [] ∨ ∃ l v c, rs = l ++ [(v, c)] := by
 rcases List.eq_nil_or_concat rs with h | ⟨l, ⟨v, c⟩, h⟩
 ·exact .inl h
 ·exact .inr ⟨l, v, c, by rw [h, List.concat_eq_append]⟩
def RunsIn (m : Nat) (rs : List (Nat × Nat)) : Prop := rs.length ≤ m ∧ ∀ p ∈ rs, 1 ≤ p.2 ∧ p.2 ≤ m
theorem runsIn_push {m : Nat} {rs : List (Nat × Nat)} (h : RunsIn m rs) (n : Nat) : RunsIn (m + 1) (pushRun rs n) := by
 rcases runs_cases rs with rfl | ⟨l, v, c, rfl⟩
 ·rw [pushRun_nil]; refine ⟨by simp, fun p hp => ?_⟩
  simp at hp; subst hp; simp
 ·obtain ⟨h1, h2⟩ := h
  simp only [List.length_append, List.length_cons, List.length_nil] at h1
  have hc := h2 (v, c) (by simp)
  by_cases e : v = n
  ·subst e
   rw [pushRun_same]
   refine ⟨by simp; omega, fun p hp => ?_⟩
   rcases List.mem_append.1 hp with hp | hp
   ·have := h2 p (by simp [hp]); omega
   ·simp at hp; subst hp; simp at hc ⊢; omega
  ·rw [pushRun_new _ _ _ _ e]
   refine ⟨by simp; omega, fun p hp => ?_⟩
   rcases List.mem_append.1 hp with hp | hp
   ·have := h2 p hp; omega
   ·simp at hp; subst hp; simp
theorem packs_in (l : List Nat) : RunsIn l.length (packs l) := by
 suffices h : ∀ (l : List Nat) m rs, RunsIn m rs → RunsIn (m + l.length) (l.foldl pushRun rs) by
  have := h l 0 [] ⟨by simp, fun p hp => by simp at hp⟩
  rwa [Nat.zero_add] at this
 intro l
 induction l with
 | nil => intro m rs h; exact h
 | cons n l ih =>
  intro m rs h
  have := ih (m + 1) _ (runsIn_push h n)
  simp only [List.length_cons, List.foldl_cons]
  rwa [show m + (l.length + 1) = m + 1 + l.length by omega]
theorem Tryz.infoRun : (Tryz.prog.info? 68).map (fun i => (i.zero, i.size, i.bytes)) = some (some (.agg #[.int .u64 0, .int .u64 0]), 2, 16) := by kernel_rfl
set_option maxHeartbeats 1000000 in
theorem runsPack (v : Value) (l : List Nat) (w : World) (h : SeqAt w v (cells64 l)) (hl : l.length ≤ 1099511627776) (hm : ∀ n ∈ l, n < M64) :
  Calls Tryz.prog 35 #[v] w fun e w' => ∃ v', e = .returned v' ∧ w'.ownsRow w.heap.size 68 2 v' (packs l).length (cells2 (packs l)) ∧ Below w.heap.size w w' := by
 have h0 := h
 obtain ⟨A, c, rfl, hc1, hc2, _⟩ := h
 have hcl : (cells64 l).length = l.length := by simp [cells64]
 rw [hcl] at hc1 h0 ⊢
 unfold maxLen at hc2
 have HL := Lib.hid hcl
 clear hcl
 go_enter Tryz.func35, Tryz.ntmps35
 go_wp2
 go_loopw [3, 9] (fun t c wr => ∃ k : Nat, k ≤ l.length ∧ c = .int .i64 k ∧ wr.ownsRow w.heap.size 68 2 t (packs (l.take k)).length (cells2 (packs (l.take k))) ∧ Below w.heap.size w wr)
  (fun _ c _ => l.length - (intOf c).toNat)
 case atStart => exact ⟨0, by omega, rfl, World.ownsRow_nil _ _ _ _, Below.refl _ _⟩
 case round =>
  obtain ⟨k, hk, rfl, ho, hb⟩ := hrel
  by_cases hlt : k < l.length
  ·have hki : (k : Int) < (l.length : Int) := by omega
   have hg : l[k]? = some l[k] := List.getElem?_eq_getElem hlt
   obtain ⟨b, off, rfl, _, hcell⟩ := h0.get hb (cells64_get hg)
   have hnx := packs_next hg
   have hin := packs_in (l.take k)
   rw [List.length_take, Nat.min_eq_left hk] at hin
   have hn := hm _ (List.getElem_mem hlt)
   generalize l[k] = n at *
   generalize packs (l.take k) = rs at *
   unfold M64 at hn
   rcases runs_cases rs with rfl | ⟨d, x, y, rfl⟩
   ·rw [pushRun_nil] at hnx
    have HNX := Lib.hid hnx
    have HO := Lib.hid ho
    have hbs := hb.size
    obtain ⟨A2, cp2, hv2, _⟩ := (SeqS.of_owns ho).form
    rw [hv2] at HO
    rw [hv2]
    ·clear hnx ho hin h0 hg hv2
     go_wp2_with (at_builtin; refine append_oneS wr #[.int .u64 n, .int .u64 0] 2 rfl (.tmp 27) (.tmp 30) 64 rfl w.heap.size 68 _ 16 Tryz.underlying64 Tryz.infoRun rfl (by omega) rfl (by simp [Value.oneCell']) _ _ _ rfl HO.out rfl (by unfold maxLen; simp) (by simp) hbs ?_)
     intro v' w1 ho1 hb1 _
     obtain ⟨g, cap, hv, hg1, hg2, hc3, hc4⟩ := owns_openS ho1 (by omega)
     rw [hv]
     rw [hv] at ho1
     obtain ⟨c1, c2, c3, c4⟩ := own_last (d := []) (x := n) (y := 0) ho1 rfl
     have HS := Lib.hid (c4 1)
     have hbn := (hb.trans hb1).setCell (p := ⟨g, 1, none⟩) hg1 (.int .u64 ((1 : Nat) : Int))
     have HBN := Lib.hid hbn
     clear hv c4 ho1 hbn hb
     simp only [List.length_nil, Nat.zero_mul, Nat.zero_add] at c1 c2 c3
     go_wp2
     go_roundw
     case rel => exact ⟨k + 1, by omega, by go_num, by rw [HNX.out]; exact HS.out, HBN.out⟩
     case measure => simp [intOf]; omega
   ·have HO := Lib.hid ho
    have hbs := hb.size
    have hlen : (d ++ [(x, y)]).length = d.length + 1 := by simp
    rw [hlen] at ho
    obtain ⟨g, cap, hv, hg1, hg2, hc3, hc4⟩ := owns_openS ho (by omega)
    rw [hv] at ho
    rw [hv]
    obtain ⟨c1, c2, c3, c4⟩ := own_last ho rfl
    have hdl := hin.1
    have hy := hin.2 (x, y) (by simp)
    simp only at hy
    rw [hlen] at hdl
    have hli : ((d.length + 1 : Nat) : Int) - 1 = d.length := by omega
    clear hin h0 hg
    by_cases hxn : x = n
    ·subst hxn
     rw [pushRun_same] at hnx
     have HNX := Lib.hid hnx
     have HS := Lib.hid (c4 (y + 1))
     have hbn := hb.setCell (p := ⟨g, d.length * 2 + 1, none⟩) hg1 (.int .u64 ((y + 1 : Nat) : Int))
     have HBN := Lib.hid hbn
     have e1 : ((x : Int) != (x : Int)) = false := by simp
     clear hnx c4 hbn ho hb HO hv hlen
     go_wp2
     go_roundw
     case rel => exact ⟨k + 1, by omega, by go_num, by rw [HNX.out, show (d ++ [(x, y + 1)]).length = d.length + 1 by simp]; exact HS.out, HBN.out⟩
     case measure => simp [intOf]; omega
    ·rw [pushRun_new _ _ _ _ hxn] at hnx
     have HNX := Lib.hid hnx
     have HO2 := Lib.hid ho
     have e1 : ((x : Int) != (n : Int)) = true := by simp; omega
     have hlen2 : (d ++ [(x, y)] ++ [(n, 1)]).length = d.length + 1 + 1 := by simp
     have HLEN2 := Lib.hid hlen2
     clear hnx c4 ho HO hv hlen c2 c3 hlen2
     go_wp2_with (at_builtin; refine append_oneS wr #[.int .u64 n, .int .u64 0] 2 rfl (.tmp 27) (.tmp 30) 64 rfl w.heap.size 68 _ 16 Tryz.underlying64 Tryz.infoRun rfl (by omega) rfl (by simp [Value.oneCell']) _ _ _ rfl HO2.out rfl (by unfold maxLen; omega) (by omega) hbs ?_)
     intro v' w1 ho1 hb1 _
     obtain ⟨g2, cap2, hv, hg3, hg4, hc5, hc6⟩ := owns_openS ho1 (by omega)
     rw [hv]
     rw [hv] at ho1
     have ho2 : w1.ownsRow w.heap.size 68 2 (.slice (some ⟨g2, 0, none⟩) (d.length + 1 + 1) cap2) (d.length + 1 + 1) (cells2 ((d ++ [(x, y)]) ++ [(n, 0)])) := by
      rw [cells2_append (d ++ [(x, y)])]; exact ho1
     obtain ⟨c7, c8, c9, c10⟩ := own_last ho2 (by simp)
     have HS := Lib.hid (c10 1)
     have hbn := (hb.trans hb1).setCell (p := ⟨g2, (d ++ [(x, y)]).length * 2 + 1, none⟩) hg3 (.int .u64 ((1 : Nat) : Int))
     have HBN := Lib.hid hbn
     rw [show (d ++ [(x, y)]).length = d.length + 1 by simp] at c7 c8 c9 HBN HS
     clear hv c10 ho1 ho2 hbn hb hb1 c1
     go_wp2
     go_roundw
     case rel => exact ⟨k + 1, by omega, by go_num, by rw [HNX.out, HLEN2.out]; exact HS.out, HBN.out⟩
     case measure => simp [intOf]; omega
  ·obtain rfl : k = l.length := by omega
   rw [List.take_of_length_le (Nat.le_refl _)] at ho
   go_wp2
   go_ret
   exact ⟨_, rfl, ho, hb⟩
theorem pushRun_last (rs : List (Nat × Nat)) (n : Nat) : ∃ d y, pushRun rs n = d ++ [(n, y)] := by
 rcases runs_cases rs with rfl | ⟨l, v, c, rfl⟩
 ·exact ⟨[], 1, rfl⟩
 ·by_cases e : v = n
  ·subst e; exact ⟨_, _, pushRun_same _ _ _⟩
  ·exact ⟨_, _, pushRun_new _ _ _ _ e⟩
theorem packs_last {l : List Nat} {k n : Nat} (h : l[k]? = some n) : ∃ d y, packs (l.take (k + 1)) = d ++ [(n, y)] := by
 rw [packs_next h]; exact pushRun_last _ _
theorem Tryz.infoRun4 : (Tryz.prog.info? 90).map (fun i => (i.zero, i.size, i.bytes)) = some (some (.agg #[.int .u64 0, .int .u64 0]), 2, 16) := by kernel_rfl
set_option maxHeartbeats 1000000 in
theorem refPack (v : Value) (l : List Nat) (w : World) (h : SeqAt w v (cells64 l)) (hl : l.length ≤ 1099511627776) (hm : ∀ n ∈ l, n < M64) :
  Calls Tryz.prog 46 #[v] w fun e w' => ∃ v', e = .returned v' ∧ w'.ownsRow w.heap.size 90 2 v' (packs l).length (cells2 (packs l)) ∧ Below w.heap.size w w' := by
 have h0 := h
 obtain ⟨A, c, rfl, hc1, hc2, _⟩ := h
 have hcl : (cells64 l).length = l.length := by simp [cells64]
 rw [hcl] at hc1 h0 ⊢
 unfold maxLen at hc2
 clear hcl
 go_enter Tryz.func46, Tryz.ntmps46
 go_wp2
 go_loopw [3, 4] (fun t c wr => ∃ k : Nat, k ≤ l.length ∧ c = .int .i64 k ∧ wr.ownsRow w.heap.size 90 2 t (packs (l.take k)).length (cells2 (packs (l.take k))) ∧ Below w.heap.size w wr)
  (fun _ c _ => l.length - (intOf c).toNat)
 case atStart => exact ⟨0, by omega, rfl, World.ownsRow_nil _ _ _ _, Below.refl _ _⟩
 case round =>
  obtain ⟨k, hk, rfl, ho, hb⟩ := hrel
  by_cases hlt : k < l.length
  ·have hki : (k : Int) < (l.length : Int) := by omega
   have hg : l[k]? = some l[k] := List.getElem?_eq_getElem hlt
   obtain ⟨b, off, rfl, _, hcell⟩ := h0.get hb (cells64_get hg)
   have hnx := packs_next hg
   have hin := packs_in (l.take k)
   rw [List.length_take, Nat.min_eq_left hk] at hin
   have hn := hm _ (List.getElem_mem hlt)
   have hbs := hb.size
   have HO := Lib.hid ho
   rcases Nat.eq_zero_or_pos k with rfl | hk0
   ·have hpe : packs (l.take 0) = [] := by simp [packs]
    rw [hpe, pushRun_nil] at hnx
    rw [hpe] at ho HO
    generalize l[0] = n at *
    unfold M64 at hn
    have HNX := Lib.hid hnx
    obtain ⟨A2, cp2, hv2, _⟩ := (SeqS.of_owns ho).form
    rw [hv2] at HO
    rw [hv2]
    clear hnx ho hin h0 hg hv2 hpe
    rw [Nat.add_zero] at hcell
    go_wp2
    go_quiet (fail)
    go_wp2_with (at_builtin; refine append_oneS _ #[.int .u64 n, .int .u64 1] 2 rfl (.tmp 35) (.tmp 41) 88 rfl w.heap.size 90 _ 16 Tryz.underlying88 Tryz.infoRun4 rfl (by omega) rfl (by simp [Value.oneCell']) _ _ _ rfl HO.out rfl (by unfold maxLen; simp) (by simp) hbs ?_)
    intro v' w1 ho1 hb1 _
    have HS := Lib.hid ho1
    have HBN := Lib.hid ((below_drewN hb _).trans hb1)
    clear ho1 hb1 hb
    go_wp2
    go_roundw
    case rel => exact ⟨1, by omega, by go_num, by rw [show List.take (0 + 1) l = List.take 1 l from rfl] at HNX; rw [HNX.out]; exact HS.out, HBN.out⟩
    case measure => simp [intOf]; omega
   ·obtain ⟨m, rfl⟩ : ∃ m, k = m + 1 := ⟨k - 1, by omega⟩
    have hg1 : l[m]? = some l[m] := List.getElem?_eq_getElem (by omega)
    obtain ⟨b', off', hbo, _, hcell1⟩ := h0.get hb (cells64_get hg1)
    simp only [Option.some.injEq, Addr.mk.injEq, and_true] at hbo
    obtain ⟨rfl, rfl⟩ := hbo
    obtain ⟨d, y, hpl⟩ := packs_last hg1
    rw [hpl] at hnx hin ho HO
    generalize l[m + 1] = n at *
    generalize l[m] = x at *
    unfold M64 at hn
    have hlen : (d ++ [(x, y)]).length = d.length + 1 := by simp
    rw [hlen] at ho
    obtain ⟨g, cap, hv, hgb, hg2, hc3, hc4⟩ := owns_openS ho (by omega)
    rw [hv] at ho
    rw [hv]
    obtain ⟨c1, c2, c3, c4⟩ := own_last ho rfl
    have hdl := hin.1
    have hy := hin.2 (x, y) (by simp)
    simp only at hy
    rw [hlen] at hdl
    have hmi : (m : Int) < (l.length : Int) := by omega
    clear hin h0 hg hg1 hpl
    by_cases hxn : x = n
    ·subst hxn
     rw [pushRun_same] at hnx
     have HNX := Lib.hid hnx
     have HS := Lib.hid (c4 (y + 1))
     have hbn := fun n => (below_drewN hb n).setCell (p := ⟨g, d.length * 2 + 1, none⟩) hgb (.int .u64 ((y + 1 : Nat) : Int))
     have HBN := Lib.hid hbn
     have e1 : ((x : Int) == (x : Int)) = true := by simp
     clear hnx c4 hbn ho hb HO hv hlen
     go_wp2
     go_quiet (fail)
     go_wp2
     go_roundw
     case rel => exact ⟨m + 1 + 1, by omega, by go_num, by rw [HNX.out, show (d ++ [(x, y + 1)]).length = d.length + 1 by simp]; exact HS.out, HBN.out _⟩
     case measure => simp [intOf]; omega
    ·rw [pushRun_new _ _ _ _ hxn] at hnx
     have HNX := Lib.hid hnx
     have HO2 := Lib.hid ho
     have e1 : ((n : Int) == (x : Int)) = false := by simp; omega
     have hlen2 : (d ++ [(x, y)] ++ [(n, 1)]).length = d.length + 1 + 1 := by simp
     have HLEN2 := Lib.hid hlen2
     clear hnx c4 ho HO hv hlen c2 c3 hlen2 c1
     go_wp2
     go_quiet (fail)
     go_wp2_with (at_builtin; refine append_oneS _ #[.int .u64 n, .int .u64 1] 2 rfl (.tmp 35) (.tmp 41) 88 rfl w.heap.size 90 _ 16 Tryz.underlying88 Tryz.infoRun4 rfl (by omega) rfl (by simp [Value.oneCell']) _ _ _ rfl HO2.out rfl (by unfold maxLen; omega) (by omega) hbs ?_)
     intro v' w1 ho1 hb1 _
     have ho2 : w1.ownsRow w.heap.size 90 2 v' (d.length + 1 + 1) (cells2 ((d ++ [(x, y)]) ++ [(n, 1)])) := by
      rw [cells2_append (d ++ [(x, y)])]; exact ho1
     have HS := Lib.hid ho2
     have HBN := Lib.hid ((below_drewN hb _).trans hb1)
     clear ho1 ho2 hb1 hb
     go_wp2
     go_roundw
     case rel => exact ⟨m + 1 + 1, by omega, by go_num, by rw [HNX.out, HLEN2.out]; exact HS.out, HBN.out⟩
     case measure => simp [intOf]; omega
  ·obtain rfl : k = l.length := by omega
   rw [List.take_of_length_le (Nat.le_refl _)] at ho
   go_wp2
   go_ret
   exact ⟨_, rfl, ho, hb⟩
def lastIs (rs : List (Nat × Nat)) (x : Nat) : Bool := match rs.getLast? with
 | some p => decide (p.1 = x)
 | none => false
theorem lastIs_nil (x : Nat) : lastIs [] x = false := rfl
theorem lastIs_snoc (d : List (Nat × Nat)) (a c x : Nat) : lastIs (d ++ [(a, c)]) x = decide (a = x) := by simp [lastIs]
def fitE (bef : List (Nat × Nat)) (x c room : Nat) : Nat := if c = 0 then 3 else if lastIs bef x = true then 3 else if room < c then 4 else 0
def spreads (rs : List (Nat × Nat)) : List Nat := rs.flatMap fun p => List.replicate p.2 p.1
theorem spreads_append (a b : List (Nat × Nat)) : spreads (a ++ b) = spreads a ++ spreads b := by simp [spreads]
theorem spreads_one (x c : Nat) : spreads [(x, c)] = List.replicate c x := by simp [spreads]
theorem spreads_take {rs : List (Nat × Nat)} {k : Nat} {p : Nat × Nat} (h : rs[k]? = some p) : spreads (rs.take (k + 1)) = spreads (rs.take k) ++ List.replicate p.2 p.1 := by
 rw [List.take_add_one, h, spreads_append]; simp [spreads]
theorem runsAgain (v : Value) (rs : List (Nat × Nat)) (x : Nat) (w : World) (h : SeqS w 2 v rs.length (cells2 rs)) :
  Calls Tryz.prog 105 #[v, .int .u64 x] w fun e w' => e = .returned (.bool (lastIs rs x)) ∧ w = w' := by
 rcases runs_cases rs with rfl | ⟨d, a, c, rfl⟩
 ·obtain ⟨A, cp, rfl, _⟩ := h.form
  rw [lastIs_nil]
  clear h
  go_enter Tryz.func105, Tryz.ntmps105
  go_wp2
  go_ret
  exact ⟨rfl, rfl⟩
 ·rw [lastIs_snoc]
  have hl : (d ++ [(a, c)]).length = d.length + 1 := by simp
  rw [hl] at h
  obtain ⟨b, off, cp, rfl, h1, h2, hc⟩ := h.elem (i := d.length) (by omega) (by omega)
  obtain ⟨g1, g2⟩ := cells2_get (l := d ++ [(a, c)]) (i := d.length) (p := (a, c)) (by simp)
  have c1 := hc 0 _ (by omega) g1
  rw [Nat.add_zero] at c1
  unfold maxLen at h2
  have hb : ((a : Int) == (x : Int)) = decide (a = x) := by
   by_cases e : a = x
   ·subst e; simp
   ·rw [decide_eq_false e]; simp; omega
  have HB := Lib.hid hb
  clear hl h hc g1 g2 hb
  go_enter Tryz.func105, Tryz.ntmps105
  go_wp2
  go_ret
  exact ⟨ret_bool HB.out, rfl⟩
theorem runsFits (v : Value) (rs : List (Nat × Nat)) (x c room : Nat) (w : World) (h : SeqS w 2 v rs.length (cells2 rs)) (hc : c < M64) (hr : room < M64) :
  Calls Tryz.prog 106 #[v, .agg #[.int .u64 x, .int .u64 c], .int .u64 room] w fun e w' => e = .returned (.int .i64 (fitE rs x c room)) ∧ Below w.heap.size w w' := by
 have hbel : Below w.heap.size w (w.alloc (.cells #[.int .u64 x, .int .u64 c] 68)) := (Below.refl _ _).alloc (Nat.le_refl _) _
 have ha := fun w' (hb : Below w.heap.size w w') => runsAgain v rs x w' (h.later hb)
 have HA := Lib.hid ha
 unfold M64 at hc hr
 clear ha h
 by_cases h0 : c = 0
 ·subst h0
  have e1 : fitE rs x 0 room = 3 := rfl
  rw [e1]
  clear e1
  go_enter Tryz.func106, Tryz.ntmps106
  go_wp2
  go_ret
  exact ⟨rfl, hbel⟩
 ·have e0 : ((c : Int) == 0) = false := by simp; omega
  cases hla : lastIs rs x
  ·have e1 : fitE rs x c room = if room < c then 4 else 0 := by unfold fitE; rw [if_neg h0, hla]; rfl
   rw [hla] at HA
   by_cases hrc : room < c
   ·rw [if_pos hrc] at e1
    rw [e1]
    have e2 : decide (room < c) = true := by simpa using hrc
    clear e1 hla h0
    go_enter Tryz.func106, Tryz.ntmps106
    go_wp2_with fail
    refine (HA.out _ hbel).mono ?_
    rintro e w' ⟨rfl, rfl⟩
    go_wp2
    go_ret
    exact ⟨rfl, hbel⟩
   ·rw [if_neg hrc] at e1
    rw [e1]
    have e2 : decide (room < c) = false := by simpa using hrc
    clear e1 hla h0
    go_enter Tryz.func106, Tryz.ntmps106
    go_wp2_with fail
    refine (HA.out _ hbel).mono ?_
    rintro e w' ⟨rfl, rfl⟩
    go_wp2
    go_ret
    exact ⟨rfl, hbel⟩
  ·have e1 : fitE rs x c room = 3 := by unfold fitE; rw [if_neg h0, hla]; rfl
   rw [hla] at HA
   rw [e1]
   clear e1 hla h0
   go_enter Tryz.func106, Tryz.ntmps106
   go_wp2_with fail
   refine (HA.out _ hbel).mono ?_
   rintro e w' ⟨rfl, rfl⟩
   go_wp2
   go_ret
   exact ⟨rfl, hbel⟩
set_option maxHeartbeats 1000000 in
theorem runsSpread (v : Value) (rs : List (Nat × Nat)) (w : World) (h : SeqS w 2 v rs.length (cells2 rs)) (hl : (spreads rs).length ≤ 1099511627776) (hm : ∀ p ∈ rs, p.1 < M64 ∧ p.2 < M64) :
  Calls Tryz.prog 92 #[v] w fun e w' => ∃ v', e = .returned v' ∧ w'.ownsRow w.heap.size 34 1 v' (spreads rs).length (cells64 (spreads rs)) ∧ Below w.heap.size w w' := by
 obtain ⟨A, cp, rfl, hc1, hc2, _⟩ := h.form
 unfold maxLen at hc2
 have H := Lib.hid h
 clear h
 go_enter Tryz.func92, Tryz.ntmps92
 go_wp2
 go_loopw [3, 8] (fun t c wr => ∃ k : Nat, k ≤ rs.length ∧ c = .int .i64 k ∧ wr.ownsRow w.heap.size 34 1 t (spreads (rs.take k)).length (cells64 (spreads (rs.take k))) ∧ Below w.heap.size w wr)
  (fun _ c _ => rs.length - (intOf c).toNat)
 case atStart => exact ⟨0, by omega, rfl, World.ownsRow_nil _ _ _ _, Below.refl _ _⟩
 case round =>
  obtain ⟨k, hk, rfl, ho, hb⟩ := hrel
  by_cases hlt : k < rs.length
  ·have hki : (k : Int) < (rs.length : Int) := by omega
   have hg : rs[k]? = some rs[k] := List.getElem?_eq_getElem hlt
   obtain ⟨b, off, cp', hA, _, _, hcell⟩ := (H.out.later hb).elem (i := k) (by omega) (by omega)
   simp only [Value.slice.injEq] at hA
   obtain ⟨rfl, _, rfl⟩ := hA
   obtain ⟨g1, g2⟩ := cells2_get hg
   have c1 := hcell 0 _ (by omega) g1
   have c2 := hcell 1 _ (by omega) g2
   rw [Nat.add_zero] at c1
   have hnx := spreads_take hg
   have hle : (spreads (rs.take k)).length + rs[k].2 ≤ (spreads rs).length := by
    have e2 : rs = rs.take (k + 1) ++ rs.drop (k + 1) := (List.take_append_drop _ _).symm
    have e3 : (spreads rs).length = (spreads (rs.take (k + 1))).length + (spreads (rs.drop (k + 1))).length := by
     conv => lhs; rw [e2, spreads_append]
     simp
    rw [hnx, List.length_append, List.length_replicate] at e3
    omega
   have hpm := hm _ (List.getElem_mem hlt)
   generalize rs[k] = p at *
   obtain ⟨x, c⟩ := p
   simp only at c1 c2 hnx hle hpm
   unfold M64 at hpm
   generalize spreads (rs.take k) = d at *
   have hbs := hb.size
   have HNX := Lib.hid hnx
   clear hnx hcell g1 g2 hg
   have hli := Lies.made wr 68 #[.int .u64 (x : Int), .int .u64 (c : Int)]
   have hoa := ho.alloc (.cells #[.int .u64 (x : Int), .int .u64 (c : Int)] 68)
   have hba := hb.alloc hbs (.cells #[.int .u64 (x : Int), .int .u64 (c : Int)] 68)
   clear ho hb
   go_wp2
   generalize wr.alloc (.cells #[.int .u64 (x : Int), .int .u64 (c : Int)] 68) = wA at *
   generalize wr.heap.size = g at *
   go_loopw [3, 14] (fun t i wq => ∃ j : Nat, j ≤ c ∧ i = .int .u64 j ∧ wq.ownsRow w.heap.size 34 1 t (d.length + j) (cells64 (d ++ List.replicate j x)) ∧ Lies wq g 68 #[.int .u64 (x : Int), .int .u64 (c : Int)] ∧ Below w.heap.size w wq)
    (fun _ i _ => c - (intOf i).toNat)
   case atStart => exact ⟨0, by omega, rfl, by simpa using hoa, hli, hba⟩
   case round =>
    clear hoa hli hba
    obtain ⟨j, hj, rfl, ho, hli, hb⟩ := hrel
    have hbq := hb.size
    by_cases hjc : j < c
    ·have d1 := hli.cell 0
     have d2 := hli.cell 1
     simp at d1 d2
     have hne := own_ne ho hli (by decide)
     have HO := Lib.hid ho
     have HLI := Lib.hid hli
     clear ho hli
     go_wp2_with (at_builtin; refine append_one _ (.int .u64 x) rfl (.tmp 16) (.tmp 19) 46 rfl w.heap.size 34 _ _ Tryz.underlying46 Tryz.infoU64 rfl rfl _ _ _ rfl HO.out rfl (by unfold maxLen; omega) (by omega) hbq ?_)
     intro v' w1 ho1 hb1 hgr
     have hl1 := (HLI.out.alloc (.cells #[Value.int .u64 (x : Int)] 34)).kept (Kept.of_grown hgr) hne
     rw [cells64_push, List.append_assoc, ← List.replicate_succ'] at ho1
     have HO1 := Lib.hid ho1
     have HL1 := Lib.hid hl1
     have HB1 := Lib.hid (hb.trans hb1)
     clear ho1 hl1 hb hb1 hgr
     go_wp2
     go_roundw
     case rel => exact ⟨j + 1, by omega, by go_num, HO1.out, HL1.out, HB1.out⟩
     case measure => simp [intOf]; omega
    ·obtain rfl : j = c := by omega
     rw [← HNX.out, show d.length + j = (spreads (rs.take (k + 1))).length by rw [HNX.out]; simp] at ho
     have HO := Lib.hid ho
     clear ho hli
     go_wp2
     go_roundw
     case rel => exact ⟨k + 1, by omega, by go_num, HO.out, hb⟩
     case measure => simp [intOf]; omega
  ·obtain rfl : k = rs.length := by omega
   rw [List.take_of_length_le (Nat.le_refl _)] at ho
   go_wp2
   go_ret
   exact ⟨_, rfl, ho, hb⟩
theorem seq2_at {w : World} {A : Option Addr} {n c : Nat} {rs : List (Nat × Nat)} (h : SeqS w 2 (.slice A n c) n (cells2 rs)) {k : Nat} {p : Nat × Nat} (hp : rs[k]? = some p) (hk : k < n) :
  ∃ b off, A = some ⟨b, off, none⟩ ∧ w.cell? ⟨b, off + k * 2, none⟩ = some (.int .u64 (p.1 : Int)) ∧ w.cell? ⟨b, off + k * 2 + 1, none⟩ = some (.int .u64 (p.2 : Int)) := by
 obtain ⟨b, off, c', hA, _, _, hc⟩ := h.elem (i := k) hk (by omega)
 simp only [Value.slice.injEq] at hA
 obtain ⟨rfl, _, _⟩ := hA
 obtain ⟨g1, g2⟩ := cells2_get hp
 exact ⟨b, off, rfl, hc 0 _ (by omega) g1, hc 1 _ (by omega) g2⟩
theorem varintPrint (n : Nat) (w : World) (hn : n < M64) : Calls Tryz.prog 36 #[.int .u64 n] w fun e w' => e = .returned (.string (textB (enc n))) ∧ Below w.heap.size w w' := by
 go_enter Tryz.func36, Tryz.ntmps36
 go_wp2_with fail
 refine (varintGrow (.slice none 0 0) [] n w w.heap.size (Nat.le_refl _) (World.ownsRow_nil _ _ _ _) (by simp) hn).mono ?_
 rintro e w1 ⟨v, rfl, ho, hb⟩
 have hcv := convert_owned w1 _ v _ _ rfl ho
 clear ho
 go_wp2
 go_ret
 exact ⟨rfl, hb⟩
def WrAt (w : World) (B g : Nat) (b : ByteArray) : Prop := B ≤ g ∧ ∃ v, Lies w g 45 #[v] ∧ w.ownsRow B 5 1 v b.size (Lib.strCells b)
def wrRows (w : World) (B g : Nat) : Nat → Prop := fun k => B ≤ k ∧ (k = g ∨ ∃ cur, Lies w k 5 cur)
theorem wrRows_of (w : World) {B g : Nat} {v : Value} {n : Nat} {xs : List Value} (hb : B ≤ g) (h : w.ownsRow B 5 1 v n xs) : ∀ k, v.ownBlock = some k → wrRows w B g k := by
 intro k hk
 rcases owns_row h with ⟨rfl, _⟩ | ⟨r, cap, cur, rfl, hr, hl, _⟩
 ·cases hk
 ·obtain rfl : r = k := by simpa [Value.ownBlock] using hk
  exact ⟨hr, .inr ⟨cur, hl⟩⟩
theorem WrAt.kept {S : Nat → Prop} {w w' : World} {B g : Nat} {b : ByteArray} (h : WrAt w B g b) (k : Kept S w w') (h1 : ¬ S g) (h2 : ∀ r cur, Lies w r 5 cur → ¬ S r) : WrAt w' B g b := by
 obtain ⟨hb, v, hl, ho⟩ := h
 exact ⟨hb, v, hl.kept k h1, owns_kept ho k (fun r cur _ hl => h2 r cur hl)⟩
theorem wr_store {w0 w1 : World} {B g : Nat} {v v' : Value} {b b' : ByteArray} (hb : B ≤ g) (hl : Lies w0 g 45 #[v]) (ho : w0.ownsRow B 5 1 v b.size (Lib.strCells b))
  (ho' : w1.ownsRow B 5 1 v' b'.size (Lib.strCells b')) (hg : w0.grownBy w1 v.ownBlock) :
  WrAt (w1.setCell ⟨g, 0, none⟩ v') B g b' ∧ Kept (wrRows w0 B g) w0 (w1.setCell ⟨g, 0, none⟩ v') ∧ Lies w1 g 45 #[v] := by
 have k1 : Kept (fun k => v.ownBlock = some k) w0 w1 := Kept.of_grown hg
 have hne : ¬ (v.ownBlock = some g) := by
  intro hv
  rcases owns_row ho with ⟨rfl, _⟩ | ⟨r, cap, cur, rfl, hr, hl2, _⟩
  ·cases hv
  ·obtain rfl : r = g := by simpa [Value.ownBlock] using hv
   have := (hl2.same hl).1
   simp at this
 have hl1 := hl.kept k1 hne
 refine ⟨⟨hb, v', ?_, owns_put ho' hl1 (by decide) 0 v'⟩, (k1.mono fun k _ hk => wrRows_of w0 hb ho k hk).trans (Kept.put _ g 0 _) (fun i _ (h : i = g) => by subst h; exact ⟨hb, .inl rfl⟩), hl1⟩
 have := hl1.put 0 v'
 simpa using this
theorem octetText (B g : Nat) (b s : ByteArray) (w : World) (h : WrAt w B g b) (hs : b.size + s.size ≤ 140737488355328) : Calls Tryz.prog 17 #[.pointer (some ⟨g, 0, none⟩), .string s] w fun e w' =>
  e = .returned (.tuple #[]) ∧ WrAt w' B g (b ++ s) ∧ Kept (wrRows w B g) w w' := by
 obtain ⟨hb, v, hl, ho⟩ := h
 obtain ⟨i0, hi, hz0, hz1, hz2⟩ := info_parts Tryz.infoU8
 have c0 : w.cell? ⟨g, 0, none⟩ = some v := hl.cell 0
 have hgs := hl.lt
 have HL := Lib.hid hl
 clear hl
 go_enter Tryz.func17, Tryz.ntmps17
 go_wp2_with (first
  | (at_builtin; refine Lib.wpList_append_own_string _ rfl (.tmp 10) (.tmp 11) 43 9 rfl B 5 i0 Tryz.underlying43 Tryz.underlying9 hi hz0 hz1 hz2 v b.size (Lib.strCells b) rfl ho s rfl (by unfold maxLen; omega) hs (by omega) ?_))
 intro v' w1 ho' hgr _
 have ho2 : w1.ownsRow B 5 1 v' (b ++ s).size (Lib.strCells (b ++ s)) := by rw [strCells_append, ByteArray.size_append]; exact ho'
 obtain ⟨r1, r2, r3⟩ := wr_store hb HL.out ho ho2 hgr
 have d0 : w1.cell? ⟨g, 0, none⟩ = some v := r3.cell 0
 have d1 : w1.frozen? ⟨g, 0, none⟩ = false := r3.free 0
 have R1 := Lib.hid r1
 have R2 := Lib.hid r2
 clear r1 r2 r3 c0 hgr ho HL
 rcases owns_row ho' with ⟨rfl, _⟩ | ⟨r, cap, cur, rfl, _⟩
 all_goals
  clear ho' ho2
  go_wp2
  go_end0
  exact ⟨rfl, R1.out, R2.out⟩
theorem octetString (B g : Nat) (b : ByteArray) (w : World) (h : WrAt w B g b) (hs : b.size ≤ maxLen) :
  Calls Tryz.prog 21 #[.pointer (some ⟨g, 0, none⟩)] w fun e w' =>
  e = .returned (.string b) ∧ w = w' := by
 obtain ⟨hb, v, hl, ho⟩ := h
 have c0 : w.cell? ⟨g, 0, none⟩ = some v := hl.cell 0
 clear hl
 rcases owns_row ho with ⟨rfl, h0, _⟩ | ⟨r, cap, cur, rfl, _⟩
 ·have hb0 : b = ByteArray.empty := ByteArray.size_eq_zero_iff.1 h0
  subst hb0
  have hcv := Lib.run_convert_nil_bytes (P := Tryz.prog) w 43 9 5 0 Tryz.underlying43 Tryz.underlying5 Tryz.underlying9
  clear ho h0
  go_enter Tryz.func21, Tryz.ntmps21
  go_wp2
  go_ret
  exact ⟨rfl, rfl⟩
 ·have hcv := Lib.run_convert_whole (P := Tryz.prog) w 43 5 9 Tryz.underlying43 Tryz.underlying5 Tryz.underlying9 r 0 b (fun i hi => by
   rw [Nat.zero_add, ← addr_add]
   exact ho.cells (g := r) rfl i _ (by simp only [Lib.strCells, List.getElem?_map, byte_at b i hi]; rfl)) cap
  clear ho
  go_enter Tryz.func21, Tryz.ntmps21
  go_wp2
  go_ret
  exact ⟨rfl, rfl⟩
theorem WrAt.fresh (w : World) (B : Nat) (hB : B ≤ w.heap.size) : WrAt (w.alloc (.cells #[.slice none 0 0] 45)) B w.heap.size ByteArray.empty :=
 ⟨hB, _, Lies.made _ _ _, World.ownsRow_nil _ _ _ _⟩
section
variable {w w' : World} {B B2 g : Nat} {b : ByteArray}
theorem WrAt.later (h : WrAt w B g b) (hb : Below w.heap.size w w') : WrAt w' B g b := h.kept (Kept.of_below hb) (fun hf => hf) (fun _ _ _ hf => hf)
theorem WrAt.alloc (h : WrAt w B g b) (o : Obj) : WrAt (w.alloc o) B g b := h.later ((Below.refl _ _).alloc (Nat.le_refl _) o)
theorem wr_not {t : TypeId} {cs : Array Value} {k : Nat} (hw : WrAt w B g b) (hl : Lies w k t cs) (h1 : t ≠ 45) (h2 : t ≠ 5) : ¬ wrRows w B g k := by
 rintro ⟨_, h⟩
 obtain ⟨_, v, hlg, _⟩ := hw
 rcases h with rfl | ⟨cur, h⟩
 ·exact h1 (hl.same hlg).1
 ·exact h2 (hl.same h).1
theorem owns_wr {e : TypeId} {sz n : Nat} {v : Value} {xs : List Value} (ho : w.ownsRow B2 e sz v n xs) (hw : WrAt w B g b) (hk : Kept (wrRows w B g) w w') (h1 : e ≠ 45) (h2 : e ≠ 5) : w'.ownsRow B2 e sz v n xs :=
 owns_kept ho hk (fun _ _ _ hl => wr_not hw hl h1 h2)
theorem lies_wr {t : TypeId} {cs : Array Value} {k : Nat} (hl : Lies w k t cs) (hw : WrAt w B g b) (hk : Kept (wrRows w B g) w w') (h1 : t ≠ 45) (h2 : t ≠ 5) : Lies w' k t cs :=
 hl.kept hk (wr_not hw hl h1 h2)
theorem below_wr {a : World} (h : Below B a w) (hk : Kept (wrRows w B g) w w') (hB : B ≤ w.heap.size) : Below B a w' :=
 h.trans (hk.below hB (fun k hk h => by have := h.1; omega))
end
def bodyR (rs : List (Nat × Nat)) : List UInt8 := rs.flatMap fun p => enc p.1 ++ enc (p.2 - 1)
def printR (l : List Nat) : List UInt8 := enc (packs l).length ++ bodyR (packs l)
theorem bodyR_next {rs : List (Nat × Nat)} {k : Nat} {p : Nat × Nat} (h : rs[k]? = some p) : bodyR (rs.take (k + 1)) = bodyR (rs.take k) ++ (enc p.1 ++ enc (p.2 - 1)) := by
 rw [List.take_add_one, h]; simp [bodyR]
theorem bodyR_length (rs : List (Nat × Nat)) : (bodyR rs).length ≤ 20 * rs.length := by
 induction rs with
 | nil => simp [bodyR]
 | cons p rs ih =>
  have h1 := (enc_length p.1).2
  have h2 := (enc_length (p.2 - 1)).2
  simp only [bodyR, List.flatMap_cons, List.length_append, List.length_cons] at *
  omega
theorem packs_mem (l : List Nat) (hm : ∀ n ∈ l, n < M64) : ∀ p ∈ packs l, p.1 < M64 := by
 suffices h : ∀ (l : List Nat) rs, (∀ n ∈ l, n < M64) → (∀ p ∈ rs, p.1 < M64) → ∀ p ∈ l.foldl pushRun rs, p.1 < M64 from h l [] hm (fun p hp => by simp at hp)
 intro l
 induction l with
 | nil => intro rs _ h; exact h
 | cons n l ih =>
  intro rs hm h
  refine ih _ (fun x hx => hm x (by simp [hx])) ?_
  have hn := hm n (by simp)
  intro p hp
  rcases runs_cases rs with rfl | ⟨d, v, c, rfl⟩
  ·rw [pushRun_nil] at hp; simp at hp; subst hp; exact hn
  ·by_cases e : v = n
   ·subst e
    rw [pushRun_same] at hp
    rcases List.mem_append.1 hp with hp | hp
    ·exact h p (by simp [hp])
    ·simp at hp; subst hp; exact hn
   ·rw [pushRun_new _ _ _ _ e] at hp
    rcases List.mem_append.1 hp with hp | hp
    ·exact h p hp
    ·simp at hp; subst hp; exact hn
set_option maxHeartbeats 1000000 in
set_option maxRecDepth 100000 in
theorem runsPrint (v : Value) (l : List Nat) (w : World) (h : SeqAt w v (cells64 l)) (hl : l.length ≤ 1099511627776) (hm : ∀ n ∈ l, n < M64) :
  Calls Tryz.prog 18 #[v] w fun e w' => e = .returned (.string (textB (printR l))) ∧ Below w.heap.size w w' := by
 have hP := fun w' hb => runsPack v l w' (h.later_ hb) hl hm
 have hin := packs_in l
 have hpm := packs_mem l hm
 have HR : Hid (printR l = enc (packs l).length ++ bodyR (packs l)) := rfl
 have HP := Lib.hid hP
 generalize packs l = rs at *
 obtain ⟨hrl, hrc⟩ := hin
 have hrl2 : rs.length ≤ 1099511627776 := by omega
 have hf := WrAt.fresh w w.heap.size (Nat.le_refl _)
 have hb0 : Below w.heap.size w (w.alloc (.cells #[.slice none 0 0] 45)) := (Below.refl _ _).alloc (Nat.le_refl _) _
 have HF := Lib.hid hf
 clear hP h hf
 go_enter Tryz.func18, Tryz.ntmps18
 go_wp2_with fail
 generalize w.alloc (.cells #[.slice none 0 0] 45) = w0 at *
 refine (HP.out w0 hb0).mono ?_
 rintro e w1 ⟨vr, rfl, ho, hb1⟩
 have ho := owns_mono ho hb0.size
 have hw1 := HF.out.later hb1
 have hbel := hb0.trans (hb1.mono hb0.size)
 obtain ⟨A, cp, rfl, hc1, hc2, _⟩ := (SeqS.of_owns ho).form
 unfold maxLen at hc2
 have HO := Lib.hid ho
 have HW := Lib.hid hw1
 clear ho hw1 HF hb0 hb1 HP
 go_wp2_with fail
 refine (varintPrint rs.length w1 (by unfold M64; omega)).mono ?_
 rintro e w2 ⟨rfl, hb2⟩
 have hw2 := HW.out.later hb2
 have ho2 := owns_below HO.out hb2
 have hbel := hbel.trans (hb2.mono hbel.size)
 have he := enc_length rs.length
 have HW := Lib.hid hw2
 have HO := Lib.hid ho2
 clear hw2 ho2 hb2
 go_wp2_with fail
 refine (octetText w.heap.size w.heap.size ByteArray.empty (textB (enc rs.length)) w2 HW.out (by rw [textB_size, show ByteArray.empty.size = 0 from rfl]; omega)).mono ?_
 rintro e w3 ⟨rfl, hw3, hk3⟩
 have ho3 := owns_wr HO.out HW.out hk3 (by decide) (by decide)
 have hbel := below_wr hbel hk3 hbel.size
 rw [show ByteArray.empty = textB [] from rfl, text_append, List.nil_append] at hw3
 clear HW HO hk3
 go_wp2
 go_loopw [16] (fun c wr => ∃ k : Nat, k ≤ rs.length ∧ c = .int .i64 k ∧ WrAt wr w.heap.size w.heap.size (textB (enc rs.length ++ bodyR (rs.take k))) ∧ wr.ownsRow w.heap.size 68 2 (.slice A rs.length cp) rs.length (cells2 rs) ∧ Below w.heap.size w wr)
  (fun c _ => rs.length - (intOf c).toNat)
 case atStart => exact ⟨0, by omega, rfl, by simpa [bodyR] using hw3, ho3, hbel⟩
 case round =>
  clear hw3 ho3 hbel
  obtain ⟨k, hk, rfl, hw, ho, hb⟩ := hrel
  by_cases hlt : k < rs.length
  ·have hki : (k : Int) < (rs.length : Int) := by omega
   have hg : rs[k]? = some rs[k] := List.getElem?_eq_getElem hlt
   obtain ⟨b, off, rfl, c1, c2⟩ := seq2_at (SeqS.of_owns ho) hg hlt
   have hnx := bodyR_next hg
   have hpm := hpm _ (List.getElem_mem hlt)
   have hpc := hrc _ (List.getElem_mem hlt)
   have hbl := bodyR_length (rs.take k)
   rw [List.length_take, Nat.min_eq_left hk] at hbl
   generalize rs[k] = p at *
   obtain ⟨x, c⟩ := p
   simp only at c1 c2 hnx hpm hpc
   have he1 := enc_length x
   have he2 := enc_length (c - 1)
   have hvx := fun w => varintPrint x w hpm
   have hvc := fun w => varintPrint (c - 1) w (by unfold M64; omega)
   rw [show ((c - 1 : Nat) : Int) = (c : Int) - 1 by omega] at hvc
   have HVX := Lib.hid hvx
   have HVC := Lib.hid hvc
   have HNX := Lib.hid hnx
   unfold M64 at hpm
   generalize enc x = ex at *
   generalize enc (c - 1) = ec at *
   generalize hd : enc rs.length ++ bodyR (rs.take k) = d at *
   have hdl : d.length ≤ 10 + 20 * k := by rw [← hd, List.length_append]; omega
   have HD := Lib.hid hd
   have hbs := hb.size
   have hli := Lies.made wr 68 #[.int .u64 (x : Int), .int .u64 (c : Int)]
   have hoa := ho.alloc (.cells #[.int .u64 (x : Int), .int .u64 (c : Int)] 68)
   have hwa := hw.alloc (.cells #[.int .u64 (x : Int), .int .u64 (c : Int)] 68)
   have hba := hb.alloc hbs (.cells #[.int .u64 (x : Int), .int .u64 (c : Int)] 68)
   have hci1 : (1 : Int) ≤ (c : Int) := by omega
   have hci2 : (c : Int) ≤ 1099511627776 := by omega
   clear hvx hvc hnx hd hw ho hb hg hbl
   go_wp2_with fail
   generalize wr.alloc (.cells #[.int .u64 (x : Int), .int .u64 (c : Int)] 68) = wA at *
   generalize wr.heap.size = gA at *
   refine (HVX.out _).mono ?_
   rintro e w4 ⟨rfl, hb4⟩
   have hw4 := hwa.later hb4
   have ho4 := owns_below hoa hb4
   have hl4 := hli.below hb4 hli.lt
   have hbel4 := hba.trans (hb4.mono hba.size)
   have HW := Lib.hid hw4
   have HO := Lib.hid ho4
   have HL := Lib.hid hl4
   clear hwa hoa hli hba hw4 ho4 hl4 hb4
   go_wp2_with fail
   refine (octetText w.heap.size w.heap.size _ (textB ex) w4 HW.out (by rw [textB_size, textB_size]; omega)).mono ?_
   rintro e w5 ⟨rfl, hw5, hk5⟩
   have ho5 := owns_wr HO.out HW.out hk5 (by decide) (by decide)
   have hl5 := lies_wr HL.out HW.out hk5 (by decide) (by decide)
   have hbel5 := below_wr hbel4 hk5 hbel4.size
   rw [text_append] at hw5
   have d2 := hl5.cell 1
   simp at d2
   clear HW HO HL hk5 hbel4
   have HW := Lib.hid hw5
   have HO := Lib.hid ho5
   clear hw5 ho5 hl5
   go_wp2_with fail
   refine (HVC.out _).mono ?_
   rintro e w6 ⟨rfl, hb6⟩
   have hw6 := HW.out.later hb6
   have ho6 := owns_below HO.out hb6
   have hbel6 := hbel5.trans (hb6.mono hbel5.size)
   clear HW HO d2 hb6 hbel5
   have HW := Lib.hid hw6
   have HO := Lib.hid ho6
   clear hw6 ho6
   go_wp2_with fail
   refine (octetText w.heap.size w.heap.size _ (textB ec) w6 HW.out (by rw [textB_size, textB_size, List.length_append]; omega)).mono ?_
   rintro e w7 ⟨rfl, hw7, hk7⟩
   have ho7 := owns_wr HO.out HW.out hk7 (by decide) (by decide)
   have hbel7 := below_wr hbel6 hk7 hbel6.size
   rw [text_append, ← HD.out, List.append_assoc, List.append_assoc, ← HNX.out] at hw7
   clear HW HO hk7 hbel6
   have HW := Lib.hid hw7
   have HO := Lib.hid ho7
   clear hw7 ho7
   go_wp2
   go_roundw
   case rel => exact ⟨k + 1, by omega, by go_num, HW.out, HO.out, hbel7⟩
   case measure => simp [intOf]; omega
  ·obtain rfl : k = rs.length := by omega
   rw [List.take_of_length_le (Nat.le_refl _), ← HR.out] at hw
   have HW := Lib.hid hw
   have hbl := bodyR_length rs
   have hsz : (textB (printR l)).size ≤ maxLen := by rw [textB_size, HR.out, List.length_append]; unfold maxLen; omega
   clear hw ho hbl
   go_wp2_with fail
   refine (octetString w.heap.size w.heap.size _ wr HW.out hsz).mono ?_
   rintro e w' ⟨rfl, rfl⟩
   go_wp2
   go_ret
   exact ⟨rfl, hb⟩
def zig (n : Int) : Nat := if 0 ≤ n then (2 * n).toNat else (-2 * n - 1).toNat
def zag (u : Nat) : Int := if u % 2 = 0 then ((u / 2 : Nat) : Int) else -((u / 2 : Nat) : Int) - 1
theorem zig_zag (u : Nat) : zig (zag u) = u := by unfold zag zig; split <;> split <;> omega
theorem zig_lt (n : Int) (h1 : -9223372036854775808 ≤ n) (h2 : n ≤ 9223372036854775807) : zig n < M64 := by unfold zig M64; split <;> omega
theorem zag_in (u : Nat) (h : u < M64) : -9223372036854775808 ≤ zag u ∧ zag u ≤ 9223372036854775807 := by unfold M64 at h; unfold zag; split <;> omega
theorem xor_ones (a : Nat) (ha : a < 18446744073709551616) : a ^^^ 18446744073709551615 = 18446744073709551615 - a := by
 have h := Nat.eq_of_testBit_eq (x := a ^^^ (2 ^ 64 - 1)) (y := 2 ^ 64 - (a + 1)) (by
  intro i
  rw [Nat.testBit_xor, Nat.testBit_two_pow_sub_one, Nat.testBit_two_pow_sub_succ (by exact ha)]
  by_cases hi : i < 64
  ·simp [hi]
  ·have : a.testBit i = false := Nat.testBit_lt_two_pow (Nat.lt_of_lt_of_le ha (Nat.pow_le_pow_right (n := 2) (by decide) (by omega : 64 ≤ i)))
   simp [hi, this])
 have e : (2 : Nat) ^ 64 = 18446744073709551616 := by decide +kernel
 rw [e] at h
 rw [show (18446744073709551615 : Nat) = 18446744073709551616 - 1 from rfl, h]
 omega
theorem xor_i64_comm (a b : Int) : bits .xor .i64 a b = bits .xor .i64 b a := by
 show IntKind.i64.wrap ((BitVec.ofInt 64 a ^^^ BitVec.ofInt 64 b).toNat : Int) = IntKind.i64.wrap ((BitVec.ofInt 64 b ^^^ BitVec.ofInt 64 a).toNat : Int)
 rw [BitVec.xor_comm]
theorem xor_i64_zero (a : Nat) (h : a < 9223372036854775808) : bits .xor .i64 (a : Int) 0 = a := by
 show IntKind.i64.wrap ((BitVec.ofInt 64 a ^^^ BitVec.ofInt 64 0).toNat : Int) = a
 have e0 : BitVec.ofInt 64 0 = 0#64 := rfl
 rw [e0, BitVec.xor_zero, BitVec.ofInt_natCast, BitVec.toNat_ofNat, IntKind.wrap_i64]
 omega
theorem zig_bits (n : Int) (h1 : -9223372036854775808 ≤ n) (h2 : n ≤ 9223372036854775807) :
  bits .xor .u64 (IntKind.u64.wrap (IntKind.u64.wrap n * 2)) (IntKind.u64.wrap (n / 9223372036854775808)) = (zig n : Int) := by
 unfold zig
 by_cases h : 0 ≤ n
 ·obtain ⟨m, rfl⟩ := Int.eq_ofNat_of_zero_le h
  rw [if_pos h, IntKind.wrap_u64, IntKind.wrap_u64, IntKind.wrap_u64]
  have e1 : ((m : Int) % 18446744073709551616 * 2) % 18446744073709551616 = ((2 * m : Nat) : Int) := by omega
  have e2 : ((m : Int) / 9223372036854775808) % 18446744073709551616 = ((0 : Nat) : Int) := by omega
  rw [e1, e2, bits_xor_u64_nat _ _ (by omega) (by decide), Nat.xor_zero]
  omega
 ·obtain ⟨m, hm⟩ := Int.eq_ofNat_of_zero_le (by omega : 0 ≤ -n)
  have hn : n = -(m : Int) := by omega
  subst hn
  rw [if_neg h, IntKind.wrap_u64, IntKind.wrap_u64, IntKind.wrap_u64]
  have e1 : (-(m : Int) % 18446744073709551616 * 2) % 18446744073709551616 = ((18446744073709551616 - 2 * m : Nat) : Int) := by omega
  have e2 : (-(m : Int) / 9223372036854775808) % 18446744073709551616 = ((18446744073709551615 : Nat) : Int) := by omega
  rw [e1, e2, bits_xor_u64_nat _ _ (by omega) (by decide), xor_ones _ (by omega)]
  omega
theorem zag_bits (n : Nat) (h : n < M64) : bits .xor .i64 ((n : Int) / 2) (wrap64 (-wrap64 (bits .and .u64 (n : Int) 1))) = zag n := by
 have hn : n < 18446744073709551616 := h
 have e0 : bits .and .u64 (n : Int) 1 = ((n % 2 : Nat) : Int) := by
  have := bits_and_u64_nat n 1 hn (by decide)
  rw [Nat.and_one_is_mod] at this
  exact this
 rw [e0]
 unfold zag
 have e1 : ((n : Int) / 2) = ((n / 2 : Nat) : Int) := by omega
 rw [e1]
 by_cases h2 : n % 2 = 0
 ·rw [if_pos h2, h2]
  have e2 : wrap64 (-wrap64 ((0 : Nat) : Int)) = 0 := by unfold wrap64; omega
  rw [e2, xor_i64_zero _ (by omega)]
 ·rw [if_neg h2, show n % 2 = 1 by omega]
  have e2 : wrap64 (-wrap64 ((1 : Nat) : Int)) = -1 := by unfold wrap64; omega
  rw [e2, xor_i64_comm, i64_not _ (by omega)]
  omega
theorem deltaZig (n : Int) (w : World) (h1 : -9223372036854775808 ≤ n) (h2 : n ≤ 9223372036854775807) : Calls Tryz.prog 107 #[.int .i64 n] w fun e w' => e = .returned (.int .u64 (zig n)) ∧ w = w' := by
 have hz := Lib.hid (zig_bits n h1 h2)
 go_enter Tryz.func107, Tryz.ntmps107
 go_wp2
 go_ret
 exact ⟨ret_int hz.out, rfl⟩
theorem deltaZag (n : Nat) (w : World) (h : n < M64) : Calls Tryz.prog 108 #[.int .u64 n] w fun e w' => e = .returned (.int .i64 (zag n)) ∧ w = w' := by
 have hz := Lib.hid (zag_bits n h)
 have h2 : (n : Int) ≤ 18446744073709551615 := by unfold M64 at h; omega
 go_enter Tryz.func108, Tryz.ntmps108
 go_wp2
 go_ret
 exact ⟨ret_int hz.out, rfl⟩
def sgn (x : Nat) : Int := if x < 9223372036854775808 then x else (x : Int) - 18446744073709551616
def deltaOf (last n : Nat) : Nat := zig (sgn ((n + (M64 - last)) % M64))
def deltas : Nat → List Nat → List Nat
 | _, [] => []
 | last, n :: l => deltaOf last n :: deltas n l
def addZ (last u : Nat) : Nat := (((last : Int) + zag u) % 18446744073709551616).toNat
def sums : Nat → List Nat → List Nat
 | _, [] => []
 | last, u :: l => addZ last u :: sums (addZ last u) l
theorem sgn_in (x : Nat) (h : x < M64) : -9223372036854775808 ≤ sgn x ∧ sgn x ≤ 9223372036854775807 := by unfold M64 at h; unfold sgn; split <;> omega
theorem deltaOf_lt (a b : Nat) : deltaOf a b < M64 := by
 unfold deltaOf
 have := sgn_in _ (Nat.mod_lt (b + (M64 - a)) (by decide : M64 > 0))
 exact zig_lt _ this.1 this.2
theorem addZ_lt (a b : Nat) : addZ a b < M64 := by unfold addZ M64; omega
theorem delta_addZ (a u : Nat) (ha : a < M64) (hu : u < M64) : deltaOf a (addZ a u) = u := by
 have hz := zag_in u hu
 unfold deltaOf addZ
 have : sgn (((((a : Int) + zag u) % 18446744073709551616).toNat + (M64 - a)) % M64) = zag u := by
  unfold M64 at *
  unfold sgn
  split <;> omega
 rw [this, zig_zag]
theorem deltas_sums (l : List Nat) (hl : ∀ n ∈ l, n < M64) : ∀ last, last < M64 → deltas last (sums last l) = l := by
 induction l with
 | nil => intro _ _; rfl
 | cons n l ih =>
  intro last h
  have hn := hl n (by simp)
  rw [sums, deltas, delta_addZ _ _ h hn, ih (fun m hm => hl m (by simp [hm])) _ (addZ_lt _ _)]
theorem deltas_length (l : List Nat) (a : Nat) : (deltas a l).length = l.length := by
 induction l generalizing a with
 | nil => rfl
 | cons n l ih => simp [deltas, ih]
theorem sums_length (l : List Nat) (a : Nat) : (sums a l).length = l.length := by
 induction l generalizing a with
 | nil => rfl
 | cons n l ih => simp [sums, ih]
theorem deltas_lt (l : List Nat) (a : Nat) : ∀ n ∈ deltas a l, n < M64 := by
 induction l generalizing a with
 | nil => simp [deltas]
 | cons n l ih => intro m hm; simp only [deltas, List.mem_cons] at hm; rcases hm with rfl | hm; exact deltaOf_lt _ _; exact ih _ _ hm
theorem sums_lt (l : List Nat) (a : Nat) : ∀ n ∈ sums a l, n < M64 := by
 induction l generalizing a with
 | nil => simp [sums]
 | cons n l ih => intro m hm; simp only [sums, List.mem_cons] at hm; rcases hm with rfl | hm; exact addZ_lt _ _; exact ih _ _ hm
set_option maxHeartbeats 1000000 in
theorem refPrint (n : Nat) (w : World) (hn : n < M64) :
  Calls Tryz.prog 47 #[.int .u64 n] w fun e w' => e = .returned (.string (textB (enc n))) ∧ Below w.heap.size w w' := by
 have hn2 : n ≤ 18446744073709551615 := by unfold M64 at hn; omega
 go_enter Tryz.func47, Tryz.ntmps47
 go_wp2
 have ho0 := World.ownsRow_made (base := w.heap.size) (e := 5) (size := 1) w #[] 0 (Nat.le_refl _) (by unfold maxLen; omega) rfl
 have hb0 := (Below.refl w.heap.size w).alloc (Nat.le_refl _) (.cells #[] 5)
 go_loopw [0, 3] (fun i t wr => ∃ (f m : Nat) (d : List UInt8), i = .int .u64 m ∧ m ≤ 18446744073709551615 ∧ f ≤ 9 ∧ Hid (m < 128 ^ (f + 1)) ∧ Hid (d ++ leb f m = [] ++ enc n) ∧ d.length + (f + 1) ≤ 10 ∧ wr.ownsRow w.heap.size 5 1 t d.length (cellsB d) ∧ Below w.heap.size w wr)
  (fun i _ _ => (intOf i).toNat)
 case atStart => exact ⟨9, n, [], rfl, hn2, by omega, Nat.lt_of_lt_of_le hn m64_lt, rfl, by simp, ho0, hb0⟩
 case round =>
  clear ho0 hb0
  obtain ⟨f, m, d, rfl, hm, hf, hp, hd, hdl, ho, hb⟩ := hrel
  have hBr : w.heap.size ≤ wr.heap.size := hb.size
  by_cases h : m < 128
  ·have e0 : decide ((127 : Int) < (m : Int)) = false := by simp; omega
   have hx := last_byte m h
   have hg := Lib.hid (grow_done hd.out h)
   generalize UInt8.ofNat m = b at *
   have HX := Lib.hid hx
   clear hx
   have hcv : ∀ (w1 : World) (v : Value), w1.ownsRow w.heap.size 5 1 v (d.length + 1) (cellsB d ++ [.int .u8 (b.toNat : Int)]) → (convert 43 9 v).run Tryz.prog w1 = .ok (.string (textB (d ++ [b]))) w1 := by
    intro w1 v h
    rw [cellsB_push] at h
    exact convert_owned w1 _ v _ _ (by simp) h
   have HCV := Lib.hid hcv
   clear hcv
   go_wp2_with (at_builtin; rw [HX.out]; refine append_one wr (.int .u8 b.toNat) rfl (.tmp 16) (.tmp 19) 43 rfl w.heap.size 5 _ _ Tryz.underlying43 Tryz.infoU8 rfl rfl _ _ _ rfl ho rfl (by unfold maxLen; omega) (by omega) hBr ?_; intro v' w1 hown1 hb1 _; have hcv1 := HCV.out w1 v' hown1; clear hown1)
   go_ret
   exact ⟨ret_text (by rw [hg.out]; rfl), hb.trans hb1⟩
  ·have e0 : decide ((127 : Int) < (m : Int)) = true := by simp; omega
   obtain ⟨f', rfl, hd', hp'⟩ := grow_step hd.out hp.out h
   have HD := Lib.hid hd'
   have HP := Lib.hid hp'
   have hx : (m : Int) % 128 + 128 = ((UInt8.ofNat (m % 128 + 128)).toNat : Int) := by rw [UInt8.toNat_ofNat']; omega
   clear hd hp hd' hp'
   generalize UInt8.ofNat (m % 128 + 128) = b at *
   go_wp2_with (at_builtin; refine append_one wr (.int .u8 b.toNat) rfl (.tmp 7) (.tmp 12) 43 rfl w.heap.size 5 _ _ Tryz.underlying43 Tryz.infoU8 rfl rfl _ _ _ rfl ho rfl (by unfold maxLen; omega) (by omega) hBr ?_; intro v' w1 hown1 hb1 _)
   rw [cellsB_push] at hown1
   go_roundw
   case rel => exact ⟨f', m / 128, d ++ [b], by go_num, by omega, by omega, HP, HD, by rw [List.length_append]; simp; omega, by rw [List.length_append]; exact hown1, hb.trans hb1⟩
   case measure => simp [intOf]; omega
set_option maxHeartbeats 1000000 in
theorem varintPrintList (v : Value) (xs : List Nat) (w : World) (h : SeqAt w v (cells64 xs)) (hx : ∀ n ∈ xs, n < M64) (hl : xs.length ≤ 1099511627776) :
  Calls Tryz.prog 95 #[v] w fun e w' => e = .returned (.string (textB (encList xs))) ∧ Below w.heap.size w w' := by
 have hh := h
 obtain ⟨A, c, rfl, _, hc2, _⟩ := hh
 have hcl : (cells64 xs).length = xs.length := by simp [cells64]
 rw [hcl] at *
 unfold maxLen at hc2
 have H := Lib.hid h
 have HX := Lib.hid hx
 clear h hx hcl
 go_enter Tryz.func95, Tryz.ntmps95
 go_wp2_with fail
 refine (varintGrow (.slice none 0 0) [] xs.length w w.heap.size (Nat.le_refl _) (World.ownsRow_nil _ _ _ _) (by simp) (by unfold M64; omega)).mono ?_
 rintro e w1 ⟨v1, rfl, ho1, hb1⟩
 rw [List.nil_append] at ho1
 have hel := enc_length xs.length
 go_wp2_with fail
 go_loopw [3, 12] (fun t i wr => ∃ k : Nat, k ≤ xs.length ∧ i = .int .i64 k ∧ wr.ownsRow w.heap.size 5 1 t (enc xs.length ++ encs (xs.take k)).length (cellsB (enc xs.length ++ encs (xs.take k))) ∧ Below w.heap.size w wr)
  (fun _ i _ => xs.length - (intOf i).toNat)
 case atStart => exact ⟨0, by omega, rfl, by simpa [encs] using ho1, hb1⟩
 case round =>
  clear ho1 hb1
  obtain ⟨k, hk, rfl, ho, hb⟩ := hrel
  by_cases hlt : k < xs.length
  ·have hki : (k : Int) < (xs.length : Int) := by omega
   obtain ⟨n, hn⟩ : ∃ n, xs[k]? = some n := ⟨xs[k], List.getElem?_eq_getElem hlt⟩
   have hn2 := HX.out n (List.mem_of_getElem? hn)
   obtain ⟨b, off, rfl, hbl, hc⟩ := H.out.get hb (cells64_get hn)
   have HN := Lib.hid (encs_next hn)
   have hle := encs_length (xs.take k)
   rw [List.length_take, Nat.min_eq_left hk] at hle
   clear hn
   go_wp2_with fail
   refine (varintGrow _ _ n wr w.heap.size hb.size ho (by rw [List.length_append]; omega) hn2).mono ?_
   rintro e w2 ⟨v2, rfl, ho2, hb2⟩
   rw [List.append_assoc, HN.out] at ho2
   go_wp2
   go_roundw
   case rel => exact ⟨k + 1, by omega, by go_num, ho2, hb.trans hb2⟩
   case measure => simp [intOf]; omega
  ·obtain rfl : k = xs.length := by omega
   rw [List.take_length] at ho
   have hcv := convert_owned wr _ _ _ _ rfl ho
   clear ho
   go_wp2
   go_ret
   exact ⟨rfl, hb⟩
set_option maxHeartbeats 1000000 in
theorem refPrintList (v : Value) (xs : List Nat) (w : World) (h : SeqAt w v (cells64 xs)) (hx : ∀ n ∈ xs, n < M64) (hl : xs.length ≤ 1099511627776) :
  Calls Tryz.prog 48 #[v] w fun e w' => e = .returned (.string (textB (encList xs))) ∧ Below w.heap.size w w' := by
 have hh := h
 obtain ⟨A, c, rfl, _, hc2, _⟩ := hh
 have hcl : (cells64 xs).length = xs.length := by simp [cells64]
 rw [hcl] at *
 unfold maxLen at hc2
 have H := Lib.hid h
 have HX := Lib.hid hx
 clear h hx hcl
 go_enter Tryz.func48, Tryz.ntmps48
 go_wp2_with fail
 refine (refPrint xs.length w (by unfold M64; omega)).mono ?_
 rintro e w1 ⟨rfl, hb1⟩
 have hel := enc_length xs.length
 go_wp2_with fail
 go_loopw [3, 4] (fun t i wr => ∃ k : Nat, k ≤ xs.length ∧ i = .int .i64 k ∧ t = .string (textB (enc xs.length ++ encs (xs.take k))) ∧ Below w.heap.size w wr)
  (fun _ i _ => xs.length - (intOf i).toNat)
 case atStart => exact ⟨0, by omega, rfl, by simp [encs], hb1⟩
 case round =>
  clear hb1
  obtain ⟨k, hk, rfl, rfl, hb⟩ := hrel
  by_cases hlt : k < xs.length
  ·have hki : (k : Int) < (xs.length : Int) := by omega
   obtain ⟨n, hn⟩ : ∃ n, xs[k]? = some n := ⟨xs[k], List.getElem?_eq_getElem hlt⟩
   have hn2 := HX.out n (List.mem_of_getElem? hn)
   obtain ⟨b, off, rfl, hbl, hc⟩ := H.out.get hb (cells64_get hn)
   have HN := Lib.hid (encs_next hn)
   have hle := encs_length (xs.take k)
   rw [List.length_take, Nat.min_eq_left hk] at hle
   have hnl := enc_length n
   have hadd : ∀ W : World, (Op.stringOp .add (textB (enc xs.length ++ encs (xs.take k))) (textB (enc n))).run Tryz.prog W = .ok (.string (textB (enc xs.length ++ encs (xs.take (k + 1))))) W := fun W => by
    rw [run_string_add_sum W _ _ (by rw [textB_size, textB_size, List.length_append]; omega), text_append, List.append_assoc, HN.out]
   clear hn
   go_wp2_with fail
   refine (refPrint n wr hn2).mono ?_
   rintro e w2 ⟨rfl, hb2⟩
   go_wp2
   go_roundw
   case rel => exact ⟨k + 1, by omega, by go_num, rfl, then_ hb hb2⟩
   case measure => simp [intOf]; omega
  ·obtain rfl : k = xs.length := by omega
   rw [List.take_length]
   go_wp2
   go_ret
   exact ⟨rfl, hb⟩
theorem deltas_get (l : List Nat) : ∀ (a k n : Nat), l[k]? = some n → (deltas a l)[k]? = some (deltaOf ((a :: l).getD k 0) n) := by
 induction l with
 | nil => intro a k n h; simp at h
 | cons m l ih =>
  intro a k n h
  cases k with
  | zero => simp at h; subst h; simp [deltas]
  | succ k =>
   rw [List.getElem?_cons_succ] at h
   have := ih m k n h
   rw [deltas, List.getElem?_cons_succ, this]
   simp
theorem sums_get (l : List Nat) : ∀ (a k n : Nat), l[k]? = some n → (sums a l)[k]? = some (addZ ((a :: sums a l).getD k 0) n) := by
 induction l with
 | nil => intro a k n h; simp at h
 | cons m l ih =>
  intro a k n h
  cases k with
  | zero => simp at h; subst h; simp [sums]
  | succ k =>
   rw [List.getElem?_cons_succ] at h
   have := ih (addZ a m) k n h
   rw [sums, List.getElem?_cons_succ, this]
   simp
theorem state_lt {l : List Nat} (hl : ∀ n ∈ l, n < M64) (k : Nat) : ((0 : Nat) :: l).getD k 0 < M64 := by
 rw [List.getD_eq_getElem?_getD]
 cases k with
 | zero => simp [M64]
 | succ k =>
  rw [List.getElem?_cons_succ]
  cases h : l[k]? with
  | none => simp [M64]
  | some n => exact hl n (List.mem_of_getElem? h)
theorem state_next {l : List Nat} {k n : Nat} (h : l[k]? = some n) : ((0 : Nat) :: l).getD (k + 1) 0 = n := by simp [List.getD_eq_getElem?_getD, h]
theorem take_next {l : List Nat} {k n : Nat} (h : l[k]? = some n) : cells64 (l.take k) ++ [.int .u64 (n : Int)] = cells64 (l.take (k + 1)) := by
 rw [List.take_add_one, h]; simp [cells64]
theorem wrap_sgn (a b : Nat) (ha : a < M64) (hb : b < M64) : wrap64 (IntKind.u64.wrap ((b : Int) - a)) = sgn ((b + (M64 - a)) % M64) := by
 unfold M64 at *
 rw [IntKind.wrap_u64]
 unfold wrap64 sgn
 split <;> omega
theorem wrap_addZ (a u : Nat) (ha : a < M64) (hu : u < M64) : IntKind.u64.wrap ((a : Int) + IntKind.u64.wrap (zag u)) = (addZ a u : Int) := by
 rw [IntKind.wrap_u64, IntKind.wrap_u64]
 unfold addZ
 omega
set_option maxHeartbeats 1000000 in
theorem deltaDeltas (v : Value) (xs : List Nat) (w : World) (h : SeqAt w v (cells64 xs)) (hx : ∀ n ∈ xs, n < M64) (hl : xs.length ≤ 1099511627776) :
  Calls Tryz.prog 96 #[v] w fun e w' => ∃ v', e = .returned v' ∧ w'.ownsRow w.heap.size 34 1 v' xs.length (cells64 (deltas 0 xs)) ∧ Below w.heap.size w w' := by
 obtain ⟨i0, hi, hz0, hz1, hz2⟩ := info_parts Tryz.infoU64
 have hh := h
 obtain ⟨A, c, rfl, _, hc2, _⟩ := hh
 have hcl : (cells64 xs).length = xs.length := by simp [cells64]
 rw [hcl] at *
 unfold maxLen at hc2
 have H := Lib.hid h
 have HX := Lib.hid hx
 clear h hx hcl
 go_enter Tryz.func96, Tryz.ntmps96
 go_wp2_with (at_make; refine wpList_make_full _ rfl _ _ 46 rfl w.heap.size 34 i0 (.int .u64 0) 1 Tryz.underlying46 hi hz0 hz1 .i64 .i64 _ _ xs.length rfl rfl rfl rfl (by rw [hz2]; omega) (by unfold maxLen; omega) (Nat.le_refl _) ?_; intro w1 ho1 hg1)
 rw [zeros_made (.int .u64 0) rfl] at ho1
 have hb1 : Below w.heap.size w w1 := (Below.refl _ _).grown hg1 (Nat.le_refl _) (fun _ h => by cases h)
 clear hg1
 go_wp2_with fail
 go_loopw [4, 12] (fun t i wr => ∃ k : Nat, k ≤ xs.length ∧ i = .int .i64 k ∧ t = .int .u64 (((0 : Nat) :: xs).getD k 0) ∧ wr.ownsRow w.heap.size 34 1 (.slice (some ⟨w.heap.size, 0, none⟩) xs.length xs.length) xs.length (cells64 ((deltas 0 xs).take k) ++ List.replicate (xs.length - k) (.int .u64 0)) ∧ Below w.heap.size w wr)
  (fun _ i _ => xs.length - (intOf i).toNat)
 case atStart => exact ⟨0, by omega, rfl, rfl, by simpa [cells64] using ho1, hb1⟩
 case round =>
  clear ho1 hb1
  obtain ⟨k, hk, rfl, rfl, ho, hb⟩ := hrel
  by_cases hlt : k < xs.length
  ·have hki : (k : Int) < (xs.length : Int) := by omega
   obtain ⟨n, hn⟩ : ∃ n, xs[k]? = some n := ⟨xs[k], List.getElem?_eq_getElem hlt⟩
   have hn2 := HX.out n (List.mem_of_getElem? hn)
   have hn3 : n ≤ 18446744073709551615 := by unfold M64 at hn2; omega
   have hs2 := state_lt HX.out k
   have hs3 := Lib.hid (state_next hn)
   obtain ⟨b, off, rfl, hbl, hc⟩ := H.out.get hb (cells64_get hn)
   have hd := deltas_get xs 0 k n hn
   have HD := Lib.hid (take_next hd)
   have HW := Lib.hid (wrap_sgn _ n hs2 hn2)
   generalize ((0 : Nat) :: xs).getD k 0 = L at *
   have hL : L ≤ 18446744073709551615 := by unfold M64 at hs2; omega
   have hsg := sgn_in _ (Nat.mod_lt (n + (M64 - L)) (by decide : M64 > 0))
   have hrep : xs.length - k = xs.length - (k + 1) + 1 := by omega
   have hAl : (cells64 ((deltas 0 xs).take k)).length = k := by
    have := deltas_length xs 0
    simp [cells64]; omega
   have hcell : wr.cell? ⟨w.heap.size, k, none⟩ = some (.int .u64 0) := owns_cell ho (by
    rw [List.getElem?_append_right (by omega), hAl, Nat.sub_self, hrep, List.replicate_succ]; rfl)
   have hfree : wr.frozen? ⟨w.heap.size, k, none⟩ = false := owns_free ho hlt
   have hset := owns_set (u := .int .u64 (deltaOf L n)) ho hlt
   rw [hrep, set_next _ _ _ _ _ hAl, HD.out] at hset
   have HS := Lib.hid hset
   clear hn hset hrep hAl hd
   go_wp2_with fail
   rw [HW.out]
   refine (deltaZig _ wr hsg.1 hsg.2).mono ?_
   rintro e w' ⟨rfl, rfl⟩
   rw [show zig (sgn ((n + (M64 - L)) % M64)) = deltaOf L n from rfl]
   go_wp2
   go_roundw
   case rel => exact ⟨k + 1, by omega, by go_num, by rw [hs3.out], HS.out, hb.setCell (p := ⟨w.heap.size, k, none⟩) (Nat.le_refl _) _⟩
   case measure => simp [intOf]; omega
  ·obtain rfl : k = xs.length := by omega
   rw [Nat.sub_self, List.replicate_zero, List.append_nil, List.take_of_length_le (by rw [deltas_length]; exact Nat.le_refl _)] at ho
   go_wp2
   go_ret
   exact ⟨_, rfl, ho, hb⟩
set_option maxHeartbeats 1000000 in
theorem deltaSums (v : Value) (xs : List Nat) (w : World) (h : SeqAt w v (cells64 xs)) (hx : ∀ n ∈ xs, n < M64) (hl : xs.length ≤ 1099511627776) :
  Calls Tryz.prog 98 #[v] w fun e w' => ∃ v', e = .returned v' ∧ w'.ownsRow w.heap.size 34 1 v' xs.length (cells64 (sums 0 xs)) ∧ Below w.heap.size w w' := by
 obtain ⟨i0, hi, hz0, hz1, hz2⟩ := info_parts Tryz.infoU64
 have hh := h
 obtain ⟨A, c, rfl, _, hc2, _⟩ := hh
 have hcl : (cells64 xs).length = xs.length := by simp [cells64]
 rw [hcl] at *
 unfold maxLen at hc2
 have H := Lib.hid h
 have HX := Lib.hid hx
 clear h hx hcl
 go_enter Tryz.func98, Tryz.ntmps98
 go_wp2_with (at_make; refine wpList_make_full _ rfl _ _ 46 rfl w.heap.size 34 i0 (.int .u64 0) 1 Tryz.underlying46 hi hz0 hz1 .i64 .i64 _ _ xs.length rfl rfl rfl rfl (by rw [hz2]; omega) (by unfold maxLen; omega) (Nat.le_refl _) ?_; intro w1 ho1 hg1)
 rw [zeros_made (.int .u64 0) rfl] at ho1
 have hb1 : Below w.heap.size w w1 := (Below.refl _ _).grown hg1 (Nat.le_refl _) (fun _ h => by cases h)
 clear hg1
 go_wp2_with fail
 go_loopw [4, 12] (fun t i wr => ∃ k : Nat, k ≤ xs.length ∧ i = .int .i64 k ∧ t = .int .u64 (((0 : Nat) :: sums 0 xs).getD k 0) ∧ wr.ownsRow w.heap.size 34 1 (.slice (some ⟨w.heap.size, 0, none⟩) xs.length xs.length) xs.length (cells64 ((sums 0 xs).take k) ++ List.replicate (xs.length - k) (.int .u64 0)) ∧ Below w.heap.size w wr)
  (fun _ i _ => xs.length - (intOf i).toNat)
 case atStart => exact ⟨0, by omega, rfl, rfl, by simpa [cells64] using ho1, hb1⟩
 case round =>
  clear ho1 hb1
  obtain ⟨k, hk, rfl, rfl, ho, hb⟩ := hrel
  by_cases hlt : k < xs.length
  ·have hki : (k : Int) < (xs.length : Int) := by omega
   obtain ⟨n, hn⟩ : ∃ n, xs[k]? = some n := ⟨xs[k], List.getElem?_eq_getElem hlt⟩
   have hn2 := HX.out n (List.mem_of_getElem? hn)
   have hn3 : n ≤ 18446744073709551615 := by unfold M64 at hn2; omega
   have hs2 := state_lt (sums_lt xs 0) k
   have hd := sums_get xs 0 k n hn
   have hs3 := Lib.hid (state_next hd)
   obtain ⟨b, off, rfl, hbl, hc⟩ := H.out.get hb (cells64_get hn)
   have HD := Lib.hid (take_next hd)
   have HW := Lib.hid (wrap_addZ _ n hs2 hn2)
   generalize ((0 : Nat) :: sums 0 xs).getD k 0 = L at *
   have hL : L ≤ 18446744073709551615 := by unfold M64 at hs2; omega
   have hrep : xs.length - k = xs.length - (k + 1) + 1 := by omega
   have hAl : (cells64 ((sums 0 xs).take k)).length = k := by
    have := sums_length xs 0
    simp [cells64]; omega
   have hcell : wr.cell? ⟨w.heap.size, k, none⟩ = some (.int .u64 0) := owns_cell ho (by
    rw [List.getElem?_append_right (by omega), hAl, Nat.sub_self, hrep, List.replicate_succ]; rfl)
   have hfree : wr.frozen? ⟨w.heap.size, k, none⟩ = false := owns_free ho hlt
   have hset := owns_set (u := .int .u64 (addZ L n)) ho hlt
   rw [hrep, set_next _ _ _ _ _ hAl, HD.out] at hset
   have HS := Lib.hid hset
   clear hn hset hrep hAl hd
   go_wp2_with fail
   refine (deltaZag n wr hn2).mono ?_
   rintro e w' ⟨rfl, rfl⟩
   have hw := HW.out
   go_wp2
   go_roundw
   case rel => exact ⟨k + 1, by omega, by go_num, by rw [hs3.out], HS.out, hb.setCell (p := ⟨w.heap.size, k, none⟩) (Nat.le_refl _) _⟩
   case measure => simp [intOf]; omega
  ·obtain rfl : k = xs.length := by omega
   rw [Nat.sub_self, List.replicate_zero, List.append_nil, List.take_of_length_le (by rw [sums_length]; exact Nat.le_refl _)] at ho
   go_wp2
   go_ret
   exact ⟨_, rfl, ho, hb⟩
def selN (u : Int → Bool) (f : Ev → Nat) (l : List Ev) : List Nat := (l.filter fun x => u x.kd).map f
def allU : Int → Bool := fun _ => true
def kdF (x : Ev) : Nat := x.kd.toNat
def rgF (x : Ev) : Nat := x.rg.toNat
def thF (x : Ev) : Nat := x.th.toNat
def tkF (x : Ev) : Nat := x.tk
def vlF (x : Ev) : Nat := x.vl
theorem selN_next {u : Int → Bool} {f : Ev → Nat} {l : List Ev} {k : Nat} {x : Ev} (h : l[k]? = some x) : selN u f (l.take (k + 1)) = if u x.kd = true then selN u f (l.take k) ++ [f x] else selN u f (l.take k) := by
 unfold selN
 rw [List.take_add_one, h]
 simp only [Option.toList_some, List.filter_append, List.map_append]
 by_cases hu : u x.kd = true
 ·rw [if_pos hu, List.filter_cons, if_pos hu]; rfl
 ·rw [if_neg hu, List.filter_cons, if_neg hu, List.filter_nil, List.map_nil, List.append_nil]
theorem selN_length (u : Int → Bool) (f : Ev → Nat) (l : List Ev) : (selN u f l).length ≤ l.length := by
 unfold selN; rw [List.length_map]; exact List.length_filter_le _ _
theorem selN_lt {u : Int → Bool} {f : Ev → Nat} {l : List Ev} (h : ∀ x ∈ l, f x < M64) : ∀ n ∈ selN u f l, n < M64 := fun n hn => by
 obtain ⟨x, hx, rfl⟩ := List.mem_map.1 hn
 exact h x (List.mem_filter.1 hx).1
def thrS (own : List Ev) : List UInt8 :=
 printR (selN allU kdF own) ++ (printR (selN ringB rgF own) ++ (encList (deltas 0 (selN ticketB tkF own)) ++ encList (deltas 0 (selN valueB vlF own))))
def ownE (l : List Ev) (t : Int) : List Ev := l.filter fun x => decide (x.th = t)
def strT (l : List Ev) (t : Nat) : List UInt8 := if (ownE l (t : Int)).length = 0 then [] else thrS (ownE l (t : Int))
def strK (l : List Ev) : Nat → List UInt8
 | 0 => printR (l.map thF)
 | t + 1 => strK l t ++ strT l t
def strS (l : List Ev) : List UInt8 := strK l 8
theorem ownE_of (l : List Ev) (t : Int) : ∀ k, k ≤ l.length → (ofE l t k).map (fun i => l.getD i default) = ownE (l.take k) t ∧ ∀ i ∈ ofE l t k, i < k
 | 0, _ => ⟨by simp [ofE, ownE], fun i hi => by simp [ofE] at hi⟩
 | k + 1, h => by
  obtain ⟨h1, h2⟩ := ownE_of l t k (by omega)
  obtain ⟨x, hx⟩ : ∃ x, l[k]? = some x := ⟨_, List.getElem?_eq_getElem (by omega)⟩
  have hg : l.getD k default = x := by rw [List.getD_eq_getElem?_getD, hx]; rfl
  unfold ofE
  rw [hx]
  unfold ownE at *
  rw [List.take_add_one, hx, List.filter_append, Option.toList_some]
  by_cases ht : x.th = t
  ·simp only [if_pos ht]
   refine ⟨?_, fun i hi => ?_⟩
   ·rw [List.map_append, h1, List.map_cons, List.map_nil, hg, List.filter_cons, if_pos (by simpa using ht), List.filter_nil]
   ·rcases List.mem_append.1 hi with hi | hi
    ·have := h2 i hi; omega
    ·simp at hi; omega
  ·simp only [if_neg ht]
   refine ⟨?_, fun i hi => by have := h2 i hi; omega⟩
   rw [h1, List.filter_cons, if_neg (by simpa using ht), List.filter_nil, List.append_nil]
theorem ownE_ofl (l : List Ev) (t : Int) : (ofE l t l.length).map (fun i => l.getD i default) = ownE l t := by
 have := (ownE_of l t l.length (Nat.le_refl _)).1
 rwa [List.take_length] at this
theorem ownE_ok {l : List Ev} {t : Int} {P : Ev → Prop} (h : ∀ x ∈ l, P x) : ∀ x ∈ ownE l t, P x := fun x hx => h x (List.mem_filter.1 hx).1
theorem ownE_le (l : List Ev) (t : Int) : (ownE l t).length ≤ l.length := List.length_filter_le _ _
theorem encList_le (l : List Nat) : (encList l).length ≤ 10 + 10 * l.length := by
 unfold encList
 rw [List.length_append]
 have := (enc_length l.length).2
 have := encs_length l
 omega
theorem printR_le21 (l : List Nat) : (printR l).length ≤ 10 + 20 * l.length := by
 unfold printR
 have h1 := (enc_length (packs l).length).2
 have h2 := bodyR_length (packs l)
 have h3 := (packs_in l).1
 rw [List.length_append]; omega
theorem thrS_le (own : List Ev) : (thrS own).length ≤ 40 + 60 * own.length := by
 unfold thrS
 rw [List.length_append, List.length_append, List.length_append]
 have h1 := printR_le21 (selN allU kdF own)
 have h2 := printR_le21 (selN ringB rgF own)
 have h3 := encList_le (deltas 0 (selN ticketB tkF own))
 have h4 := encList_le (deltas 0 (selN valueB vlF own))
 rw [deltas_length] at h3 h4
 have := selN_length allU kdF own
 have := selN_length ringB rgF own
 have := selN_length ticketB tkF own
 have := selN_length valueB vlF own
 omega
theorem strK_le (l : List Ev) : ∀ t, (strK l t).length ≤ 10 + 20 * l.length + t * (40 + 60 * l.length)
 | 0 => by
  have := printR_le21 (l.map thF)
  rw [List.length_map] at this
  show (printR (l.map thF)).length ≤ _
  omega
 | t + 1 => by
  have h1 := strK_le l t
  have h2 : (strT l t).length ≤ 40 + 60 * l.length := by
   unfold strT
   split
   ·simp
   ·have := thrS_le (ownE l (t : Int))
    have := ownE_le l (t : Int)
    omega
  show (strK l t ++ strT l t).length ≤ _
  rw [List.length_append, Nat.add_mul]
  omega
theorem own_sl21 {w : World} {B n : Nat} {e : TypeId} {sz : Nat} {v : Value} {xs : List Value} (h : w.ownsRow B e sz v n xs) : ∃ A c, v = .slice A n c := by
 rcases owns_row h with ⟨rfl, h0, _⟩ | ⟨r, cap, cur, rfl, _⟩
 ·subst h0; exact ⟨none, 0, rfl⟩
 ·exact ⟨_, _, rfl⟩
set_option maxHeartbeats 4000000 in
set_option maxRecDepth 100000 in
theorem printAll0 (nu ng np : Nat) (st rd : Value) (u : Int → Bool) (f : Ev → Nat) (bs : List UInt8) (own : List Ev) (A : Option Addr) (c B g : Nat) (b : List UInt8) (w : World) (hE : EvsAt w A c own) (hl : own.length ≤ 70000) (hW : WrAt w B g (textB b)) (hB : w.heap.size ≤ B ∨ B ≤ w.heap.size) (hsz : b.length + bs.length ≤ 1000000000)
  (hst : st.oneCell' = true) (hrd : rd.oneCell' = true) (hcu : ∀ a wx, (callFunc nu a).run Tryz.prog wx = .ok (.enter nu a) wx) (hcg : ∀ a wx, (callFunc ng a).run Tryz.prog wx = .ok (.enter ng a) wx) (hcp : ∀ a wx, (callFunc np a).run Tryz.prog wx = .ok (.enter np a) wx)
  (HU : ∀ wx, Below w.heap.size w wx → ∀ k : Int, Calls Tryz.prog nu (#[.int .i64 k]) wx fun e w' => e = .returned (.bool (u k)) ∧ Below wx.heap.size wx w')
  (HG : ∀ wx, ∀ x ∈ own, Calls Tryz.prog ng #[.agg (evC x)] wx fun e w' => e = .returned (.int .u64 ((f x : Nat) : Int)) ∧ Below wx.heap.size wx w')
  (HP : ∀ wx (v : Value), SeqAt wx v (cells64 (selN u f own)) → Calls Tryz.prog np #[v] wx fun e w' => e = .returned (.string (textB bs)) ∧ Below wx.heap.size wx w') :
  Calls Tryz.prog 38 #[.agg #[.func (.func nu) #[] #[], .func (.func ng) #[] #[], st, .func (.func np) #[] #[], rd], .pointer (some ⟨g, 0, none⟩), .slice A own.length c] w fun e w' => e = .returned (.tuple #[]) ∧ WrAt w' B g (textB (b ++ bs)) ∧ Kept (wrRows w B g) w w' := by
 obtain ⟨A', c', e', h1, h2, _⟩ := hE.form
 simp only [Value.slice.injEq, true_and] at e'
 obtain ⟨rfl, rfl⟩ := e'
 unfold maxLen at h2
 have LS := Lies.made w 74 #[.func (.func nu) #[] #[], .func (.func ng) #[] #[], st, .func (.func np) #[] #[], rd]
 have HB0 := Lib.hid ((Below.refl w.heap.size w).alloc (Nat.le_refl _) (.cells #[.func (.func nu) #[] #[], .func (.func ng) #[] #[], st, .func (.func np) #[] #[], rd] 74))
 have HE := Lib.hid hE
 have HW := Lib.hid hW
 have HUU := Lib.hid HU
 have HGG := Lib.hid HG
 have HPP := Lib.hid HP
 have HLS := Lib.hid LS
 clear hE hW HU HG HP LS hB
 go_enter Tryz.func38, Tryz.ntmps38
 go_wp2_with fail
 generalize hw0 : w.alloc (.cells #[.func (.func nu) #[] #[], .func (.func ng) #[] #[], st, .func (.func np) #[] #[], rd] 74) = w0 at *
 have hz0 : w.heap.size + 1 = w0.heap.size := by rw [← hw0]; simp
 clear hw0
 go_loopw [6, 11] (fun v t wr => ∃ i : Nat, i ≤ own.length ∧ t = .int .i64 i ∧ Hid (wr.ownsRow w0.heap.size 34 1 v (selN u f (own.take i)).length (cells64 (selN u f (own.take i)))) ∧ Hid (Below w0.heap.size w0 wr)) (fun _ t _ => own.length - (intOf t).toNat)
 case atStart => exact ⟨0, by omega, rfl, World.ownsRow_nil _ _ _ _, Below.refl _ _⟩
 case round =>
  obtain ⟨i, hi, rfl, ho, hb⟩ := hrel
  have hbz := hb.out.size
  have HB1 := Lib.hid (HB0.out.trans (hb.out.mono HB0.out.size))
  by_cases hlt : i < own.length
  ·have hii : (i : Int) < (own.length : Int) := by omega
   obtain ⟨x, hx⟩ : ∃ x, own[i]? = some x := ⟨_, List.getElem?_eq_getElem hlt⟩
   obtain ⟨bA, off, rfl, hbA, hc⟩ := EvsAt.at_ (SeqS.later HE.out HB1.out) hx
   have c0 := hc 0 _ (by decide) rfl
   have c1 := hc 1 _ (by decide) rfl
   have c2 := hc 2 _ (by decide) rfl
   have c3 := hc 3 _ (by decide) rfl
   have c4 := hc 4 _ (by decide) rfl
   rw [Nat.add_zero] at c0
   have HX := Lib.hid hx
   have HXM := Lib.hid (List.mem_of_getElem? hx)
   have hnx := selN_next (u := u) (f := f) hx
   have HNX := Lib.hid hnx
   have hsl := selN_length u f (own.take i)
   rw [List.length_take] at hsl
   clear hc hx hnx
   go_upto_region 5 with (fail)
   have LSr := HLS.out.below hb.out HLS.out.lt
   have LSa := Lib.hid (LSr.alloc (.cells (evC x) 36))
   have LE := Lib.hid (Lies.made wr 36 (evC x))
   have HBa := Lib.hid (hb.out.alloc hbz (.cells (evC x) 36))
   have HOa := Lib.hid (owned_below ho.out ((Below.refl wr.heap.size wr).alloc (Nat.le_refl _) (.cells (evC x) 36)))
   obtain ⟨q, hq⟩ : ∃ q, q = wr.heap.size := ⟨_, rfl⟩
   rw [← hq] at LE ⊢
   clear c0 c1 c2 c3 c4 LSr hq ho hb HB1
   generalize wr.alloc (.cells (evC x) 36) = w2 at *
   have HBw := Lib.hid (HB0.out.trans (HBa.out.mono HB0.out.size))
   have s0 := (LSa.out.cell 0).trans (show _ = some (Value.func (.func nu) #[] #[]) from rfl)
   have d1 := (LE.out.cell 1).trans (show _ = some (Value.int .i64 x.kd) from rfl)
   have sl := LSa.out.lt
   have el := LE.out.lt
   go_wp2_with fail
   refine (HUU.out w2 HBw.out x.kd).mono ?_
   rintro e w3 ⟨rfl, hb3⟩
   have HOb := Lib.hid (owned_below HOa.out hb3)
   have HLb := Lib.hid (LSa.out.below hb3 LSa.out.lt)
   have HEb := Lib.hid (LE.out.below hb3 LE.out.lt)
   have HBb := Lib.hid (HBa.out.trans (hb3.mono HBa.out.size))
   have hz3 : w0.heap.size ≤ w3.heap.size := HBb.out.size
   clear s0 d1 sl el hb3 HOa LSa LE HBa
   obtain ⟨ub, hub⟩ : ∃ ub, u x.kd = ub := ⟨_, rfl⟩
   have hnx := HNX.out
   rw [hub] at hnx ⊢
   cases ub with
   | false =>
    rw [if_neg (by decide)] at hnx
    have HN2 := Lib.hid hnx
    clear hnx HNX
    go_wp2_with fail
    go_roundw
    case rel => exact ⟨i + 1, by omega, by go_num, by rw [HN2.out]; exact HOb, HBb⟩
    case measure => simp [intOf]; omega
   | true =>
    rw [if_pos rfl] at hnx
    have HN2 := Lib.hid hnx
    clear hnx HNX
    have s1 := (HLb.out.cell 1).trans (show _ = some (Value.func (.func ng) #[] #[]) from rfl)
    have d0 := (HEb.out.cell 0).trans (show _ = some (Value.int .i64 x.th) from rfl)
    have d1 := (HEb.out.cell 1).trans (show _ = some (Value.int .i64 x.kd) from rfl)
    have d2 := (HEb.out.cell 2).trans (show _ = some (Value.int .i64 x.rg) from rfl)
    have d3 := (HEb.out.cell 3).trans (show _ = some (Value.int .u64 (x.tk : Int)) from rfl)
    have d4 := (HEb.out.cell 4).trans (show _ = some (Value.int .u64 (x.vl : Int)) from rfl)
    have sl := HLb.out.lt
    have el := HEb.out.lt
    go_wp2_with fail
    refine (HGG.out w3 x HXM.out).mono ?_
    rintro e w4 ⟨rfl, hb4⟩
    have HOc := Lib.hid (owned_below HOb.out hb4)
    have HBc := Lib.hid (HBb.out.trans (hb4.mono HBb.out.size))
    have hz4 : w0.heap.size ≤ w4.heap.size := HBc.out.size
    clear s1 d0 d1 d2 d3 d4 sl el hb4 HOb HLb HEb HBb
    obtain ⟨n, hn⟩ : ∃ n, n = f x := ⟨_, rfl⟩
    rw [← hn] at HN2 ⊢
    have hcs : cells64 (selN u f (own.take i)) ++ [.int .u64 (n : Int)] = cells64 (selN u f (own.take (i + 1))) := by rw [HN2.out]; simp [cells64]
    have hcl : (selN u f (own.take i)).length + 1 = (selN u f (own.take (i + 1))).length := by rw [HN2.out]; simp
    have HCS := Lib.hid hcs
    have HCL := Lib.hid hcl
    clear hcs hcl hn
    go_wp2_with (at_builtin; refine append_one w4 (.int .u64 (n : Int)) rfl (.tmp 20) (.tmp 25) 46 rfl w0.heap.size 34 _ _ Tryz.underlying46 Tryz.infoU64 rfl rfl _ _ _ rfl HOc.out rfl (by unfold maxLen; omega) (by omega) hz4 ?_)
    intro v' w5 ho5 hb5 _
    rw [HCS.out, HCL.out] at ho5
    have HO5 := Lib.hid ho5
    have HB5 := Lib.hid (HBc.out.trans hb5)
    clear ho5 hb5 HOc HBc
    go_wp2
    go_roundw
    case rel => exact ⟨i + 1, by omega, by go_num, HO5, HB5⟩
    case measure => simp [intOf]; omega
  ·obtain rfl : own.length = i := by omega
   have ho2 := ho.out
   rw [List.take_length] at ho2
   have hsl := selN_length u f own
   obtain ⟨A6, c6, rfl⟩ := own_sl21 ho2
   have HSQ := Lib.hid (SeqAt.of_owns ho2)
   have LSr := HLS.out.below hb.out HLS.out.lt
   have s3 := (LSr.cell 3).trans (show _ = some (Value.func (.func np) #[] #[]) from rfl)
   have sl := LSr.lt
   clear ho ho2 LSr hb
   go_wp2_with fail
   refine (HPP.out wr _ HSQ.out).mono ?_
   rintro e w3 ⟨rfl, hb3⟩
   have hb13 := HB1.out.trans (hb3.mono HB1.out.size)
   have HWr := Lib.hid (HW.out.kept (Kept.of_below hb13) (fun h => h) (fun _ _ _ h => h))
   have HB3 := Lib.hid hb13
   clear hb3 hb13 s3 sl HB1
   go_wp2_with fail
   refine (octetText B g (textB b) (textB bs) w3 HWr.out (by rw [textB_size, textB_size]; omega)).mono ?_
   rintro e w4 ⟨rfl, hw4, hk4⟩
   rw [text_append] at hw4
   have HW4 := Lib.hid hw4
   have HK4 : Hid (Kept (wrRows w B g) w w4) := ((Kept.of_below HB3.out).mono (fun k hk (h : noRow k) => h.elim)).trans hk4 (fun k hk h => ⟨h.1, by
    rcases h.2 with h2 | ⟨cur, h2⟩
    ·exact .inl h2
    ·exact .inr ⟨cur, (HB3.out.block k hk).symm.trans h2⟩⟩)
   clear hw4 hk4
   go_wp2
   go_end0
   exact ⟨rfl, HW4.out, HK4.out⟩
set_option maxHeartbeats 4000000 in
set_option maxRecDepth 100000 in
theorem printAll1 (nu ng np : Nat) (gs : Nat) (st rd : Value) (u : Int → Bool) (f : Ev → Nat) (bs : List UInt8) (own : List Ev) (A : Option Addr) (c B g : Nat) (b : List UInt8) (w : World) (hE : EvsAt w A c own) (hl : own.length ≤ 70000) (hW : WrAt w B g (textB b)) (hB : w.heap.size ≤ B ∨ B ≤ w.heap.size) (hsz : b.length + bs.length ≤ 1000000000)
  (hst : st.oneCell' = true) (hrd : rd.oneCell' = true) (hcu : ∀ a wx, (callFunc nu a).run Tryz.prog wx = .ok (.enter nu a) wx) (hcg : ∀ a wx, (callFunc ng a).run Tryz.prog wx = .ok (.enter ng a) wx) (hcp : ∀ a wx, (callFunc np a).run Tryz.prog wx = .ok (.enter np a) wx)
  (HU : ∀ wx, Below w.heap.size w wx → ∀ k : Int, Calls Tryz.prog nu (#[.int .i64 k, .pointer (some ⟨gs, 0, none⟩)]) wx fun e w' => e = .returned (.bool (u k)) ∧ Below wx.heap.size wx w')
  (HG : ∀ wx, ∀ x ∈ own, Calls Tryz.prog ng #[.agg (evC x)] wx fun e w' => e = .returned (.int .u64 ((f x : Nat) : Int)) ∧ Below wx.heap.size wx w')
  (HP : ∀ wx (v : Value), SeqAt wx v (cells64 (selN u f own)) → Calls Tryz.prog np #[v] wx fun e w' => e = .returned (.string (textB bs)) ∧ Below wx.heap.size wx w') :
  Calls Tryz.prog 38 #[.agg #[.func (.func nu) #[] #[.pointer (some ⟨gs, 0, none⟩)], .func (.func ng) #[] #[], st, .func (.func np) #[] #[], rd], .pointer (some ⟨g, 0, none⟩), .slice A own.length c] w fun e w' => e = .returned (.tuple #[]) ∧ WrAt w' B g (textB (b ++ bs)) ∧ Kept (wrRows w B g) w w' := by
 obtain ⟨A', c', e', h1, h2, _⟩ := hE.form
 simp only [Value.slice.injEq, true_and] at e'
 obtain ⟨rfl, rfl⟩ := e'
 unfold maxLen at h2
 have LS := Lies.made w 74 #[.func (.func nu) #[] #[.pointer (some ⟨gs, 0, none⟩)], .func (.func ng) #[] #[], st, .func (.func np) #[] #[], rd]
 have HB0 := Lib.hid ((Below.refl w.heap.size w).alloc (Nat.le_refl _) (.cells #[.func (.func nu) #[] #[.pointer (some ⟨gs, 0, none⟩)], .func (.func ng) #[] #[], st, .func (.func np) #[] #[], rd] 74))
 have HE := Lib.hid hE
 have HW := Lib.hid hW
 have HUU := Lib.hid HU
 have HGG := Lib.hid HG
 have HPP := Lib.hid HP
 have HLS := Lib.hid LS
 clear hE hW HU HG HP LS hB
 go_enter Tryz.func38, Tryz.ntmps38
 go_wp2_with fail
 generalize hw0 : w.alloc (.cells #[.func (.func nu) #[] #[.pointer (some ⟨gs, 0, none⟩)], .func (.func ng) #[] #[], st, .func (.func np) #[] #[], rd] 74) = w0 at *
 have hz0 : w.heap.size + 1 = w0.heap.size := by rw [← hw0]; simp
 clear hw0
 go_loopw [6, 11] (fun v t wr => ∃ i : Nat, i ≤ own.length ∧ t = .int .i64 i ∧ Hid (wr.ownsRow w0.heap.size 34 1 v (selN u f (own.take i)).length (cells64 (selN u f (own.take i)))) ∧ Hid (Below w0.heap.size w0 wr)) (fun _ t _ => own.length - (intOf t).toNat)
 case atStart => exact ⟨0, by omega, rfl, World.ownsRow_nil _ _ _ _, Below.refl _ _⟩
 case round =>
  obtain ⟨i, hi, rfl, ho, hb⟩ := hrel
  have hbz := hb.out.size
  have HB1 := Lib.hid (HB0.out.trans (hb.out.mono HB0.out.size))
  by_cases hlt : i < own.length
  ·have hii : (i : Int) < (own.length : Int) := by omega
   obtain ⟨x, hx⟩ : ∃ x, own[i]? = some x := ⟨_, List.getElem?_eq_getElem hlt⟩
   obtain ⟨bA, off, rfl, hbA, hc⟩ := EvsAt.at_ (SeqS.later HE.out HB1.out) hx
   have c0 := hc 0 _ (by decide) rfl
   have c1 := hc 1 _ (by decide) rfl
   have c2 := hc 2 _ (by decide) rfl
   have c3 := hc 3 _ (by decide) rfl
   have c4 := hc 4 _ (by decide) rfl
   rw [Nat.add_zero] at c0
   have HX := Lib.hid hx
   have HXM := Lib.hid (List.mem_of_getElem? hx)
   have hnx := selN_next (u := u) (f := f) hx
   have HNX := Lib.hid hnx
   have hsl := selN_length u f (own.take i)
   rw [List.length_take] at hsl
   clear hc hx hnx
   go_upto_region 5 with (fail)
   have LSr := HLS.out.below hb.out HLS.out.lt
   have LSa := Lib.hid (LSr.alloc (.cells (evC x) 36))
   have LE := Lib.hid (Lies.made wr 36 (evC x))
   have HBa := Lib.hid (hb.out.alloc hbz (.cells (evC x) 36))
   have HOa := Lib.hid (owned_below ho.out ((Below.refl wr.heap.size wr).alloc (Nat.le_refl _) (.cells (evC x) 36)))
   obtain ⟨q, hq⟩ : ∃ q, q = wr.heap.size := ⟨_, rfl⟩
   rw [← hq] at LE ⊢
   clear c0 c1 c2 c3 c4 LSr hq ho hb HB1
   generalize wr.alloc (.cells (evC x) 36) = w2 at *
   have HBw := Lib.hid (HB0.out.trans (HBa.out.mono HB0.out.size))
   have s0 := (LSa.out.cell 0).trans (show _ = some (Value.func (.func nu) #[] #[.pointer (some ⟨gs, 0, none⟩)]) from rfl)
   have d1 := (LE.out.cell 1).trans (show _ = some (Value.int .i64 x.kd) from rfl)
   have sl := LSa.out.lt
   have el := LE.out.lt
   go_wp2_with fail
   refine (HUU.out w2 HBw.out x.kd).mono ?_
   rintro e w3 ⟨rfl, hb3⟩
   have HOb := Lib.hid (owned_below HOa.out hb3)
   have HLb := Lib.hid (LSa.out.below hb3 LSa.out.lt)
   have HEb := Lib.hid (LE.out.below hb3 LE.out.lt)
   have HBb := Lib.hid (HBa.out.trans (hb3.mono HBa.out.size))
   have hz3 : w0.heap.size ≤ w3.heap.size := HBb.out.size
   clear s0 d1 sl el hb3 HOa LSa LE HBa
   obtain ⟨ub, hub⟩ : ∃ ub, u x.kd = ub := ⟨_, rfl⟩
   have hnx := HNX.out
   rw [hub] at hnx ⊢
   cases ub with
   | false =>
    rw [if_neg (by decide)] at hnx
    have HN2 := Lib.hid hnx
    clear hnx HNX
    go_wp2_with fail
    go_roundw
    case rel => exact ⟨i + 1, by omega, by go_num, by rw [HN2.out]; exact HOb, HBb⟩
    case measure => simp [intOf]; omega
   | true =>
    rw [if_pos rfl] at hnx
    have HN2 := Lib.hid hnx
    clear hnx HNX
    have s1 := (HLb.out.cell 1).trans (show _ = some (Value.func (.func ng) #[] #[]) from rfl)
    have d0 := (HEb.out.cell 0).trans (show _ = some (Value.int .i64 x.th) from rfl)
    have d1 := (HEb.out.cell 1).trans (show _ = some (Value.int .i64 x.kd) from rfl)
    have d2 := (HEb.out.cell 2).trans (show _ = some (Value.int .i64 x.rg) from rfl)
    have d3 := (HEb.out.cell 3).trans (show _ = some (Value.int .u64 (x.tk : Int)) from rfl)
    have d4 := (HEb.out.cell 4).trans (show _ = some (Value.int .u64 (x.vl : Int)) from rfl)
    have sl := HLb.out.lt
    have el := HEb.out.lt
    go_wp2_with fail
    refine (HGG.out w3 x HXM.out).mono ?_
    rintro e w4 ⟨rfl, hb4⟩
    have HOc := Lib.hid (owned_below HOb.out hb4)
    have HBc := Lib.hid (HBb.out.trans (hb4.mono HBb.out.size))
    have hz4 : w0.heap.size ≤ w4.heap.size := HBc.out.size
    clear s1 d0 d1 d2 d3 d4 sl el hb4 HOb HLb HEb HBb
    obtain ⟨n, hn⟩ : ∃ n, n = f x := ⟨_, rfl⟩
    rw [← hn] at HN2 ⊢
    have hcs : cells64 (selN u f (own.take i)) ++ [.int .u64 (n : Int)] = cells64 (selN u f (own.take (i + 1))) := by rw [HN2.out]; simp [cells64]
    have hcl : (selN u f (own.take i)).length + 1 = (selN u f (own.take (i + 1))).length := by rw [HN2.out]; simp
    have HCS := Lib.hid hcs
    have HCL := Lib.hid hcl
    clear hcs hcl hn
    go_wp2_with (at_builtin; refine append_one w4 (.int .u64 (n : Int)) rfl (.tmp 20) (.tmp 25) 46 rfl w0.heap.size 34 _ _ Tryz.underlying46 Tryz.infoU64 rfl rfl _ _ _ rfl HOc.out rfl (by unfold maxLen; omega) (by omega) hz4 ?_)
    intro v' w5 ho5 hb5 _
    rw [HCS.out, HCL.out] at ho5
    have HO5 := Lib.hid ho5
    have HB5 := Lib.hid (HBc.out.trans hb5)
    clear ho5 hb5 HOc HBc
    go_wp2
    go_roundw
    case rel => exact ⟨i + 1, by omega, by go_num, HO5, HB5⟩
    case measure => simp [intOf]; omega
  ·obtain rfl : own.length = i := by omega
   have ho2 := ho.out
   rw [List.take_length] at ho2
   have hsl := selN_length u f own
   obtain ⟨A6, c6, rfl⟩ := own_sl21 ho2
   have HSQ := Lib.hid (SeqAt.of_owns ho2)
   have LSr := HLS.out.below hb.out HLS.out.lt
   have s3 := (LSr.cell 3).trans (show _ = some (Value.func (.func np) #[] #[]) from rfl)
   have sl := LSr.lt
   clear ho ho2 LSr hb
   go_wp2_with fail
   refine (HPP.out wr _ HSQ.out).mono ?_
   rintro e w3 ⟨rfl, hb3⟩
   have hb13 := HB1.out.trans (hb3.mono HB1.out.size)
   have HWr := Lib.hid (HW.out.kept (Kept.of_below hb13) (fun h => h) (fun _ _ _ h => h))
   have HB3 := Lib.hid hb13
   clear hb3 hb13 s3 sl HB1
   go_wp2_with fail
   refine (octetText B g (textB b) (textB bs) w3 HWr.out (by rw [textB_size, textB_size]; omega)).mono ?_
   rintro e w4 ⟨rfl, hw4, hk4⟩
   rw [text_append] at hw4
   have HW4 := Lib.hid hw4
   have HK4 : Hid (Kept (wrRows w B g) w w4) := ((Kept.of_below HB3.out).mono (fun k hk (h : noRow k) => h.elim)).trans hk4 (fun k hk h => ⟨h.1, by
    rcases h.2 with h2 | ⟨cur, h2⟩
    ·exact .inl h2
    ·exact .inr ⟨cur, (HB3.out.block k hk).symm.trans h2⟩⟩)
   clear hw4 hk4
   go_wp2
   go_end0
   exact ⟨rfl, HW4.out, HK4.out⟩
theorem Lies.putL' {w : World} {g : Nat} {t : TypeId} {cs : List Value} (h : Lies w g t cs.toArray) (i : Nat) (u : Value) : Lies (w.setCell ⟨g, i, none⟩ u) g t (cs.set i u).toArray := by
 have := h.put i u
 rwa [List.setIfInBounds_toArray] at this
theorem lies_cells {g : Nat} {T : TypeId} : ∀ (vs : List Value) (pre ob post : List Value) (w : World), vs.length = ob.length → Lies w g T (pre ++ (ob ++ post)).toArray → Lies (w.setCells g pre.length vs) g T (pre ++ (vs ++ post)).toArray
 | [], pre, ob, post, w, hl, h => by
  obtain rfl : ob = [] := List.length_eq_zero_iff.1 hl.symm
  exact h
 | v :: vs, pre, [], post, w, hl, h => by simp at hl
 | v :: vs, pre, x :: ob, post, w, hl, h => by
  have h1 := Lies.putL' h pre.length v
  rw [List.set_append_right _ _ (Nat.le_refl _), Nat.sub_self] at h1
  simp only [List.cons_append, List.set_cons_zero] at h1
  rw [show pre ++ v :: (ob ++ post) = (pre ++ [v]) ++ (ob ++ post) by simp] at h1
  have h2 := lies_cells vs (pre ++ [v]) ob post _ (by simpa using hl) h1
  rw [List.length_append] at h2
  simp only [List.append_assoc, List.cons_append, List.nil_append] at h2
  exact h2
theorem kept_cells {g : Nat} : ∀ (vs : List Value) (o : Nat) (w : World), Kept (oneRow g) w (w.setCells g o vs)
 | [], o, w => Kept.refl _ _
 | v :: vs, o, w => (Kept.put w g o v).trans (kept_cells vs (o + 1) _) (fun _ _ h => h)
theorem lies_there {w : World} {g : Nat} {T : TypeId} {cs : Array Value} (h : Lies w g T cs) {o n : Nat} (hn : o + n ≤ cs.size) : w.there g o n := fun j hj => ⟨by rw [h.cell, Array.getElem?_eq_getElem (by omega)]; rfl, h.free _⟩
theorem owns_setCells {α : Type} {f : α → List Value} {sz B : Nat} {e : TypeId} {w : World} {v : Value} {l : List α} (hf : ∀ x, (f x).length = sz) (h : w.ownsRow B e sz v l.length (rowsOf f l)) {i : Nat} (hi : i < l.length) (y : α) :
  ∃ r cap, v = .slice (some ⟨r, 0, none⟩) l.length cap ∧ B ≤ r ∧ (∃ cur, Lies w r e cur) ∧ w.there r (i * sz) sz ∧ (w.setCells r (i * sz) (f y)).ownsRow B e sz v l.length (rowsOf f (l.set i y)) := by
 obtain ⟨h1, h2⟩ := h
 rcases h2 with ⟨_, h0⟩ | ⟨r, cap, cur, rfl, hB, hh, hc1, hc2, hc3, hc4⟩
 ·omega
 obtain ⟨sp, hsp⟩ : ∃ sp, cur.toList = rowsOf f l ++ sp := ⟨cur.toList.drop (l.length * sz), by rw [← hc4, List.take_append_drop]⟩
 obtain ⟨x, hx⟩ : ∃ x, l[i]? = some x := ⟨_, List.getElem?_eq_getElem hi⟩
 obtain ⟨hil, hie⟩ := List.getElem?_eq_some_iff.1 hx
 have hl2 : l = l.take i ++ x :: l.drop (i + 1) := by
  rw [← hie, List.getElem_cons_drop, List.take_append_drop]
 have hpl : (rowsOf f (l.take i)).length = i * sz := by rw [rowsOf_length hf, List.length_take, Nat.min_eq_left (by omega)]
 have hcur : cur = (rowsOf f (l.take i) ++ (f x ++ (rowsOf f (l.drop (i + 1)) ++ sp))).toArray := by
  apply Array.toList_inj.1
  rw [hsp]
  conv => lhs; rw [hl2]
  rw [rowsOf_append, rowsOf_cons]
  simp
 have hlies : Lies w r e cur := hh
 have hth : w.there r (i * sz) sz := by
  refine lies_there hlies ?_
  rw [hc3]
  have : (i + 1) * sz ≤ cap * sz := Nat.mul_le_mul_right _ (by omega)
  rw [Nat.add_mul] at this
  omega
 have hl3 := hlies
 rw [hcur] at hl3
 have hnew := lies_cells (f y) _ (f x) _ w (by rw [hf, hf]) hl3
 rw [hpl] at hnew
 have hset : l.set i y = l.take i ++ y :: l.drop (i + 1) := by rw [List.set_eq_take_append_cons_drop, if_pos hil]
 refine ⟨r, cap, rfl, hB, ⟨cur, hlies⟩, hth, ?_, .inr ⟨r, cap, _, rfl, hB, hnew, hc1, hc2, ?_, ?_⟩⟩
 ·rw [rowsOf_length hf, List.length_set]
 ·have e2 : cur.size = (rowsOf f (l.take i) ++ (f x ++ (rowsOf f (l.drop (i + 1)) ++ sp))).length := by rw [hcur]; simp
  have e3 := hf x
  have e4 := hf y
  simp only [List.size_toArray, List.length_append] at e2 ⊢
  omega
 ·have e5 : rowsOf f (l.take i) ++ (f y ++ (rowsOf f (l.drop (i + 1)) ++ sp)) = rowsOf f (l.set i y) ++ sp := by
   rw [hset, rowsOf_append, rowsOf_cons]
   simp
  rw [List.toList_toArray, e5, List.take_append_of_le_length (by rw [rowsOf_length hf, List.length_set]; exact Nat.le_refl _), List.take_of_length_le (by rw [rowsOf_length hf, List.length_set]; exact Nat.le_refl _)]
theorem owns_cut {α : Type} {f : α → List Value} {sz B : Nat} {e : TypeId} {w : World} {r n cap : Nat} {l : List α} (hf : ∀ x, (f x).length = sz) (h : w.ownsRow B e sz (.slice (some ⟨r, 0, none⟩) n cap) n (rowsOf f l)) {m : Nat} (hm : m ≤ n) :
  w.ownsRow B e sz (.slice (some ⟨r, 0, none⟩) m cap) m (rowsOf f (l.take m)) := by
 obtain ⟨h1, h2⟩ := h
 rcases h2 with ⟨h0, _⟩ | ⟨r', cap', cur, h0, hB, hh, hc1, hc2, hc3, hc4⟩
 ·cases h0
 simp only [Value.slice.injEq, Option.some.injEq, Addr.mk.injEq, and_true, true_and] at h0
 obtain ⟨rfl, rfl⟩ := h0
 have hmn : m * sz ≤ n * sz := Nat.mul_le_mul_right _ hm
 refine ⟨by rw [rowsOf_take hf, List.length_take, h1]; omega, .inr ⟨r, cap, cur, rfl, hB, hh, by omega, hc2, hc3, ?_⟩⟩
 rw [rowsOf_take hf, ← hc4, List.take_take, Nat.min_eq_left hmn]
def c8 (l : List Nat) : List Value := l.map fun (n : Nat) => Value.int .u8 (n : Int)
def cI (l : List Nat) : List Value := l.map fun (n : Nat) => Value.int .i64 (n : Int)
theorem c8_length (l : List Nat) : (c8 l).length = l.length := by simp [c8]
theorem cI_length (l : List Nat) : (cI l).length = l.length := by simp [cI]
theorem c64_length (l : List Nat) : (cells64 l).length = l.length := by simp [cells64]
theorem zero64 : ∀ w : World, (zeroValue 80).run Tryz.prog w = .ok (.agg (Array.replicate 256 (.int .u64 0))) w := fun w => by kernel_rfl
theorem info64 : (Tryz.prog.info? 80).map (·.size) = some 256 := by kernel_rfl
theorem under64 : Tryz.prog.underlying 80 = some (.array 256 34) := by kernel_rfl
theorem zero8 : ∀ w : World, (zeroValue 78).run Tryz.prog w = .ok (.agg (Array.replicate 256 (.int .u8 0))) w := fun w => by kernel_rfl
theorem info8 : (Tryz.prog.info? 78).map (·.size) = some 256 := by kernel_rfl
theorem under8 : Tryz.prog.underlying 78 = some (.array 256 5) := by kernel_rfl
theorem zeroI : ∀ w : World, (zeroValue 116).run Tryz.prog w = .ok (.agg (Array.replicate 57 (.int .i64 0))) w := fun w => by kernel_rfl
theorem infoI : (Tryz.prog.info? 116).map (·.size) = some 57 := by kernel_rfl
theorem underI : Tryz.prog.underlying 116 = some (.array 57 3) := by kernel_rfl
theorem sizeOf64 (w : World) : (sizeOf 34).run Tryz.prog w = .ok 1 w := by kernel_rfl
theorem isAgg8 (w : World) : (isAgg 5).run Tryz.prog w = .ok false w := by kernel_rfl
theorem isAgg64 (w : World) : (isAgg 34).run Tryz.prog w = .ok false w := by kernel_rfl
theorem isAggI (w : World) : (isAgg 3).run Tryz.prog w = .ok false w := by kernel_rfl
theorem sizeOf8 (w : World) : (sizeOf 5).run Tryz.prog w = .ok 1 w := by kernel_rfl
theorem sizeOfI (w : World) : (sizeOf 3).run Tryz.prog w = .ok 1 w := by kernel_rfl
theorem run_index_arr {P : Program} (t e : TypeId) (n : Nat) (cs : Array Value) (k : IntKind) (i : Nat) (v : Value) (h : P.underlying t = some (.array n e)) (hg : ∀ w, (isAgg e).run P w = .ok false w) (hs : ∀ w, (sizeOf e).run P w = .ok 1 w) (hi : i < n) (hv : cs[i]? = some v) (w : World) :
  (Instr.index t (.agg cs) (.int k (i : Int))).run P w = .ok v w := by
 have hs' := hs w
 have hg' := hg w
 have hi' : (i : Int) < (n : Int) := by omega
 simp [Instr.index, run_underlying h, asIntOf, hi', hs', part, hv, hg', go_sem]
 intro h; omega
theorem arr_range {w : World} {g : Nat} {t : TypeId} {L : List Value} (h : Lies w g t L.toArray) : w.rangeAt g 0 L := fun j v hv => by
 rw [Nat.zero_add, h.cell j]; simpa using hv
theorem arr_there {w : World} {g : Nat} {t : TypeId} {cs : Array Value} {n : Nat} (h : Lies w g t cs) (hn : cs.size = n) : w.there g 0 n := lies_there h (by omega)
theorem arr_store {w : World} {g : Nat} {t : TypeId} {cs : Array Value} {L : List Value} (h : Lies w g t cs) (hn : cs.size = L.length) : Lies (w.setCells g 0 L) g t L.toArray := by
 have h' : Lies w g t (([] : List Value) ++ (cs.toList ++ [])).toArray := by simpa using h
 have := lies_cells L [] cs.toList [] w (by simpa using hn.symm) h'
 simpa using this
end Go.Proofs.YtmadgdmiipgjoaaGreat
