/-
  A word as a number (layer 15): event.number.
-/
import Derived.Test.YtndcnflboikodaaDoorEvk
namespace Go.Proofs.YtndcnflboikodaaDoor
open Go.RowKit
set_option linter.unusedVariables false
set_option linter.unusedSimpArgs false
/-- What number answers of a word. -/
def NumIs (bs : List UInt8) (n : Nat) (ok : Bool) : Prop := (ok = true ∧ n < 18446744073709551616 ∧ decE n = bs) ∨ (ok = false ∧ n = 0 ∧ ∀ m, m < 18446744073709551616 → decE m ≠ bs)
theorem num_nil {m : Nat} : decE m ≠ [] := fun h => by have := (decE_length m).1; rw [h] at this; simp at this
theorem num_zero {bs : List UInt8} {c : UInt8} (h1 : 1 < bs.length) (h0 : bs[0]? = some c) (hc : c.toNat = 48) : ∀ m, m < 18446744073709551616 → decE m ≠ bs := fun m hm e => by
  subst e
  exact (decE_num hm).2.2 h1 c h0 hc
theorem num_bad {bs : List UInt8} {k : Nat} {c : UInt8} (h0 : bs[k]? = some c) (hc : ¬ isDg c) : ∀ m, m < 18446744073709551616 → decE m ≠ bs := fun m hm e => by
  subst e
  exact hc ((decE_num hm).2.1 c (List.mem_of_getElem? h0))
theorem valD_le : ∀ (r : List UInt8) (a : Nat), a ≤ r.foldl (fun n b => 10 * n + (b.toNat - 48)) a
  | [], a => Nat.le_refl _
  | b :: r, a => Nat.le_trans (by omega) (valD_le r (10 * a + (b.toNat - 48)))
theorem valD_mono (l r : List UInt8) : valD l ≤ valD (l ++ r) := by
  unfold valD
  rw [List.foldl_append]
  exact valD_le r _
theorem num_big {bs : List UInt8} {k : Nat} (h : 18446744073709551616 ≤ valD (bs.take k)) : ∀ m, m < 18446744073709551616 → decE m ≠ bs := fun m hm e => by
  have h1 := valD_mono (bs.take k) (bs.drop k)
  rw [List.take_append_drop, ← e, decE_val hm] at h1
  rw [e] at h1
  omega
theorem ret_nb {a a' : Int} {t t' : Bool} {k : IntKind} (h : a = a') (h2 : t = t') : Ending.returned (.tuple #[.int k a, .bool t]) = .returned (.tuple #[.int k a', .bool t']) := by rw [h, h2]
def NumPost (bs : List UInt8) (e : Ending) : Prop := ∃ n ok, e = .returned (.tuple #[.int .u64 ((n : Nat) : Int), .bool ok]) ∧ NumIs bs n ok
theorem text_toList (bs : List UInt8) : (textB bs).toList = bs := by rw [ByteArray.toList_eq]; simp [textB]
theorem text_empty : (textB []).toList.isEmpty = true := by rw [text_toList]; rfl
theorem text_nonempty {bs : List UInt8} (h : bs ≠ []) : (textB bs).toList.isEmpty = false := by rw [text_toList]; simpa using h
theorem NumPost.no {bs : List UInt8} (h : ∀ m, m < 18446744073709551616 → decE m ≠ bs) : NumPost bs (.returned (.tuple #[.int .u64 (0 : Int), .bool false])) := ⟨0, false, rfl, .inr ⟨rfl, rfl, h⟩⟩
theorem text_get {bs : List UInt8} {k : Nat} {c : UInt8} (h : bs[k]? = some c) (hk : k < (textB bs).size) : ((textB bs)[k]'hk).toNat = c.toNat := by
  have := getElem?_pos (textB bs) k hk
  rw [text_byte h] at this
  injection this with this
  rw [← this]
set_option maxHeartbeats 8000000 in
set_option maxRecDepth 100000 in
theorem number15 (bs : List UInt8) (w : World) (hbs : bs.length ≤ 140737488355328) :
    Calls Tryd.prog 40 #[.string (textB bs)] w fun e w' => NumPost bs e ∧ w = w' := by
  have HSZ : Hid ((textB bs).size = bs.length) := textB_size bs
  cases hc : bs with
  | nil =>
    clear hc HSZ
    have e1 := text_empty
    obtain ⟨s, hs⟩ : ∃ s, textB [] = s := ⟨_, rfl⟩
    rw [hs] at e1 ⊢
    clear hs
    go_enter Tryd.func40, Tryd.ntmps40
    go_wp2
    go_ret2
    exact ⟨NumPost.no (fun m _ => num_nil), rfl⟩
  | cons c r =>
    rw [← hc]
    have hne : bs ≠ [] := by rw [hc]; simp
    have h0 : bs[0]? = some c := by rw [hc]; rfl
    have hln : 1 ≤ bs.length := by rw [hc]; simp
    have e1 := text_nonempty hne
    have H0 := Lib.hid h0
    have HC := Lib.hid hc
    have HNE := Lib.hid hne
    have hp0 : 0 < (textB bs).size := by rw [HSZ.out]; omega
    have x0 := text_get h0 hp0
    obtain ⟨y, hy⟩ : ∃ y, c.toNat = y := ⟨_, rfl⟩
    rw [hy] at x0
    have HY := Lib.hid hy
    clear h0 hc hne hy
    have HZ9 : Hid (1 < bs.length → y = 48 → ∀ m, m < 18446744073709551616 → decE m ≠ bs) := fun h1 h2 => num_zero h1 H0.out (HY.out.trans h2)
    have HN9 : Hid (¬ (1 < bs.length ∧ y = 48) → (∀ b ∈ bs, isDg b) → isNum bs) := fun h1 h2 => ⟨HNE.out, h2, fun hl b hb => by
      rw [H0.out] at hb
      injection hb with hb
      subst hb
      rw [HY.out]
      exact fun h => h1 ⟨hl, h⟩⟩
    clear HC HNE
    by_cases hz : 1 < bs.length ∧ y = 48
    · obtain ⟨hz1, hz2⟩ := hz
      have HE := Lib.hid (HZ9.out hz1 hz2)
      have e2 : decide (1 < (textB bs).size) = true := decide_eq_true (by rw [HSZ.out]; omega)
      have e3 : decide ((1 : Int) < ((textB bs).size : Int)) = true := decide_eq_true (by rw [HSZ.out]; omega)
      have e4 : ((y : Int) == (48 : Int)) = true := by rw [beq_iff_eq]; omega
      have e5 : (y == 48) = true := by rw [beq_iff_eq]; omega
      clear HZ9 HN9 hz1 hz2
      go_enter Tryd.func40, Tryd.ntmps40
      go_wp2
      go_ret2
      exact ⟨NumPost.no HE.out, rfl⟩
    · have HNUM := Lib.hid (HN9.out hz)
      have hcs : (decide (1 < (textB bs).size) = false ∧ decide ((1 : Int) < ((textB bs).size : Int)) = false) ∨ (decide (1 < (textB bs).size) = true ∧ decide ((1 : Int) < ((textB bs).size : Int)) = true ∧ ((y : Int) == (48 : Int)) = false ∧ (y == 48) = false) := by
        rw [HSZ.out]
        by_cases h1 : 1 < bs.length
        · have h2 : y ≠ 48 := fun h => hz ⟨h1, h⟩
          exact .inr ⟨decide_eq_true h1, decide_eq_true (by omega), by rw [beq_eq_false_iff_ne]; omega, beq_eq_false_iff_ne.2 h2⟩
        · exact .inl ⟨decide_eq_false h1, decide_eq_false (by omega)⟩
      clear HZ9 HN9 hz HY H0
      rcases hcs with ⟨e2, e3⟩ | ⟨e2, e3, e4, e5⟩
      all_goals
        go_enter Tryd.func40, Tryd.ntmps40
        go_wp2_with fail
        try clear e2 e3
        try clear e4 e5
        try clear x0 hp0 e1
        go_loopw [4, 21] (fun u i wr => ∃ (k : Nat) (S : Int), k ≤ bs.length ∧ i = .int .i64 k ∧ u = .int .u64 S ∧ Hid (S = (valD (bs.take k) : Nat)) ∧ Hid (∀ b ∈ bs.take k, isDg b) ∧ 0 ≤ S ∧ S ≤ 18446744073709551615 ∧ wr = w) (fun _ i _ => bs.length - (intOf i).toNat)
        case atStart => exact ⟨0, 0, by omega, rfl, rfl, (by show (0 : Int) = _; simp [valD]), (by show ∀ b ∈ bs.take 0, _; simp), by omega, by omega, rfl⟩
        case round =>
          obtain ⟨k, S, hk, rfl, rfl, HS, HD, hs0, hs1, rfl⟩ := hrel
          by_cases hlt : k < bs.length
          · obtain ⟨c2, hc2⟩ : ∃ c2, bs[k]? = some c2 := ⟨_, List.getElem?_eq_getElem hlt⟩
            have hki2 : (k : Int) < ((textB bs).size : Int) := by rw [HSZ.out]; omega
            have hx0 := text_get hc2 (by rw [HSZ.out]; exact hlt)
            have hxl := c2.toNat_lt
            have HNX : Hid (bs.take (k + 1) = bs.take k ++ [c2]) := by show _ = _; rw [List.take_add_one, hc2]; rfl
            have HBAD : Hid (¬ isDg c2 → ∀ m, m < 18446744073709551616 → decE m ≠ bs) := fun h => num_bad hc2 h
            have HBIG : Hid (18446744073709551616 ≤ valD (bs.take (k + 1)) → ∀ m, m < 18446744073709551616 → decE m ≠ bs) := fun h => num_big h
            have HVN : Hid (valD (bs.take (k + 1)) = 10 * valD (bs.take k) + (c2.toNat - 48)) := by show _ = _; rw [HNX.out, valD_push]
            have HDN : Hid (isDg c2 → ∀ b ∈ bs.take (k + 1), isDg b) := fun h b hb => by
              rw [HNX.out, List.mem_append, List.mem_singleton] at hb
              rcases hb with hb | rfl
              · exact HD.out b hb
              · exact h
            clear hc2 HNX HD
            obtain ⟨x, hx⟩ : ∃ x, c2.toNat = x := ⟨_, rfl⟩
            rw [hx] at hx0 hxl HVN
            have HX := Lib.hid hx
            clear hx
            by_cases hdg : 48 ≤ x ∧ x ≤ 57
            case neg =>
              have HE := Lib.hid (HBAD.out (fun h => hdg (by unfold isDg at h; rw [HX.out] at h; exact h)))
              obtain ⟨D, hD⟩ : ∃ D : Int, IntKind.u64.wrap ((x : Int) - 48) = D := ⟨_, rfl⟩
              have e6 : decide ((9 : Int) < D) = true := decide_eq_true (by rw [← hD, IntKind.wrap_u64]; omega)
              clear HBAD HBIG HVN HDN hdg
              go_wp2
              go_ret2
              exact ⟨NumPost.no HE.out, rfl⟩
            obtain ⟨hd1, hd2⟩ := hdg
            have hdgt : isDg c2 := by unfold isDg; rw [HX.out]; exact ⟨hd1, hd2⟩
            have HD2 := Lib.hid (HDN.out hdgt)
            obtain ⟨D, hDx⟩ : ∃ D : Int, (x : Int) - 48 = D := ⟨_, rfl⟩
            have hD : IntKind.u64.wrap ((x : Int) - 48) = D := by rw [IntKind.wrap_u64]; omega
            have hd0 : 0 ≤ D := by omega
            have hd9 : D ≤ 9 := by omega
            have e6 : decide ((9 : Int) < D) = false := decide_eq_false (by omega)
            have HVI : Hid (((valD (bs.take (k + 1)) : Nat) : Int) = 10 * S + D) := by
              show _ = _
              rw [HVN.out, HS.out]; omega
            clear HBAD HDN HVN HS hdgt
            obtain ⟨M, hM⟩ : ∃ M : Int, 18446744073709551615 - D = M := ⟨_, rfl⟩
            have hMw : IntKind.u64.wrap (18446744073709551615 - D) = M := by rw [IntKind.wrap_u64]; omega
            obtain ⟨Q, hQ'⟩ : ∃ Q : Int, M / 10 = Q := ⟨_, rfl⟩
            have HQ := Lib.hid hQ'
            have HM := Lib.hid hM
            have hQ : IntKind.u64.wrap (M.tdiv 10) = Q := by rw [Int.tdiv_eq_ediv_of_nonneg (by omega), hQ', IntKind.wrap_u64]; omega
            clear hQ'
            have HDX := Lib.hid hDx
            clear hDx hM
            by_cases hov : Q < S
            · have e7 : decide (Q < S) = true := decide_eq_true hov
              have HE := Lib.hid (HBIG.out (by
                have := HVI.out
                have := HQ.out
                have := HM.out
                omega))
              clear HBIG hov
              go_wp2
              go_ret2
              exact ⟨NumPost.no HE.out, rfl⟩
            · have e7 : decide (Q < S) = false := decide_eq_false hov
              have hsw : IntKind.u64.wrap (S * 10) = S * 10 := by
                have := HQ.out
                have := HM.out
                rw [IntKind.wrap_u64]; omega
              have hsw2 : IntKind.u64.wrap (S * 10 + D) = S * 10 + D := by
                have := HQ.out
                have := HM.out
                rw [IntKind.wrap_u64]; omega
              have hsb : S * 10 + D ≤ 18446744073709551615 := by
                have := HQ.out
                have := HM.out
                omega
              clear HBIG hov
              go_wp2
              go_roundw
              case rel => exact ⟨k + 1, S * 10 + D, by omega, by go_num, rfl, (by show _ = _; rw [HVI.out]; omega), HD2, by omega, hsb, trivial⟩
              case measure => simp [intOf]; omega
          · obtain rfl : k = bs.length := by omega
            have HF : Hid (NumPost bs (.returned (.tuple #[.int .u64 S, .bool true]))) := by
              have h1 := HD.out
              have h2 := HS.out
              rw [List.take_length] at h1 h2
              refine ⟨valD bs, true, by rw [h2], .inl ⟨rfl, by omega, decE_of (HNUM.out h1) (by omega)⟩⟩
            go_wp2
            go_ret2
            exact ⟨HF.out, rfl⟩
end Go.Proofs.YtndcnflboikodaaDoor
