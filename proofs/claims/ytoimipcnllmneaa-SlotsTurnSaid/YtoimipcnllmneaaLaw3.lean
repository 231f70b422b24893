import Derived.Test.YtoimipcnllmneaaLaw2
namespace Go.Proofs.Ytoimipcnllmneaa
open Go.RowKit
set_option linter.unusedVariables false
set_option linter.unusedSimpArgs false
/-- The readers that are left, behind k of them from f on. -/
def leftK (r f : Nat) : Nat → Int
  | 0 => everyN r
  | k + 1 => leftK r f k - 2 ^ ((f + k) % r)
theorem leftK_all : ∀ r, r < 9 → ∀ f, f < r → ∀ k, k < r → hasBit (leftK r f k) ((f + k) % r) = true ∧ (leftK r f (k + 1) = 0 ↔ k + 1 = r) := by decide +kernel
def turnX (r f p at_ v k : Nat) : Sl := if k < r then ⟨2 * at_ + 1, v, leftK r f k⟩ else ⟨2 * (at_ + p), 0, 0⟩
theorem turn_free {L : List Sl} {p t : Nat} (hl : L.length = p) (hx : L[t % p]? = some ⟨2 * t, 0, 0⟩) (ht : t < 4611686018427387904) : freeB L t = true ∧ putE L t = 0 := by
  have hs : slX L t = ⟨2 * t, 0, 0⟩ := slX_of (i := t % p) (by rw [hl]) hx
  refine ⟨decide_eq_true ⟨ht, by rw [hs]⟩, ?_⟩
  unfold putE; rw [hs]; simp only
  rw [if_neg (by omega), if_neg (by omega), if_neg (by omega)]
theorem turn_held {L : List Sl} {p t v r f k : Nat} (hl : L.length = p) (hx : L[t % p]? = some (turnX r f p t v k)) (ht : t < 4611686018427300000) (hk : k < r) (hr : r < 9) (hf : f < r) (hp : 1 ≤ p) (hp2 : p ≤ 64) :
    freeB L (t + p) = false ∧ getE r L ((f + k) % r : Nat) t = 0 ∧ getV r L ((f + k) % r : Nat) t = v ∧ (getS r L ((f + k) % r : Nat) t)[t % p]? = some (turnX r f p t v (k + 1)) := by
  obtain ⟨h1, h2⟩ := leftK_all r hr f hf k hk
  have hlt : (f + k) % r < r := Nat.mod_lt _ (by omega)
  have hX : turnX r f p t v k = ⟨2 * t + 1, v, leftK r f k⟩ := if_pos hk
  rw [hX] at hx
  have hs : slX L t = ⟨2 * t + 1, v, leftK r f k⟩ := slX_of (i := t % p) (by rw [hl]) hx
  have hs2 : slX L (t + p) = ⟨2 * t + 1, v, leftK r f k⟩ := slX_of (i := t % p) (by rw [hl, Nat.add_mod_right]) hx
  have hE : getE r L ((f + k) % r : Nat) t = 0 := by
    unfold getE; rw [hs]; simp only
    rw [if_neg (by omega), if_neg (by omega), if_neg]
    rw [Int.toNat_natCast, h1]; simp
  refine ⟨decide_eq_false (fun h => by rw [hs2] at h; simp only at h; omega), hE, by unfold getV; rw [hE, if_pos rfl, hs], ?_⟩
  unfold getS
  rw [hE, if_pos rfl, hl, hs, Int.toNat_natCast, List.getElem?_set_self (by rw [hl]; exact Nat.mod_lt _ (by omega))]
  unfold gotX turnX
  simp only
  have h3 : leftK r f k - 2 ^ ((f + k) % r) = leftK r f (k + 1) := rfl
  rw [h3]
  by_cases h4 : k + 1 = r
  · rw [if_pos (h2.2 h4), if_neg (by omega)]
  · rw [if_neg (fun h => h4 (h2.1 h)), if_pos (by omega)]
set_option maxHeartbeats 2000000 in
set_option maxRecDepth 100000 in
theorem turn_walk (a0 a1 a2 a3 a4 : Int) (w : World) (w0 : (Lit.int .i64 a0).wf = true) (w1 : (Lit.int .i64 a1).wf = true) (w2 : (Lit.int .u64 a2).wf = true) (w3 : (Lit.int .u64 a3).wf = true) (w4 : (Lit.int .i64 a4).wf = true) :
    Calls Try.prog 5 #[.int .i64 a0, .int .i64 a1, .int .u64 a2, .int .u64 a3, .int .i64 a4] w fun e w' => e = .returned (.bool true) ∧ Below w.heap.size w w' := by
  obtain ⟨b3, b4⟩ := Go.bounds_u64 w2
  obtain ⟨b5, b6⟩ := Go.bounds_u64 w3
  obtain ⟨a, ha, hae⟩ := modK a0 64 (by decide) (by decide)
  obtain ⟨b, hb, hbe⟩ := modK a1 8 (by decide) (by decide)
  have hae : (IntKind.u64.wrap a0).tmod 64 = (a : Int) := hae
  have hbe : (IntKind.u64.wrap a1).tmod 8 = (b : Int) := hbe
  obtain ⟨p, hp⟩ : ∃ p, p = a + 1 := ⟨_, rfl⟩
  obtain ⟨r, hr⟩ : ∃ r, r = b + 1 := ⟨_, rfl⟩
  have hpe : 1 + (a : Int) = (p : Int) := by omega
  have hre : 1 + (b : Int) = (r : Int) := by omega
  have hp1 : 1 ≤ p := by omega
  have hp2 : p ≤ 64 := by omega
  have hr1 : 1 ≤ r := by omega
  have hr2 : r ≤ 8 := by omega
  obtain ⟨f, hf, hfe⟩ := modK a4 r (by omega) (by omega)
  have hwp : IntKind.u64.wrap (p : Int) = (p : Int) := by rw [IntKind.wrap_u64]; omega
  have hwr : IntKind.u64.wrap (r : Int) = (r : Int) := by rw [IntKind.wrap_u64]; omega
  have hwf : IntKind.u64.wrap (f : Int) = (f : Int) := by rw [IntKind.wrap_u64]; omega
  obtain ⟨t0, ht0, hte⟩ : ∃ t0 : Nat, t0 < p ∧ (f : Int).tmod (p : Int) = (t0 : Int) := ⟨f % p, Nat.mod_lt _ (by omega), rfl⟩
  obtain ⟨n, hn, hne⟩ : ∃ n : Nat, n < 5 ∧ a2.tmod 5 = (n : Int) := ⟨a2.toNat % 5, Nat.mod_lt _ (by omega), by
    obtain ⟨n, rfl⟩ : ∃ n : Nat, a2 = n := ⟨a2.toNat, by omega⟩
    rfl⟩
  obtain ⟨v, rfl⟩ : ∃ v : Nat, a3 = v := ⟨a3.toNat, by omega⟩
  clear w0 w1 w2 w3 w4 hp ha hr hb
  go_enter Try.func5, Try.ntmps5
  go_wp2_with fail
  refine (slotsNew p r w hp1 hp2 hr1 hr2).mono ?_
  rintro e w1 ⟨rfl, hs1, hb1⟩
  go_wp2_with fail
  refine (awake_any w1).mono ?_
  rintro e w2 ⟨rfl, hb⟩
  have hb2 := hb1.trans (hb.mono hb1.size)
  have hs2 := hs1.later hb
  have hg0 : (newS p)[t0 % p]? = some ⟨2 * t0, 0, 0⟩ := by rw [Nat.mod_eq_of_lt ht0]; exact newS_get ht0
  clear hs1 hb1 hb
  have HS2 := Lib.hid hs2
  have HG0 := Lib.hid hg0
  clear hs2 hg0
  go_wp2
  go_loopw [13, 53] (fun x u wr => ∃ (q t : Nat) (L : List Sl), q ≤ n + 1 ∧ u = .int .u64 q ∧ x = .int .u64 t ∧ t ≤ 64 + 64 * q ∧ t % p = t0 % p ∧ L.length = p ∧ Hid (L[t0 % p]? = some ⟨2 * t, 0, 0⟩) ∧ SlAt wr w.heap.size 55 [] [] r L ∧ Below w.heap.size w wr)
    (fun _ u _ => n + 1 - (intOf u).toNat)
  case atStart => exact ⟨0, t0, _, by omega, rfl, rfl, by omega, rfl, newS_length p, HG0, HS2.out, hb2⟩
  case round =>
    clear HG0 HS2 hb2
    obtain ⟨q, t, L, hq, rfl, rfl, htl, htm, hL, hx, hs, hb⟩ := hrel
    rw [← htm] at hx
    obtain ⟨hfr, hpe0⟩ := turn_free hL hx.out (by omega)
    have hfree := slotsIsFree t hs rfl (by omega)
    rw [hfr] at hfree
    have HFR := Lib.hid hfree
    have HS := Lib.hid hs
    have HX := Lib.hid hx.out
    have HPE0 := Lib.hid hpe0
    clear hfree hs hx hfr hpe0
    by_cases hqn : q < n + 1
    · have hqi : (q : Int) < (n : Int) + 1 := by omega
      go_wp2_with fail
      refine HFR.out.mono ?_
      rintro e w3 ⟨rfl, nd, hw3⟩
      have hs3 : SlAt w3 w.heap.size 55 [] [] r L := by rw [hw3]; exact HS.out
      have hb3 : Below w.heap.size w w3 := by rw [hw3]; exact below_drewN hb _
      clear hw3 HS hb HFR
      have hput := slotsPut t v hs3 rfl (by omega) (by omega)
      rw [HPE0.out] at hput
      have hpS : putS r L t v = L.set (t % p) ⟨2 * t + 1, v, everyN r⟩ := by unfold putS; rw [HPE0.out, if_pos rfl, hL]
      rw [hpS] at hput
      have HPUT := Lib.hid hput
      clear hput hpS hs3 HPE0
      go_wp2_with fail
      refine HPUT.out.mono ?_
      rintro e w4 ⟨rfl, hs4, hk4⟩
      have hb4 := hb3.trans (hk4.below hb3.size (fun j hj (e : j = _) => by omega))
      have hL4 : (L.set (t % p) ⟨2 * t + 1, v, everyN r⟩).length = p := by rw [List.length_set]; exact hL
      have hx4 : (L.set (t % p) ⟨2 * t + 1, v, everyN r⟩)[t % p]? = some (turnX r f p t v 0) := by
        rw [List.getElem?_set_self (by rw [hL]; exact Nat.mod_lt _ (by omega))]
        unfold turnX; rw [if_pos (by omega)]; rfl
      clear hb3 hk4 HX HPUT
      generalize L.set (t % p) ⟨2 * t + 1, v, everyN r⟩ = L4 at *
      have hfr2 := slotsIsFree (t + p) hs4 rfl (by omega)
      rw [(turn_held hL4 hx4 (by omega) (by omega) (by omega) hf hp1 hp2).1] at hfr2
      have HFR2 := Lib.hid hfr2
      have HS4 := Lib.hid hs4
      have HX4 := Lib.hid hx4
      clear hfr2 hs4 hx4
      go_wp2_with fail
      refine HFR2.out.mono ?_
      rintro e w5 ⟨rfl, nd, hw5⟩
      have hs5 : SlAt w5 w.heap.size 55 [] [] r L4 := by rw [hw5]; exact HS4.out
      have hb5 : Below w.heap.size w w5 := by rw [hw5]; exact below_drewN hb4 _
      have HS5 := Lib.hid hs5
      clear hw5 HS4 hb4 HFR2 hs5
      go_wp2
      go_loopw [75] (fun u wq => ∃ (k : Nat) (L : List Sl), k ≤ r ∧ u = .int .i64 k ∧ L.length = p ∧ Hid (L[t % p]? = some (turnX r f p t v k)) ∧ SlAt wq w.heap.size 55 [] [] r L ∧ Below w.heap.size w wq) (fun u _ => r - (intOf u).toNat)
      case atStart => exact ⟨0, L4, by omega, rfl, hL4, HX4, HS5.out, hb5⟩
      case round =>
        clear HX4 HS5 hb5 hL4
        obtain ⟨k, M, hk, rfl, hM, hx, hs, hb⟩ := hrel
        by_cases hkr : k < r
        · have hki : (k : Int) < (r : Int) := by omega
          obtain ⟨h1, h2, h3, h4⟩ := turn_held hM hx.out (by omega) hkr (by omega) hf hp1 hp2
          have hfr2 := slotsIsFree (t + p) hs rfl (by omega)
          rw [h1] at hfr2
          have HFR2 := Lib.hid hfr2
          have HS := Lib.hid hs
          have hje : ((f : Int) + (k : Int)).tmod (r : Int) = (((f + k) % r : Nat) : Int) := rfl
          have hjl : (f + k) % r < r := Nat.mod_lt _ (by omega)
          have H2 := Lib.hid h2
          have H3 := Lib.hid h3
          have H4 := Lib.hid h4
          clear h1 h2 h3 h4 hfr2 hs hx
          generalize (f + k) % r = j at *
          go_wp2_with fail
          refine HFR2.out.mono ?_
          rintro e w6 ⟨rfl, nd, hw6⟩
          have hs6 : SlAt w6 w.heap.size 55 [] [] r M := by rw [hw6]; exact HS.out
          have hb6 : Below w.heap.size w w6 := by rw [hw6]; exact below_drewN hb _
          have hget := slotsGet (j : Int) t hs6 rfl (by omega)
          rw [H2.out, H3.out] at hget
          have HGET := Lib.hid hget
          clear hw6 HS hb HFR2 hget hs6
          go_wp2_with fail
          refine HGET.out.mono ?_
          rintro e w7 ⟨rfl, hs7, hk7⟩
          have hb7 := hb6.trans (hk7.below hb6.size (fun j hj (e : j = _) => by omega))
          have hM7 : (getS r M (j : Int) t).length = p := by rw [getS_length]; exact hM
          have HS7 := Lib.hid hs7
          clear hs7 hk7 hb6 HGET
          go_wp2
          go_roundw
          case rel => exact ⟨k + 1, _, by omega, by go_num, hM7, H4, HS7.out, hb7⟩
          case measure => simp [intOf]; omega
        · obtain rfl : k = r := by omega
          have hxe : turnX k f p t v k = ⟨2 * (t + p), 0, 0⟩ := if_neg (by omega)
          have hx2 := hx.out
          rw [hxe, htm] at hx2
          have HX2 := Lib.hid hx2
          have HS := Lib.hid hs
          clear hx hx2 hs hxe
          go_wp2
          go_roundw
          case rel => exact ⟨q + 1, t + p, M, by omega, by go_num, by go_num, by omega, by rw [Nat.add_mod_right]; exact htm, hM, HX2, HS.out, hb⟩
          case measure => simp [intOf]; omega
    · obtain rfl : q = n + 1 := by omega
      go_wp2_with fail
      refine HFR.out.mono ?_
      rintro e w3 ⟨rfl, nd, hw3⟩
      have hb3 : Below w.heap.size w w3 := by rw [hw3]; exact below_drewN hb _
      clear hw3
      go_wp2
      go_ret
      exact ⟨rfl, hb3⟩
end Go.Proofs.Ytoimipcnllmneaa
