/-
  The document's own slots: its functions, by contracts.
-/
import Derived.Test.YtahojmioonpodaaSlm
import Derived.Test.YtahojmioonpodaaQuiet
import Derived.Test.YtahojmioonpodaaOwn
import Derived.Test.YtahojmioonpodaaSleq
import Derived.RegionTactic
namespace Go.Proofs.Ytahojmioonpodaa
open Go.RowKit
set_option linter.unusedVariables false
set_option linter.unusedSimpArgs false
theorem pow_small {k : Nat} (h : k ≤ 8) : (2 : Int) ^ k ≤ 256 ∧ (0 : Int) < 2 ^ k := by
  rcases (show k = 0 ∨ k = 1 ∨ k = 2 ∨ k = 3 ∨ k = 4 ∨ k = 5 ∨ k = 6 ∨ k = 7 ∨ k = 8 by omega) with rfl | rfl | rfl | rfl | rfl | rfl | rfl | rfl | rfl <;> decide
theorem ref12All (r : Nat) (w : World) (h : r ≤ 8) : Calls Try.prog 62 #[.int .i64 r] w fun e w' => e = .returned (.int .i64 (everyN r)) ∧ w = w' := by
  go_enter Try.func62, Try.ntmps62
  go_wp2
  go_loopw [3, 4] (fun n u wr => ∃ k : Nat, k ≤ r ∧ u = .int .i64 k ∧ n = .int .i64 (2 ^ k) ∧ wr = w) (fun _ u _ => r - (intOf u).toNat)
  case atStart => exact ⟨0, by omega, rfl, rfl, rfl⟩
  case round =>
    obtain ⟨k, hk, rfl, rfl, rfl⟩ := hrel
    obtain ⟨p1, p2⟩ := pow_small (k := k) (by omega)
    by_cases hlt : k < r
    · have hd : decide (k < r) = true := by simpa using hlt
      have hnx : (2 : Int) ^ (k + 1) = 2 * 2 ^ k := by rw [Int.pow_succ]; omega
      have HNX := Lib.hid hnx
      clear hnx
      generalize (2 : Int) ^ k = p at *
      go_wp2
      go_roundw
      case rel => exact ⟨k + 1, by omega, by go_num, by rw [HNX.out], trivial⟩
      case measure => simp [intOf]; omega
    · obtain rfl : k = r := by omega
      have hd : decide (k < k) = false := by simp
      have he : everyN k = 2 ^ k - 1 := rfl
      generalize (2 : Int) ^ k = p at *
      have HE := Lib.hid he
      clear he
      go_wp2
      go_ret
      exact ⟨ret_int (by rw [HE.out]), rfl⟩
theorem ref12Bit (n j : Nat) (w : World) (hn : n ≤ 255) (hj : j ≤ 8) : Calls Try.prog 69 #[.int .i64 n, .int .i64 j] w fun e w' => e = .returned (.bool (hasBit n j)) ∧ w = w' := by
  go_enter Try.func69, Try.ntmps69
  go_wp2
  go_loopw [0, 5] (fun m u wr => ∃ k : Nat, k ≤ j ∧ u = .int .i64 k ∧ m = .int .i64 (n / 2 ^ k : Nat) ∧ wr = w) (fun _ u _ => j - (intOf u).toNat)
  case atStart => exact ⟨0, by omega, rfl, by simp, rfl⟩
  case round =>
    obtain ⟨k, hk, rfl, rfl, rfl⟩ := hrel
    have hle : n / 2 ^ k ≤ 255 := Nat.le_trans (Nat.div_le_self _ _) hn
    by_cases hlt : k < j
    · have hd : decide (k < j) = true := by simpa using hlt
      have hnx : n / 2 ^ (k + 1) = n / 2 ^ k / 2 := by rw [Nat.pow_succ, Nat.div_div_eq_div_mul]
      have HNX := Lib.hid hnx
      clear hnx
      generalize n / 2 ^ k = p at *
      go_wp2
      go_roundw
      case rel => exact ⟨k + 1, by omega, by go_num, by rw [HNX.out]; go_num, trivial⟩
      case measure => simp [intOf]; omega
    · obtain rfl : k = j := by omega
      have hd : decide (k < k) = false := by simp
      have he : hasBit n k = decide (n / 2 ^ k % 2 = 1) := by
        unfold hasBit
        have : ((n : Int) / 2 ^ k) = ((n / 2 ^ k : Nat) : Int) := by rw [Int.natCast_ediv, Int.natCast_pow]; rfl
        rw [this]
        congr 1; apply propext; omega
      generalize n / 2 ^ k = p at *
      have HE := Lib.hid he
      clear he
      go_wp2
      go_ret
      exact ⟨ret_bool (by rw [HE.out, Bool.eq_iff_iff]; simp; omega), rfl⟩
theorem Try.infoSlot : (Try.prog.info? 78).map (fun i => (i.zero, i.size, i.bytes)) = some (some (.agg #[.int .u64 0, .int .u64 0, .int .i64 0]), 3, 24) := by kernel_rfl
set_option maxHeartbeats 1000000 in
set_option maxRecDepth 100000 in
theorem ref12Same (v1 v2 : Value) (L M : List Sl) (n1 n2 : Nat) (w : World) (h1 : SeqS w 3 v1 n1 (rowsOf slF L)) (h2 : SeqS w 3 v2 n2 (rowsOf slF M)) :
    Calls Try.prog 46 #[v1, v2] w fun e w' => e = .returned (.bool (decide (L = M))) ∧ ∃ n, w' = w.drewN n := by
  have hl1 := h1.len_ slF_length (by decide)
  have hl2 := h2.len_ slF_length (by decide)
  obtain ⟨A1, c1, rfl, q1, q2, _⟩ := h1.form
  obtain ⟨A2, c2, rfl, q3, q4, _⟩ := h2.form
  subst hl1 hl2
  unfold maxLen at q2 q4
  by_cases hne : L.length = M.length
  · have e0 : (L.length == M.length) = true := by rw [beq_iff_eq]; exact hne
    have H1 := Lib.hid h1
    have H2 := Lib.hid h2
    have hnei : (L.length : Int) = (M.length : Int) := by omega
    clear h1 h2
    go_enter Try.func46, Try.ntmps46
    go_wp2
    go_loopw [5] (fun u wr => ∃ k : Nat, k ≤ L.length ∧ u = .int .i64 k ∧ L.take k = M.take k ∧ ∃ n, wr = w.drewN n) (fun u _ => L.length - (intOf u).toNat)
    case atStart => exact ⟨0, by omega, rfl, rfl, 0, rfl⟩
    case round =>
      obtain ⟨k, hk, rfl, htk, nd, rfl⟩ := hrel
      by_cases hlt : k < L.length
      · have hd : decide (k < L.length) = true := by simpa using hlt
        have hd2 : (k : Int) < (M.length : Int) := by omega
        have hd3 : (k : Int) < (L.length : Int) := by omega
        obtain ⟨x, hx⟩ : ∃ x, L[k]? = some x := ⟨_, List.getElem?_eq_getElem hlt⟩
        obtain ⟨y, hy⟩ : ∃ y, M[k]? = some y := ⟨_, List.getElem?_eq_getElem (by omega)⟩
        obtain ⟨b1, o1, rfl, _, g1⟩ := SeqS.at_ slF_length (by decide) H1.out hx
        obtain ⟨b2, o2, rfl, _, g2⟩ := SeqS.at_ slF_length (by decide) H2.out hy
        have c0 := g1 0 _ (by decide) rfl
        have c1 := g1 1 _ (by decide) rfl
        have c2 := g1 2 _ (by decide) rfl
        have d0 := g2 0 _ (by decide) rfl
        have d1 := g2 1 _ (by decide) rfl
        have d2 := g2 2 _ (by decide) rfl
        rw [Nat.add_zero] at c0 d0
        have HX := Lib.hid hx
        have HY := Lib.hid hy
        have HT := Lib.hid htk
        clear g1 g2 hx hy htk
        have hg := slotGuard
        have hq := slotNeq x y
        have HTK := fun (e : x = y) => Lib.hid (show L.take (k + 1) = M.take (k + 1) by rw [List.take_add_one, List.take_add_one, HT.out, HX.out, HY.out, e])
        have HNE := fun (e : ¬ x = y) => Lib.hid (show decide (L = M) = false by
          rw [decide_eq_false_iff_not]; intro e2
          have h1 := HX.out
          rw [e2, HY.out] at h1
          exact e (Option.some.inj h1).symm)
        by_cases hxy : x = y
        · have HTK2 := HTK hxy
          rw [decide_eq_true hxy] at hq
          clear HTK HNE hxy
          go_wp2
          go_quiet (fail)
          go_wp2
          go_roundw
          case rel => exact ⟨k + 1, by omega, by go_num, HTK2.out, _, rfl⟩
          case measure => simp [intOf]; omega
        · have HNE2 := HNE hxy
          rw [decide_eq_false hxy] at hq
          clear HTK HNE hxy
          go_wp2
          go_quiet (fail)
          go_wp2
          go_ret
          exact ⟨ret_bool (by rw [HNE2.out]), _, by rw [World.drewN_drewN]⟩
      · obtain rfl : k = L.length := by omega
        have hd : decide (L.length < L.length) = false := by simp
        rw [List.take_of_length_le (Nat.le_refl _), List.take_of_length_le (by omega)] at htk
        have HE := Lib.hid (show decide (L = M) = true from decide_eq_true htk)
        clear htk
        go_wp2
        go_ret
        exact ⟨ret_bool (by rw [HE.out]), _, rfl⟩
  · have e0 : (L.length == M.length) = false := by rw [beq_eq_false_iff_ne]; exact hne
    have HE := Lib.hid (show decide (L = M) = false by rw [decide_eq_false_iff_not]; exact fun e => hne (by rw [e]))
    clear h1 h2 hne
    go_enter Try.func46, Try.ntmps46
    go_wp2
    go_ret
    exact ⟨ret_bool (by rw [HE.out]), 0, rfl⟩
end Go.Proofs.Ytahojmioonpodaa
