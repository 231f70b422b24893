import Derived.Test.YtdlbgmkigfbfbaaDref
namespace Go.Proofs.Ytdlbgmkigfbfbaa
open Go.RowKit
set_option linter.unusedVariables false
theorem refZig (n : Int) (w : World) (h1 : -9223372036854775808 ≤ n) (h2 : n ≤ 9223372036854775807) : Calls Try.prog 10 #[.int .i64 n] w fun e w' => e = .returned (.int .u64 (zig n)) ∧ w = w' := by
  by_cases h : 0 ≤ n
  · have hz : Hid (IntKind.u64.wrap (2 * IntKind.u64.wrap n) = (zig n : Int)) := by
      unfold Hid zig; rw [if_pos h, IntKind.wrap_u64, IntKind.wrap_u64]; omega
    have hz2 : Hid (IntKind.u64.wrap (2 * n) = (zig n : Int)) := by
      unfold Hid zig; rw [if_pos h, IntKind.wrap_u64]; omega
    have hz3 : Hid (2 * n = (zig n : Int)) := by
      unfold Hid zig; rw [if_pos h]; omega
    go_enter Try.func10, Try.ntmps10
    go_wp2
    go_ret
    exact ⟨ret_int (by first | exact hz.out | exact hz2.out | exact hz3.out), rfl⟩
  · have e0 : decide (0 ≤ n) = false := by simpa using h
    have hz : Hid (2 * -(n + 1) + 1 = (zig n : Int)) := by
      unfold Hid zig; rw [if_neg h]; omega
    have b1 : -9223372036854775808 ≤ n + 1 ∧ n + 1 ≤ 0 := by omega
    have b2 : 0 ≤ -(n + 1) ∧ -(n + 1) ≤ 9223372036854775807 := by omega
    go_enter Try.func10, Try.ntmps10
    go_wp2
    go_ret
    exact ⟨ret_int hz.out, rfl⟩
theorem up_sgn (a b : Nat) (ha : a < M64) (hb : b < M64) : IntKind.u64.wrap ((b : Int) - a) = (((b + (M64 - a)) % M64 : Nat) : Int) := by
  unfold M64 at *; rw [IntKind.wrap_u64]; omega
set_option maxHeartbeats 1000000 in
set_option maxRecDepth 100000 in
theorem refDeltas (v : Value) (xs : List Nat) (w : World) (h : SeqAt w v (cells64 xs)) (hx : ∀ n ∈ xs, n < M64) (hl : xs.length ≤ 1099511627776) :
    Calls Try.prog 15 #[v] w fun e w' => ∃ v', e = .returned v' ∧ w'.ownsRow w.heap.size 22 1 v' xs.length (cells64 (deltas 0 xs)) ∧ Below w.heap.size w w' := by
  have hh := h
  obtain ⟨A, c, rfl, _, hc2, _⟩ := hh
  have hcl : (cells64 xs).length = xs.length := by simp [cells64]
  rw [hcl] at *
  unfold maxLen at hc2
  have H := Lib.hid h
  have HX := Lib.hid hx
  clear h hx hcl
  go_enter Try.func15, Try.ntmps15
  go_wp2_with fail
  go_loopw [3, 4, 5] (fun o t i wr => ∃ k : Nat, k ≤ xs.length ∧ i = .int .i64 k ∧ t = .int .u64 (((0 : Nat) :: xs).getD k 0) ∧ wr.ownsRow w.heap.size 22 1 o k (cells64 ((deltas 0 xs).take k)) ∧ Below w.heap.size w wr)
    (fun _ _ i _ => xs.length - (intOf i).toNat)
  case atStart => exact ⟨0, by omega, rfl, rfl, World.ownsRow_nil _ _ _ _, Below.refl _ _⟩
  case round =>
    obtain ⟨k, hk, rfl, rfl, ho, hb⟩ := hrel
    have hBr := hb.size
    by_cases hlt : k < xs.length
    · have hki : (k : Int) < (xs.length : Int) := by omega
      obtain ⟨n, hn⟩ : ∃ n, xs[k]? = some n := ⟨xs[k], List.getElem?_eq_getElem hlt⟩
      have hn2 := HX.out n (List.mem_of_getElem? hn)
      have hn3 : n ≤ 18446744073709551615 := by unfold M64 at hn2; omega
      have hs2 := state_lt HX.out k
      have hs3 := Lib.hid (state_next hn)
      obtain ⟨b, off, rfl, hbl, hc⟩ := H.out.get hb (cells64_get hn)
      have hd := deltas_get xs 0 k n hn
      have HD := Lib.hid (take_next hd)
      generalize ((0 : Nat) :: xs).getD k 0 = L at *
      have hL : L ≤ 18446744073709551615 := by unfold M64 at hs2; omega
      clear hn hd
      have hU := up_sgn L n hs2 hn2
      have hDn := up_sgn n L hn2 hs2
      obtain ⟨U, hUe⟩ : ∃ U, U = (n + (M64 - L)) % M64 := ⟨_, rfl⟩
      obtain ⟨D, hDe⟩ : ∃ D, D = (L + (M64 - n)) % M64 := ⟨_, rfl⟩
      rw [← hUe] at hU
      rw [← hDe] at hDn
      have hdel : deltaOf L n = zig (sgn U) := by rw [hUe]; rfl
      have hUM : U < M64 := by rw [hUe]; exact Nat.mod_lt _ (by decide)
      have hUD : 0 < U → U + D = M64 := by intro h0; rw [hUe] at h0; rw [hUe, hDe]; unfold M64 at *; omega
      have HDEL := Lib.hid hdel
      have HUE := Lib.hid hUe
      have HDE := Lib.hid hDe
      clear hdel hUe hDe
      have hU3 : U ≤ 18446744073709551615 := by unfold M64 at hUM; omega
      obtain ⟨Ui, hUi⟩ : ∃ Ui : Int, Ui = U := ⟨_, rfl⟩
      obtain ⟨Di, hDi⟩ : ∃ Di : Int, Di = D := ⟨_, rfl⟩
      rw [← hUi] at hU
      rw [← hDi] at hDn
      have HUI := Lib.hid hUi
      have HDI := Lib.hid hDi
      clear hUi hDi hU3
      go_wp2_with fail
      go_quiet (fail)
      have HUD := Lib.hid hUD
      have HUM := Lib.hid hUM
      have hD3 : D ≤ 18446744073709551615 := by rw [HDE.out]; have := Nat.mod_lt (L + (M64 - n)) (by decide : M64 > 0); unfold M64 at *; omega
      have HD3 := Lib.hid hD3
      clear hU hDn hUD hUM hs2 hn2 hD3
      by_cases hup : U < 9223372036854775808
      · have hv : 2 * Ui = (deltaOf L n : Int) := by
          rw [HDEL.out, HUI.out]; unfold zig sgn; rw [if_pos hup, if_pos (by omega)]; omega
        have HV := Lib.hid hv
        have hup2 : Ui ≤ 9223372036854775807 := by rw [HUI.out]; omega
        have hup3 : 0 ≤ Ui := by rw [HUI.out]; omega
        clear hv hup
        have ho1 : (wr.drewN nq).ownsRow w.heap.size 22 1 u3 k (cells64 ((deltas 0 xs).take k)) := ho
        have HO1 := Lib.hid ho1
        clear ho1
        go_wp2_with (at_builtin; refine append_one (wr.drewN nq) (.int .u64 (2 * Ui)) rfl (.tmp 28) (.tmp 31) 27 rfl w.heap.size 22 _ _ Try.underlying27 Try.infoU64 rfl rfl _ _ _ rfl HO1.out rfl (by unfold maxLen; omega) (by omega) hBr ?_; intro v' w1 hown1 hb1 _; have hc2 := (hb1.cell (p := ⟨b, off + k, none⟩) hbl).trans hc)
        go_roundw
        case rel => exact ⟨k + 1, by omega, by go_num, by rw [hs3.out], by rw [HV.out, HD.out] at hown1; exact hown1, hb.trans ((⟨rfl, rfl, rfl, Nat.le_refl _, fun _ _ => rfl⟩ : Below w.heap.size wr (wr.drewN nq)).trans hb1)⟩
        case measure => simp [intOf]; omega
      · have hup2 : 9223372036854775808 ≤ Ui := by rw [HUI.out]; omega
        have hup3 : Ui ≤ 18446744073709551615 := by rw [HUI.out]; have := HUM.out; unfold M64 at this; omega
        have hD0 : D = M64 - U ∧ 0 < U := by have h1 := HUD.out (by omega); unfold M64 at *; omega
        have hd2 : 1 ≤ Di ∧ Di ≤ 9223372036854775808 := by rw [HDI.out]; obtain ⟨h1, h2⟩ := hD0; have := HUM.out; unfold M64 at *; omega
        have hv : 2 * (Di - 1) + 1 = (deltaOf L n : Int) := by
          rw [HDEL.out, HDI.out]; unfold zig sgn; rw [if_neg hup]
          obtain ⟨h1, h2⟩ := hD0
          have := HUM.out
          rw [if_neg (by unfold M64 at this; omega)]
          unfold M64 at *; omega
        have HV := Lib.hid hv
        obtain ⟨hd3, hd4⟩ := hd2
        clear hv hup hD0
        have ho1 : (wr.drewN nq).ownsRow w.heap.size 22 1 u3 k (cells64 ((deltas 0 xs).take k)) := ho
        have HO1 := Lib.hid ho1
        clear ho1
        go_wp2_with (at_builtin; refine append_one (wr.drewN nq) (.int .u64 (2 * (Di - 1) + 1)) rfl (.tmp 33) (.tmp 38) 27 rfl w.heap.size 22 _ _ Try.underlying27 Try.infoU64 rfl rfl _ _ _ rfl HO1.out rfl (by unfold maxLen; omega) (by omega) hBr ?_; intro v' w1 hown1 hb1 _; have hc2 := (hb1.cell (p := ⟨b, off + k, none⟩) hbl).trans hc)
        go_roundw
        case rel => exact ⟨k + 1, by omega, by go_num, by rw [hs3.out], by rw [HV.out, HD.out] at hown1; exact hown1, hb.trans ((⟨rfl, rfl, rfl, Nat.le_refl _, fun _ _ => rfl⟩ : Below w.heap.size wr (wr.drewN nq)).trans hb1)⟩
        case measure => simp [intOf]; omega
    · obtain rfl : k = xs.length := by omega
      rw [List.take_of_length_le (by rw [deltas_length]; exact Nat.le_refl _)] at ho
      go_wp2
      go_ret
      exact ⟨_, rfl, ho, hb⟩
end Go.Proofs.Ytdlbgmkigfbfbaa
