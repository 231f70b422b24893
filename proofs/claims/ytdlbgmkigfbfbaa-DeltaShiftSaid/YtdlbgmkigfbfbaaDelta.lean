/-
  Deltas and sums of lists, made in Go.
-/
import Derived.Test.YtdlbgmkigfbfbaaZig
import Derived.Test.YtdlbgmkigfbfbaaPlist
namespace Go.Proofs.Ytdlbgmkigfbfbaa
open Go.RowKit
set_option linter.unusedVariables false
/-- The state ahead of each round: 0, and then what was last. -/
theorem deltas_get (l : List Nat) : ∀ (a k n : Nat), l[k]? = some n → (deltas a l)[k]? = some (deltaOf ((a :: l).getD k 0) n) := by
  induction l with
  | nil => intro a k n h; simp at h
  | cons m l ih =>
    intro a k n h
    cases k with
    | zero => simp at h; subst h; simp [deltas]
    | succ k =>
      rw [List.getElem?_cons_succ] at h
      have := ih m k n h
      rw [deltas, List.getElem?_cons_succ, this]
      simp
theorem sums_get (l : List Nat) : ∀ (a k n : Nat), l[k]? = some n → (sums a l)[k]? = some (addZ ((a :: sums a l).getD k 0) n) := by
  induction l with
  | nil => intro a k n h; simp at h
  | cons m l ih =>
    intro a k n h
    cases k with
    | zero => simp at h; subst h; simp [sums]
    | succ k =>
      rw [List.getElem?_cons_succ] at h
      have := ih (addZ a m) k n h
      rw [sums, List.getElem?_cons_succ, this]
      simp
theorem state_lt {l : List Nat} (hl : ∀ n ∈ l, n < M64) (k : Nat) : ((0 : Nat) :: l).getD k 0 < M64 := by
  rw [List.getD_eq_getElem?_getD]
  cases k with
  | zero => simp [M64]
  | succ k =>
    rw [List.getElem?_cons_succ]
    cases h : l[k]? with
    | none => simp [M64]
    | some n => exact hl n (List.mem_of_getElem? h)
theorem state_next {l : List Nat} {k n : Nat} (h : l[k]? = some n) : ((0 : Nat) :: l).getD (k + 1) 0 = n := by simp [List.getD_eq_getElem?_getD, h]
theorem take_next {l : List Nat} {k n : Nat} (h : l[k]? = some n) : cells64 (l.take k) ++ [.int .u64 (n : Int)] = cells64 (l.take (k + 1)) := by
  rw [List.take_add_one, h]; simp [cells64]
/-- 64 bits as a number with a sign. -/
theorem wrap_sgn (a b : Nat) (ha : a < M64) (hb : b < M64) : wrap64 (IntKind.u64.wrap ((b : Int) - a)) = sgn ((b + (M64 - a)) % M64) := by
  unfold M64 at *
  rw [IntKind.wrap_u64]
  unfold wrap64 sgn
  split <;> omega
theorem wrap_addZ (a u : Nat) (ha : a < M64) (hu : u < M64) : IntKind.u64.wrap ((a : Int) + IntKind.u64.wrap (zag u)) = (addZ a u : Int) := by
  rw [IntKind.wrap_u64, IntKind.wrap_u64]
  unfold addZ
  omega
set_option maxHeartbeats 1000000 in
theorem deltaDeltas (v : Value) (xs : List Nat) (w : World) (h : SeqAt w v (cells64 xs)) (hx : ∀ n ∈ xs, n < M64) (hl : xs.length ≤ 1099511627776) :
    Calls Try.prog 12 #[v] w fun e w' => ∃ v', e = .returned v' ∧ w'.ownsRow w.heap.size 22 1 v' xs.length (cells64 (deltas 0 xs)) ∧ Below w.heap.size w w' := by
  obtain ⟨i0, hi, hz0, hz1, hz2⟩ := info_parts Try.infoU64
  have hh := h
  obtain ⟨A, c, rfl, _, hc2, _⟩ := hh
  have hcl : (cells64 xs).length = xs.length := by simp [cells64]
  rw [hcl] at *
  unfold maxLen at hc2
  have H := Lib.hid h
  have HX := Lib.hid hx
  clear h hx hcl
  go_enter Try.func12, Try.ntmps12
  go_wp2_with (at_make; refine wpList_make_full _ rfl _ _ 27 rfl w.heap.size 22 i0 (.int .u64 0) 1 Try.underlying27 hi hz0 hz1 .i64 .i64 _ _ xs.length rfl rfl rfl rfl (by rw [hz2]; omega) (by unfold maxLen; omega) (Nat.le_refl _) ?_; intro w1 ho1 hg1)
  rw [zeros_made (.int .u64 0) rfl] at ho1
  have hb1 : Below w.heap.size w w1 := (Below.refl _ _).grown hg1 (Nat.le_refl _) (fun _ h => by cases h)
  clear hg1
  go_wp2_with fail
  go_loopw [4, 12] (fun t i wr => ∃ k : Nat, k ≤ xs.length ∧ i = .int .i64 k ∧ t = .int .u64 (((0 : Nat) :: xs).getD k 0) ∧ wr.ownsRow w.heap.size 22 1 (.slice (some ⟨w.heap.size, 0, none⟩) xs.length xs.length) xs.length (cells64 ((deltas 0 xs).take k) ++ List.replicate (xs.length - k) (.int .u64 0)) ∧ Below w.heap.size w wr)
    (fun _ i _ => xs.length - (intOf i).toNat)
  case atStart => exact ⟨0, by omega, rfl, rfl, by simpa [cells64] using ho1, hb1⟩
  case round =>
    clear ho1 hb1
    obtain ⟨k, hk, rfl, rfl, ho, hb⟩ := hrel
    by_cases hlt : k < xs.length
    · have hki : (k : Int) < (xs.length : Int) := by omega
      obtain ⟨n, hn⟩ : ∃ n, xs[k]? = some n := ⟨xs[k], List.getElem?_eq_getElem hlt⟩
      have hn2 := HX.out n (List.mem_of_getElem? hn)
      have hn3 : n ≤ 18446744073709551615 := by unfold M64 at hn2; omega
      have hs2 := state_lt HX.out k
      have hs3 := Lib.hid (state_next hn)
      obtain ⟨b, off, rfl, hbl, hc⟩ := H.out.get hb (cells64_get hn)
      have hd := deltas_get xs 0 k n hn
      have HD := Lib.hid (take_next hd)
      have HW := Lib.hid (wrap_sgn _ n hs2 hn2)
      generalize ((0 : Nat) :: xs).getD k 0 = L at *
      have hL : L ≤ 18446744073709551615 := by unfold M64 at hs2; omega
      have hsg := sgn_in _ (Nat.mod_lt (n + (M64 - L)) (by decide : M64 > 0))
      have hrep : xs.length - k = xs.length - (k + 1) + 1 := by omega
      have hAl : (cells64 ((deltas 0 xs).take k)).length = k := by
        have := deltas_length xs 0
        simp [cells64]; omega
      have hcell : wr.cell? ⟨w.heap.size, k, none⟩ = some (.int .u64 0) := owns_cell ho (by
        rw [List.getElem?_append_right (by omega), hAl, Nat.sub_self, hrep, List.replicate_succ]; rfl)
      have hfree : wr.frozen? ⟨w.heap.size, k, none⟩ = false := owns_free ho hlt
      have hset := owns_set (u := .int .u64 (deltaOf L n)) ho hlt
      rw [hrep, set_next _ _ _ _ _ hAl, HD.out] at hset
      have HS := Lib.hid hset
      clear hn hset hrep hAl hd
      go_wp2_with fail
      rw [HW.out]
      refine (deltaZig _ wr hsg.1 hsg.2).mono ?_
      rintro e w' ⟨rfl, rfl⟩
      rw [show zig (sgn ((n + (M64 - L)) % M64)) = deltaOf L n from rfl]
      go_wp2
      go_roundw
      case rel => exact ⟨k + 1, by omega, by go_num, by rw [hs3.out], HS.out, hb.setCell (p := ⟨w.heap.size, k, none⟩) (Nat.le_refl _) _⟩
      case measure => simp [intOf]; omega
    · obtain rfl : k = xs.length := by omega
      rw [Nat.sub_self, List.replicate_zero, List.append_nil, List.take_of_length_le (by rw [deltas_length]; exact Nat.le_refl _)] at ho
      go_wp2
      go_ret
      exact ⟨_, rfl, ho, hb⟩
set_option maxHeartbeats 1000000 in
theorem deltaSums (v : Value) (xs : List Nat) (w : World) (h : SeqAt w v (cells64 xs)) (hx : ∀ n ∈ xs, n < M64) (hl : xs.length ≤ 1099511627776) :
    Calls Try.prog 13 #[v] w fun e w' => ∃ v', e = .returned v' ∧ w'.ownsRow w.heap.size 22 1 v' xs.length (cells64 (sums 0 xs)) ∧ Below w.heap.size w w' := by
  obtain ⟨i0, hi, hz0, hz1, hz2⟩ := info_parts Try.infoU64
  have hh := h
  obtain ⟨A, c, rfl, _, hc2, _⟩ := hh
  have hcl : (cells64 xs).length = xs.length := by simp [cells64]
  rw [hcl] at *
  unfold maxLen at hc2
  have H := Lib.hid h
  have HX := Lib.hid hx
  clear h hx hcl
  go_enter Try.func13, Try.ntmps13
  go_wp2_with (at_make; refine wpList_make_full _ rfl _ _ 27 rfl w.heap.size 22 i0 (.int .u64 0) 1 Try.underlying27 hi hz0 hz1 .i64 .i64 _ _ xs.length rfl rfl rfl rfl (by rw [hz2]; omega) (by unfold maxLen; omega) (Nat.le_refl _) ?_; intro w1 ho1 hg1)
  rw [zeros_made (.int .u64 0) rfl] at ho1
  have hb1 : Below w.heap.size w w1 := (Below.refl _ _).grown hg1 (Nat.le_refl _) (fun _ h => by cases h)
  clear hg1
  go_wp2_with fail
  go_loopw [4, 12] (fun t i wr => ∃ k : Nat, k ≤ xs.length ∧ i = .int .i64 k ∧ t = .int .u64 (((0 : Nat) :: sums 0 xs).getD k 0) ∧ wr.ownsRow w.heap.size 22 1 (.slice (some ⟨w.heap.size, 0, none⟩) xs.length xs.length) xs.length (cells64 ((sums 0 xs).take k) ++ List.replicate (xs.length - k) (.int .u64 0)) ∧ Below w.heap.size w wr)
    (fun _ i _ => xs.length - (intOf i).toNat)
  case atStart => exact ⟨0, by omega, rfl, rfl, by simpa [cells64] using ho1, hb1⟩
  case round =>
    clear ho1 hb1
    obtain ⟨k, hk, rfl, rfl, ho, hb⟩ := hrel
    by_cases hlt : k < xs.length
    · have hki : (k : Int) < (xs.length : Int) := by omega
      obtain ⟨n, hn⟩ : ∃ n, xs[k]? = some n := ⟨xs[k], List.getElem?_eq_getElem hlt⟩
      have hn2 := HX.out n (List.mem_of_getElem? hn)
      have hn3 : n ≤ 18446744073709551615 := by unfold M64 at hn2; omega
      have hs2 := state_lt (sums_lt xs 0) k
      have hd := sums_get xs 0 k n hn
      have hs3 := Lib.hid (state_next hd)
      obtain ⟨b, off, rfl, hbl, hc⟩ := H.out.get hb (cells64_get hn)
      have HD := Lib.hid (take_next hd)
      have HW := Lib.hid (wrap_addZ _ n hs2 hn2)
      generalize ((0 : Nat) :: sums 0 xs).getD k 0 = L at *
      have hL : L ≤ 18446744073709551615 := by unfold M64 at hs2; omega
      have hrep : xs.length - k = xs.length - (k + 1) + 1 := by omega
      have hAl : (cells64 ((sums 0 xs).take k)).length = k := by
        have := sums_length xs 0
        simp [cells64]; omega
      have hcell : wr.cell? ⟨w.heap.size, k, none⟩ = some (.int .u64 0) := owns_cell ho (by
        rw [List.getElem?_append_right (by omega), hAl, Nat.sub_self, hrep, List.replicate_succ]; rfl)
      have hfree : wr.frozen? ⟨w.heap.size, k, none⟩ = false := owns_free ho hlt
      have hset := owns_set (u := .int .u64 (addZ L n)) ho hlt
      rw [hrep, set_next _ _ _ _ _ hAl, HD.out] at hset
      have HS := Lib.hid hset
      clear hn hset hrep hAl hd
      go_wp2_with fail
      refine (deltaZag n wr hn2).mono ?_
      rintro e w' ⟨rfl, rfl⟩
      have hw := HW.out
      go_wp2
      go_roundw
      case rel => exact ⟨k + 1, by omega, by go_num, by rw [hs3.out], HS.out, hb.setCell (p := ⟨w.heap.size, k, none⟩) (Nat.le_refl _) _⟩
      case measure => simp [intOf]; omega
    · obtain rfl : k = xs.length := by omega
      rw [Nat.sub_self, List.replicate_zero, List.append_nil, List.take_of_length_le (by rw [sums_length]; exact Nat.le_refl _)] at ho
      go_wp2
      go_ret
      exact ⟨_, rfl, ho, hb⟩
end Go.Proofs.Ytdlbgmkigfbfbaa
