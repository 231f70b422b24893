import Derived.Test.YtdlbgmkigfbfbaaLaws3
namespace Go.Proofs.Ytdlbgmkigfbfbaa
open Go.RowKit
set_option linter.unusedVariables false
/-- The number x above a. -/
def up (a : Nat) (x : Int) : Nat := (((a : Int) + x) % 18446744073709551616).toNat
def ups : Nat → List Int → List Nat
  | _, [] => []
  | a, x :: xs => up a x :: ups (up a x) xs
theorem up_lt (a : Nat) (x : Int) : up a x < M64 := by unfold up M64; omega
theorem up_wrap (a : Nat) (x : Int) : IntKind.u64.wrap ((a : Int) + IntKind.u64.wrap x) = (up a x : Int) := by
  rw [IntKind.wrap_u64, IntKind.wrap_u64]
  unfold up
  omega
theorem ups_length (xs : List Int) : ∀ a, (ups a xs).length = xs.length := by
  induction xs with
  | nil => intro a; rfl
  | cons x xs ih => intro a; simp [ups, ih]
theorem ups_lt (xs : List Int) : ∀ a, ∀ n ∈ ups a xs, n < M64 := by
  induction xs with
  | nil => intro a n h; simp [ups] at h
  | cons x xs ih =>
    intro a n h
    rcases List.mem_cons.1 h with rfl | h
    · exact up_lt _ _
    · exact ih _ n h
theorem ups_get (xs : List Int) : ∀ (a k : Nat) (x : Int), xs[k]? = some x → ∃ m, (a :: ups a xs)[k]? = some m ∧ (a :: ups a xs)[k + 1]? = some (up m x) := by
  induction xs with
  | nil => intro a k x h; simp at h
  | cons y xs ih =>
    intro a k x h
    cases k with
    | zero => simp at h; subst h; exact ⟨a, rfl, rfl⟩
    | succ k =>
      simp only [List.getElem?_cons_succ] at h
      obtain ⟨m, h1, h2⟩ := ih (up a y) k x h
      exact ⟨m, by simpa [ups] using h1, by simpa [ups] using h2⟩
theorem up_delta (a : Nat) (x : Int) (ha : a < M64) (h1 : -64 ≤ x) (h2 : x ≤ 63) : deltaOf a (up a x) < 128 := by
  have e : sgn ((up a x + (M64 - a)) % M64) = x := by unfold sgn up M64 at *; split <;> omega
  unfold deltaOf
  rw [e]
  unfold zig
  split <;> omega
theorem enc_one (n : Nat) (h : n < 128) : (enc n).length = 1 := by unfold enc; rw [leb_small _ _ h]; rfl
theorem short_len (xs : List Int) : ∀ a, a < M64 → (∀ x ∈ xs, -64 ≤ x ∧ x ≤ 63) → (encs (deltas a (ups a xs))).length = xs.length := by
  induction xs with
  | nil => intro a _ _; rfl
  | cons x xs ih =>
    intro a ha h
    have h0 := h x (by simp)
    have h1 := ih (up a x) (up_lt _ _) (fun y hy => h y (by simp [hy]))
    have h2 := enc_one _ (up_delta a x ha h0.1 h0.2)
    simp only [ups, deltas, encs_cons, List.length_append, List.length_cons, h1, h2]
    omega
theorem len_nat (n k : Nat) (h : (n : Int) = (k : Int)) : n = k := by omega
theorem short_walk (a : Int) (a0 : Option Addr) (len0 cap0 : Nat) (zs : List Int) (w : World) (w0 : (Lit.int .u64 a).wf = true) (w1 : ArgInts .i8 w a0 len0 cap0 zs) :
    Calls Try.prog 6 #[.int .u64 a, .slice a0 len0 cap0] w fun e w' => e = .returned (.bool true) ∧ Below w.heap.size w w' := by
  obtain ⟨n, rfl, hn⟩ := u64_nat w0
  obtain ⟨h0, hlc, hcm, hlen, hr, hwf⟩ := w1
  have hcm2 : cap0 ≤ 9223372036854775807 := by unfold maxLen at hcm; omega
  by_cases hb : 100 < len0
  · have e0 : decide ((100 : Int) < (len0 : Int)) = true := by simp; omega
    have hbel := Below.refl w.heap.size w
    go_enter Try.func6, Try.ntmps6
    go_wp2_with (go_at_call 8; refine (awake_any _).mono ?_; rintro e w1 ⟨rfl, hb⟩; have hbel := then_ hbel hb; clear hb)
    go_ret
    exact ⟨rfl, hbel⟩
  have e0 : decide ((100 : Int) < (len0 : Int)) = false := by simp; omega
  obtain rfl : zs.length = len0 := hlen
  have hn3 : n ≤ 18446744073709551615 := by unfold M64 at hn; omega
  have HR := Lib.hid hr
  have HWF := Lib.hid hwf
  have HN := Lib.hid hn
  clear h0 hr hwf w0 hn
  go_enter Try.func6, Try.ntmps6
  go_wp2_with fail
  refine (awake_any w).mono ?_
  rintro e w1 ⟨rfl, k1⟩
  go_wp2_with fail
  have hs1 := k1.size
  have ho1 := World.ownsRow_lit (base := w.heap.size) (e := 22) (size := 1) w1 #[.int .u64 n] 1 hs1 (by unfold maxLen; omega) rfl
  have kb1 := k1.alloc hs1 (.cells #[.int .u64 n] 22)
  go_loopw [5, 20] (fun o i wr => ∃ k : Nat, k ≤ zs.length ∧ i = .int .i64 k ∧ (∀ j : Nat, ∀ x, j < k → zs[j]? = some x → -64 ≤ x ∧ x ≤ 63) ∧ wr.ownsRow w.heap.size 22 1 o (k + 1) (cells64 ((n :: ups n zs).take (k + 1))) ∧ Below w.heap.size w wr)
    (fun _ i _ => zs.length - (intOf i).toNat)
  case atStart => exact ⟨0, by omega, rfl, fun j x h => by omega, ho1, kb1⟩
  case round =>
    clear ho1 kb1 k1 hs1 e0
    obtain ⟨k, hk, rfl, hall, ho, hbl⟩ := hrel
    by_cases hlt : k < zs.length
    · have hki : (k : Int) < (zs.length : Int) := by omega
      obtain ⟨x, hx⟩ : ∃ x, zs[k]? = some x := ⟨zs[k], List.getElem?_eq_getElem hlt⟩
      have hx2 := Go.bounds_i8 (HWF.out x (List.mem_of_getElem? hx))
      obtain ⟨b, off, rfl, hc⟩ := HR.out.get hbl (k := k) (v := .int .i8 x) (by simp [hx])
      obtain ⟨m, hm1, hm2⟩ := ups_get zs n k x hx
      have HTK := Lib.hid (take_next hm2)
      have HUP := Lib.hid (up_wrap m x)
      have hsz := hbl.size
      rcases owns_row ho with ⟨_, h0, _⟩ | ⟨r, cap, cur, rfl, hBr, hL, hcap, hcapm⟩
      · omega
      have hcell := owns_cell ho (k := k) (u := .int .u64 m) (cells64_get (by rw [List.getElem?_take_of_lt (by omega)]; exact hm1))
      have hix : ((k + 1 : Nat) : Int) - 1 = (k : Int) := by omega
      have HALL := Lib.hid hall
      have HO := Lib.hid ho
      have HX := Lib.hid hx
      have hm3 : m ≤ 18446744073709551615 := by
        have : m ∈ n :: ups n zs := List.mem_of_getElem? hm1
        rcases List.mem_cons.1 this with rfl | h
        · exact hn3
        · have := ups_lt zs n m h; unfold M64 at this; omega
      clear hall ho hx hm1 hm2 hL
      by_cases hx3 : 63 < x
      · have e1 : decide ((63 : Int) < x) = true := by simpa using hx3
        go_wp2
        go_ret
        exact ⟨rfl, hbl⟩
      have e1 : decide ((63 : Int) < x) = false := by simpa using hx3
      by_cases hx4 : x < -64
      · have e2 : decide (x < (-64 : Int)) = true := by simpa using hx4
        go_wp2
        go_ret
        exact ⟨rfl, hbl⟩
      have e2 : decide (x < (-64 : Int)) = false := by simpa using hx4
      go_wp2_with (at_builtin; refine append_one wr (.int .u64 (IntKind.u64.wrap ((m : Int) + IntKind.u64.wrap x))) rfl (.tmp 30) (.tmp 41) 27 rfl w.heap.size 22 _ _ Try.underlying27 Try.infoU64 rfl rfl _ _ _ rfl HO.out rfl (by unfold maxLen; omega) (by omega) hsz ?_; intro v' w1 hown1 hb1 _)
      rw [HUP.out, HTK.out] at hown1
      go_roundw
      case rel => exact ⟨k + 1, by omega, by go_num, fun j y hj hy => by
        by_cases hjk : j = k
        · subst hjk; rw [HX.out] at hy; cases hy; exact ⟨by omega, by omega⟩
        · exact HALL.out j y (by omega) hy, hown1, hbl.trans hb1⟩
      case measure => simp [intOf]; omega
    · obtain rfl : k = zs.length := by omega
      have hall2 : ∀ x ∈ zs, -64 ≤ x ∧ x ≤ 63 := fun x hx => by
        obtain ⟨j, hj, rfl⟩ := List.mem_iff_getElem.1 hx
        exact hall j _ hj (List.getElem?_eq_getElem hj)
      have hsl := short_len zs n HN.out hall2
      have hul := ups_length zs n
      rw [List.take_of_length_le (by rw [List.length_cons, hul]; exact Nat.le_refl _)] at ho
      have hLt : ∀ y ∈ n :: ups n zs, y < M64 := fun y hy => by
        rcases List.mem_cons.1 hy with rfl | hy
        · exact HN.out
        · exact ups_lt zs n y hy
      have hd0 : deltas 0 (n :: ups n zs) = deltaOf 0 n :: deltas n (ups n zs) := rfl
      have hll : (n :: ups n zs).length = zs.length + 1 := by rw [List.length_cons, hul]
      have hdlt := deltaOf_lt 0 n
      have hps : (textB (encList (deltas 0 (n :: ups n zs)))).size = (textB (enc (zs.length + 1))).size + (textB (enc (deltaOf 0 n))).size + zs.length := by
        rw [textB_size, textB_size, textB_size, encList, deltas_length, hll, hd0, encs_cons, List.length_append, List.length_append, hsl]
        omega
      have b1 := (enc_length (zs.length + 1)).2
      have b2 := (enc_length (deltaOf 0 n)).2
      rw [← textB_size] at b1 b2
      have hP := fun v w h => deltaPrint v (n :: ups n zs) w h hLt (by rw [hll]; omega)
      have hD := fun v w h => refDeltas v (n :: ups n zs) w h hLt (by rw [hll]; omega)
      rw [hd0] at hD
      rw [hll] at hD
      have hR1 := fun w => refPrint (zs.length + 1) w (by unfold M64; omega)
      have hR2 := fun w => refPrint (deltaOf 0 n) w hdlt
      clear hd0
      generalize deltas n (ups n zs) = DD at *
      generalize deltaOf 0 n = D0 at *
      generalize textB (encList (deltas 0 (n :: ups n zs))) = P at *
      generalize textB (enc (zs.length + 1)) = A at *
      generalize textB (enc D0) = B at *
      have HP := Lib.hid hP
      have HD := Lib.hid hD
      have HR1 := Lib.hid hR1
      have HR2 := Lib.hid hR2
      have hD03 : D0 ≤ 18446744073709551615 := by unfold M64 at hdlt; omega
      have ho' := SeqAt.of_owns ho
      have HS := Lib.hid ho'
      have hcs : (cells64 (n :: ups n zs)).length = zs.length + 1 := by rw [cells64_length, hll]
      obtain ⟨A1, c1, rfl, hc1, hc2, _⟩ := ho'
      rw [hcs] at *
      clear hall hall2 hsl hul ho hLt hll hP hD hR1 hR2 HR HWF hcs hdlt
      go_wp2_with fail
      refine (HP.out _ wr HS.out).mono ?_
      rintro e w2 ⟨rfl, hb2⟩
      have hbl := then_ hbl hb2
      have HS2 := Lib.hid (HS.out.later hb2)
      clear HS hb2
      go_wp2_with fail
      refine (HR1.out w2).mono ?_
      rintro e w3 ⟨rfl, hb3⟩
      have hbl := then_ hbl hb3
      have HS3 := Lib.hid (HS2.out.later hb3)
      clear HS2 hb3
      go_wp2_with fail
      refine (HD.out _ w3 HS3.out).mono ?_
      rintro e w4 ⟨v4, rfl, ho4, hb4⟩
      have hbl := then_ hbl hb4
      rcases owns_row ho4 with ⟨_, h0, _⟩ | ⟨r4, cap4, cur4, rfl, _, _, hcap4, hcapm4⟩
      · omega
      have hcell4 := owns_cell ho4 (k := 0) (u := .int .u64 D0) (by simp [cells64])
      clear ho4 HS3 hb4
      have hz : (0 : Int) < ((zs.length + 1 : Nat) : Int) := by omega
      go_wp2_with fail
      refine (HR2.out w4).mono ?_
      rintro e w5 ⟨rfl, hb5⟩
      have hbl := then_ hbl hb5
      have hfin : ((P.size : Int) == (A.size : Int) + (B.size : Int) + (zs.length : Int)) = true := by rw [beq_iff_eq]; omega
      go_wp2
      go_ret
      exact ⟨rfl, hbl⟩
end Go.Proofs.Ytdlbgmkigfbfbaa
