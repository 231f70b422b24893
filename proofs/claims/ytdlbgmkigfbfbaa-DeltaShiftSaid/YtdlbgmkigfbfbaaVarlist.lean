/-
  Lists of numbers in varint's form: reading them.
-/
import Derived.Test.YtdlbgmkigfbfbaaVarint
namespace Go.Proofs.Ytdlbgmkigfbfbaa
open Go.RowKit
set_option linter.unusedVariables false

theorem Try.infoU64 : (Try.prog.info? 22).map (fun i => (i.zero, i.size, i.bytes)) = some (some (.int .u64 0), 1, 8) := by kernel_rfl
/-- So many numbers, one behind the other: the numbers, an error, the place behind. -/
def rdMany : Nat → ByteArray → Nat → List Nat × Nat × Nat
  | 0, _, p => ([], 0, p)
  | c + 1, s, p =>
    if (rd (restOf s p)).2.1 = 0 then
      ((rd (restOf s p)).1 :: (rdMany c s (p + (rd (restOf s p)).2.2)).1, (rdMany c s (p + (rd (restOf s p)).2.2)).2.1, (rdMany c s (p + (rd (restOf s p)).2.2)).2.2)
    else ([], (rd (restOf s p)).2.1, p + (rd (restOf s p)).2.2)
/-- A list's error, and where the reader stands then. -/
def rdListErr (s : ByteArray) (p : Nat) (most : Int) : Nat :=
  if most < 0 then 1 else if (rd (restOf s p)).2.1 ≠ 0 then (rd (restOf s p)).2.1 else if most < (rd (restOf s p)).1 then 4 else (rdMany (rd (restOf s p)).1 s (p + (rd (restOf s p)).2.2)).2.1
def rdListAt (s : ByteArray) (p : Nat) (most : Int) : Nat :=
  if most < 0 then p else if (rd (restOf s p)).2.1 ≠ 0 then p + (rd (restOf s p)).2.2 else if most < (rd (restOf s p)).1 then p + (rd (restOf s p)).2.2 else (rdMany (rd (restOf s p)).1 s (p + (rd (restOf s p)).2.2)).2.2
/-- The list itself; none with an error. -/
def rdListOf (s : ByteArray) (p : Nat) (most : Int) : List Nat := if rdListErr s p most = 0 then (rdMany (rd (restOf s p)).1 s (p + (rd (restOf s p)).2.2)).1 else []
theorem rdV_ok (f : Nat) : ∀ k v l, (rdV f k v l).2.1 = 0 → 1 ≤ (rdV f k v l).2.2 := by
  induction f with
  | zero => intro k v l h; simp [rdV] at h
  | succ f ih =>
    intro k v l
    cases l with
    | nil => simp [rdV]
    | cons b l =>
      rw [rdV]
      split
      · simp
      · split
        · simp
        · simp
theorem rd_ok (l : List UInt8) (h : (rd l).2.1 = 0) : 1 ≤ (rd l).2.2 := rdV_ok _ _ _ _ h
theorem rdV_bound (f : Nat) : ∀ k v l, v ≤ 18446744073709551615 → k + f = 10 → v < 128 ^ k → (rdV f k v l).1 ≤ 18446744073709551615 := by
  induction f with
  | zero => intro k v l _ _ _; simp [rdV]
  | succ f ih =>
    intro k v l hv hk hp
    cases l with
    | nil => simp [rdV]
    | cons b l =>
      cases hw : wrongB k b
      · have hg := or_group_byte k v b (by omega) hp hw
        by_cases hb : b.toNat < 128
        · rw [rdV_last _ _ _ _ _ hw hb]
          have := hg.2.2
          rw [Nat.mod_eq_of_lt hb] at this
          exact this
        · rw [rdV_more _ _ _ _ _ hw hb, show b.toNat - 128 = b.toNat % 128 by have := b.toNat_lt; omega]
          exact ih _ _ _ hg.2.2 (by omega) hg.2.1
      · rw [rdV_wrong _ _ _ _ _ hw]; simp
theorem rd_bound (l : List UInt8) : (rd l).1 ≤ 18446744073709551615 := rdV_bound 10 0 0 l (by omega) rfl (by omega)
/-- A list of numbers as cells. -/
def cells64 (l : List Nat) : List Value := l.map fun (n : Nat) => Value.int .u64 (n : Int)
theorem cells64_push (d : List Nat) (n : Nat) : cells64 d ++ [.int .u64 (n : Int)] = cells64 (d ++ [n]) := by simp [cells64]
/-- One number more, no Go in sight. -/
theorem many_more {n p0 p : Nat} {s : ByteArray} {d : List Nat} (hd : d.length < n)
    (h : rdMany n s p0 = (d ++ (rdMany (n - d.length) s p).1, (rdMany (n - d.length) s p).2.1, (rdMany (n - d.length) s p).2.2)) (he : (rd (restOf s p)).2.1 = 0) :
    rdMany n s p0 = (d ++ [(rd (restOf s p)).1] ++ (rdMany (n - (d.length + 1)) s (p + (rd (restOf s p)).2.2)).1, (rdMany (n - (d.length + 1)) s (p + (rd (restOf s p)).2.2)).2.1, (rdMany (n - (d.length + 1)) s (p + (rd (restOf s p)).2.2)).2.2) := by
  have e : n - d.length = n - (d.length + 1) + 1 := by omega
  rw [h, e, rdMany, if_pos he]
  simp
theorem many_stop {n p0 p : Nat} {s : ByteArray} {d : List Nat} (hd : d.length < n)
    (h : rdMany n s p0 = (d ++ (rdMany (n - d.length) s p).1, (rdMany (n - d.length) s p).2.1, (rdMany (n - d.length) s p).2.2)) (he : (rd (restOf s p)).2.1 ≠ 0) :
    (rdMany n s p0).2.1 = (rd (restOf s p)).2.1 ∧ (rdMany n s p0).2.2 = p + (rd (restOf s p)).2.2 := by
  have e : n - d.length = n - (d.length + 1) + 1 := by omega
  rw [h, e, rdMany, if_neg he]
  exact ⟨rfl, rfl⟩
theorem many_done {n p0 p : Nat} {s : ByteArray} {d : List Nat} (hd : d.length = n)
    (h : rdMany n s p0 = (d ++ (rdMany (n - d.length) s p).1, (rdMany (n - d.length) s p).2.1, (rdMany (n - d.length) s p).2.2)) : rdMany n s p0 = (d, 0, p) := by
  rw [h, hd, Nat.sub_self]; simp [rdMany]
set_option maxHeartbeats 1000000 in
theorem varintReadList (g : Nat) (s : ByteArray) (i : Nat) (most : Int) (w : World) (h : RdAt w g s i) (hs : s.size ≤ 1099511627776) (hm : most ≤ 9223372036854775807) :
    Calls Try.prog 24 #[.pointer (some ⟨g, 0, none⟩), .int .i64 most] w fun e w' => ∃ v,
    e = .returned (.tuple #[v, .int .i64 (rdListErr s i most)]) ∧ w'.ownsRow w.heap.size 22 1 v (rdListOf s i most).length (cells64 (rdListOf s i most)) ∧ RdAt w' g s (rdListAt s i most) ∧ Kept (oneRow g) w w' := by
  by_cases hneg : most < 0
  · have hE : rdListErr s i most = 1 := by unfold rdListErr; rw [if_pos hneg]
    have hA : rdListAt s i most = i := by unfold rdListAt; rw [if_pos hneg]
    have hO : rdListOf s i most = [] := by unfold rdListOf; rw [hE]; rfl
    rw [hE, hA, hO]
    go_enter Try.func24, Try.ntmps24
    go_wp2
    go_ret2
    exact ⟨_, rfl, World.ownsRow_nil _ _ _ _, h, Kept.refl _ _⟩
  · have e0 : decide (most < 0) = false := by simpa using hneg
    obtain ⟨M, rfl⟩ := Int.eq_ofNat_of_zero_le (by omega : 0 ≤ most)
    have hgs := h.1.lt
    have hE : rdListErr s i M = if (rd (restOf s i)).2.1 ≠ 0 then (rd (restOf s i)).2.1 else if M < (rd (restOf s i)).1 then 4 else (rdMany (rd (restOf s i)).1 s (i + (rd (restOf s i)).2.2)).2.1 := by
      unfold rdListErr; rw [if_neg hneg]; simp only [Int.ofNat_lt]
    have hA : rdListAt s i M = if (rd (restOf s i)).2.1 ≠ 0 then i + (rd (restOf s i)).2.2 else if M < (rd (restOf s i)).1 then i + (rd (restOf s i)).2.2 else (rdMany (rd (restOf s i)).1 s (i + (rd (restOf s i)).2.2)).2.2 := by
      unfold rdListAt; rw [if_neg hneg]; simp only [Int.ofNat_lt]
    have hO : rdListOf s i M = if rdListErr s i M = 0 then (rdMany (rd (restOf s i)).1 s (i + (rd (restOf s i)).2.2)).1 else [] := rfl
    have hb := rd_bound (restOf s i)
    have hused := rd_ok (restOf s i)
    go_enter Try.func24, Try.ntmps24
    have HE := Lib.hid hE
    have HA := Lib.hid hA
    have HO := Lib.hid hO
    have HU := Lib.hid hused
    clear hE hA hO hused
    go_wp2_with fail
    refine (varintRead g s i w h).mono ?_
    rintro e w1 ⟨rfl, h1, k1⟩
    generalize hr : rd (restOf s i) = r at *
    clear hr
    obtain ⟨n, er, c⟩ := r
    simp only at hb h1
    by_cases her : er = 0
    · subst her
      have hc1 : 1 ≤ c := HU.out rfl
      by_cases hbig : M < n
      · have e1 : decide (M < n) = true := by simpa using hbig
        have qE : rdListErr s i M = 4 := by rw [HE.out]; simp [hbig]
        have qA : rdListAt s i M = i + c := by rw [HA.out]; simp [hbig]
        have qO : rdListOf s i M = [] := by rw [HO.out, qE]; rfl
        have QE := Lib.hid qE
        have QA := Lib.hid qA
        have QO := Lib.hid qO
        clear qE qA qO
        go_wp2
        go_ret2
        exact ⟨_, ret_two rfl (v_int (by rw [QE.out]; rfl)), by rw [QO.out]; exact World.ownsRow_nil _ _ _ _, by rw [QA.out]; exact h1, k1⟩
      · have e1 : decide (M < n) = false := by simpa using hbig
        have qE : rdListErr s i M = (rdMany n s (i + c)).2.1 := by rw [HE.out]; simp [hbig]
        have qA : rdListAt s i M = (rdMany n s (i + c)).2.2 := by rw [HA.out]; simp [hbig]
        have qO : rdListOf s i M = if (rdMany n s (i + c)).2.1 = 0 then (rdMany n s (i + c)).1 else [] := by rw [HO.out, qE]
        have QE := Lib.hid qE
        have QA := Lib.hid qA
        have QO := Lib.hid qO
        clear qE qA qO HE HA HO HU
        go_wp2_with fail
        have hs1 := k1.size
        go_loopw [8] (fun t wr => ∃ (d : List Nat) (p : Nat), d.length ≤ n ∧ d.length ≤ p ∧ RdAt wr g s p ∧ wr.ownsRow w.heap.size 22 1 t d.length (cells64 d) ∧ Kept (oneRow g) w wr ∧
            Hid (rdMany n s (i + c) = (d ++ (rdMany (n - d.length) s p).1, (rdMany (n - d.length) s p).2.1, (rdMany (n - d.length) s p).2.2)))
          (fun t _ => n - (match t with | .slice _ l _ => l | _ => 0))
        case atStart => exact ⟨[], i + c, by simp, by simp, h1, World.ownsRow_nil _ _ _ _, k1, rfl⟩
        case round =>
          clear h1 k1
          obtain ⟨d, p, hd1, hd2, hr, ho, hk, hm⟩ := hrel
          have hp := hr.2.1
          have hwr : w.heap.size ≤ wr.heap.size := hk.size
          obtain ⟨A, cap, rfl⟩ : ∃ A cap, u8 = .slice A d.length cap := by
            rcases owns_row ho with ⟨e1, e2, _⟩ | ⟨r, cap, cur, e1, _⟩
            · exact ⟨none, 0, by rw [e1, e2]⟩
            · exact ⟨_, cap, e1⟩
          by_cases hlt : d.length < n
          · have e2 : decide (d.length < n) = true := by simpa using hlt
            have hb2 := rd_bound (restOf s p)
            have hu2 := rd_ok (restOf s p)
            have hmore := Lib.hid (many_more hlt hm.out)
            have hstop := Lib.hid (many_stop hlt hm.out)
            have HU2 := Lib.hid hu2
            clear hm hu2
            go_wp2_with fail
            refine (varintRead g s p wr hr).mono ?_
            rintro e w2 ⟨rfl, h2, k2⟩
            have ho2 := owns_kept ho k2 (fun r cur _ hl (e : r = g) => by subst e; exact absurd (hl.same hr.1).1 (by decide))
            have k2 := hk.trans k2 (fun _ _ h => h)
            have hw2 : w.heap.size ≤ w2.heap.size := k2.size
            clear hr hk ho
            generalize rd (restOf s p) = r2 at *
            obtain ⟨n2, er2, c2⟩ := r2
            simp only at hb2 h2
            by_cases her2 : er2 = 0
            · subst her2
              have hc2 : 1 ≤ c2 := HU2.out rfl
              have HM := Lib.hid (hmore.out rfl)
              clear hmore hstop HU2
              have hp2 := h2.2.1
              go_wp2_with (at_builtin; refine append_one w2 (.int .u64 n2) rfl (.tmp 38) (.tmp 40) 27 rfl w.heap.size 22 _ _ Try.underlying27 Try.infoU64 rfl rfl _ _ _ rfl ho2 rfl (by unfold maxLen; omega) (by omega) hw2 ?_; intro v' w3 hown3 hb3 hgr3)
              rw [cells64_push] at hown3
              have k3 := kept_append k2 ho2 (Nat.le_refl _) hgr3
              have h3 := h2.kept (kept_grown hgr3) (own_ne ho2 h2.1 (by decide))
              clear h2 ho2 k2 hgr3 hb3
              go_roundw
              case rel => exact ⟨d ++ [n2], p + c2, by rw [List.length_append]; simp; omega, by rw [List.length_append]; simp; omega, h3, by rw [List.length_append]; exact hown3, k3, by rw [List.length_append]; exact HM⟩
              case measure =>
                rcases owns_row hown3 with ⟨_, e5, _⟩ | ⟨r, cap, cur, e5, _⟩
                · omega
                · rw [e5]; simp; omega
            · have e3 : ((er2 : Int) != 0) = true := by simp; omega
              obtain ⟨q1, q2⟩ := hstop.out her2
              have qO : rdListOf s i M = [] := by rw [QO.out, q1]; simp [her2]
              have qE : rdListErr s i M = er2 := by rw [QE.out, q1]
              have qA : rdListAt s i M = p + c2 := by rw [QA.out, q2]
              have QO := Lib.hid qO
              have QE := Lib.hid qE
              have QA := Lib.hid qA
              clear q1 q2 qO qE qA hmore hstop HU2
              go_wp2
              go_ret2
              exact ⟨_, ret_two rfl (v_int (by rw [QE.out])), by rw [QO.out]; exact World.ownsRow_nil _ _ _ _, by rw [QA.out]; exact h2, k2⟩
          · have e2 : decide (d.length < n) = false := by simpa using hlt
            have hres := many_done (by omega) hm.out
            rw [hres] at QE QA QO
            clear hm hres
            go_wp2
            go_ret2
            exact ⟨_, ret_two rfl (v_int (by rw [QE.out]; rfl)), by rw [QO.out]; exact ho, by rw [QA.out]; exact hr, hk⟩
    · have e1 : ((er : Int) == 0) = false := by simp; omega
      have e2 : ((er : Int) != 0) = true := by simp; omega
      have qE : rdListErr s i M = er := by rw [HE.out]; simp [her]
      have qA : rdListAt s i M = i + c := by rw [HA.out]; simp [her]
      have qO : rdListOf s i M = [] := by rw [HO.out, qE]; simp [her]
      have QE := Lib.hid qE
      have QA := Lib.hid qA
      have QO := Lib.hid qO
      clear qE qA qO HE HA HO HU
      go_wp2
      go_ret2
      exact ⟨_, ret_two rfl (v_int (by rw [QE.out])), by rw [QO.out]; exact World.ownsRow_nil _ _ _ _, by rw [QA.out]; exact h1, k1⟩
end Go.Proofs.Ytdlbgmkigfbfbaa
