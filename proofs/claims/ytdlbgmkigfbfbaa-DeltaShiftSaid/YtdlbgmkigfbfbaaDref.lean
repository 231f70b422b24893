import Derived.Test.YtdlbgmkigfbfbaaDelta
namespace Go.Proofs.Ytdlbgmkigfbfbaa
open Go.RowKit
set_option linter.unusedVariables false
theorem deltaPrint (v : Value) (xs : List Nat) (w : World) (h : SeqAt w v (cells64 xs)) (hx : ∀ n ∈ xs, n < M64) (hl : xs.length ≤ 1099511627776) :
    Calls Try.prog 17 #[v] w fun e w' => e = .returned (.string (textB (encList (deltas 0 xs)))) ∧ Below w.heap.size w w' := by
  go_enter Try.func17, Try.ntmps17
  go_wp2_with fail
  refine (deltaDeltas v xs w h hx hl).mono ?_
  rintro e w1 ⟨v1, rfl, ho1, hb1⟩
  go_wp2_with fail
  refine (varintPrintList v1 _ w1 (SeqAt.of_owns ho1) (deltas_lt xs 0) (by rw [deltas_length]; exact hl)).mono ?_
  rintro e w2 ⟨rfl, hb2⟩
  go_wp2
  go_ret
  exact ⟨rfl, then_ hb1 hb2⟩
theorem rdMany_lt (c : Nat) : ∀ (s : ByteArray) (p : Nat), ∀ n ∈ (rdMany c s p).1, n < M64 := by
  induction c with
  | zero => intro s p; simp [rdMany]
  | succ c ih =>
    intro s p n hn
    rw [rdMany] at hn
    split at hn
    · simp only [List.mem_cons] at hn
      rcases hn with rfl | hn
      · have := rd_bound (restOf s p); unfold M64; omega
      · exact ih _ _ n hn
    · simp at hn
theorem rdMany_len (c : Nat) : ∀ (s : ByteArray) (p : Nat), p ≤ s.size → (rdMany c s p).1.length ≤ s.size - p := by
  induction c with
  | zero => intro s p _; simp [rdMany]
  | succ c ih =>
    intro s p hp
    rw [rdMany]
    split
    · rename_i h
      have h1 := rd_ok _ h
      have h2 := rdV_used 10 0 0 (restOf s p)
      have h3 : (restOf s p).length = s.size - p := by simp [restOf]
      have : p + (rd (restOf s p)).2.2 ≤ s.size := by unfold rd at *; omega
      have := ih s _ this
      simp only [List.length_cons]
      omega
    · simp
theorem rdListOf_lt (s : ByteArray) (p : Nat) (m : Int) : ∀ n ∈ rdListOf s p m, n < M64 := by
  intro n hn
  unfold rdListOf at hn
  split at hn
  · exact rdMany_lt _ _ _ n hn
  · simp at hn
theorem rdListOf_len (s : ByteArray) (p : Nat) (m : Int) (hp : p ≤ s.size) : (rdListOf s p m).length ≤ s.size := by
  unfold rdListOf
  split
  · have h2 := rdV_used 10 0 0 (restOf s p)
    have h3 : (restOf s p).length = s.size - p := by simp [restOf]
    have : p + (rd (restOf s p)).2.2 ≤ s.size := by unfold rd at *; omega
    have := rdMany_len (rd (restOf s p)).1 s _ this
    omega
  · simp
/-- Read: the sums of what is read. -/
def dlList (s : ByteArray) (i : Nat) (most : Int) : List Nat := sums 0 (rdListOf s i most)
theorem deltaRead (g : Nat) (s : ByteArray) (i : Nat) (most : Int) (w : World) (h : RdAt w g s i) (hs : s.size ≤ 1099511627776) (hm : most ≤ 9223372036854775807) :
    Calls Try.prog 19 #[.pointer (some ⟨g, 0, none⟩), .int .i64 most] w fun e w' => ∃ v,
    e = .returned (.tuple #[v, .int .i64 (rdListErr s i most)]) ∧ w'.ownsRow w.heap.size 22 1 v (dlList s i most).length (cells64 (dlList s i most)) ∧ RdAt w' g s (rdListAt s i most) ∧ Kept (oneRow g) w w' := by
  have hgs := h.1.lt
  have hO : rdListErr s i most ≠ 0 → dlList s i most = [] := fun he => by unfold dlList rdListOf; rw [if_neg he]; rfl
  have HO := Lib.hid hO
  have hlt := rdListOf_lt s i most
  have hlen := rdListOf_len s i most h.2.1
  have HLT := Lib.hid hlt
  clear hO hlt
  go_enter Try.func19, Try.ntmps19
  go_wp2_with fail
  refine (varintReadList g s i most w h hs hm).mono ?_
  rintro e w1 ⟨v1, rfl, ho1, hr1, hk1⟩
  by_cases he : rdListErr s i most = 0
  · have HE := Lib.hid he
    have e1 : ((rdListErr s i most : Int) != 0) = false := by rw [he]; rfl
    clear he
    go_wp2_with fail
    refine (deltaSums v1 _ w1 (SeqAt.of_owns ho1) HLT.out (by omega)).mono ?_
    rintro e w2 ⟨v2, rfl, ho2, hb2⟩
    go_wp2
    go_ret2
    exact ⟨_, ret_two rfl (v_int (by rw [HE.out]; rfl)), by
      have h2 := owns_mono ho2 (B' := w.heap.size) hk1.size
      have hle := sums_length (rdListOf s i most) 0
      unfold dlList
      rw [hle]
      exact h2, hr1.kept (Kept.of_below hb2) (fun h => h), hk1.trans (Kept.of_below hb2) (fun _ _ h => h.elim)⟩
  · have e1 : ((rdListErr s i most : Int) != 0) = true := by simp; omega
    have HE := Lib.hid (HO.out he)
    clear he
    go_wp2
    go_ret2
    exact ⟨_, rfl, by rw [HE.out]; exact World.ownsRow_nil _ _ _ _, hr1, hk1⟩
end Go.Proofs.Ytdlbgmkigfbfbaa
