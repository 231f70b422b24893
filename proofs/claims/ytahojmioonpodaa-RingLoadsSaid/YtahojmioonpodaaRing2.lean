import Derived.Test.YtahojmioonpodaaRing
namespace Go.Proofs.Ytahojmioonpodaa
open Go.RowKit
set_option linter.unusedVariables false
set_option linter.unusedSimpArgs false
section
variable {w : World} {g o : Nat} {T : TypeId} {p0 post : List Value} {R : Rg}
theorem cuFull (h : RgAt w g T p0 post R) (ho : p0.length = o) :
    Calls Try.prog 53 #[.pointer (some ⟨g, o, none⟩)] w fun e w' => e = .returned (.bool (fullB R)) ∧ ∃ n, w' = w.drewN n := by
  have HL := Lib.hid (fun w' (h : RgAt w' g T p0 post R) => cuLeast h ho)
  subst ho
  obtain ⟨c0, c1, c2, c3⟩ := h.cells
  have hle := leastN_le h.1
  have htl := h.1.2.2.2.1
  have HF : Hid (fullB R = decide (R.cap ≤ R.tail - leastN R)) := rfl
  have hsub : IntKind.u64.wrap ((R.tail : Int) - (leastN R : Int)) = ((R.tail - leastN R : Nat) : Int) := by rw [IntKind.wrap_u64]; omega
  have H := Lib.hid h
  clear h
  generalize R.tail - leastN R = d at *
  generalize leastN R = m at *
  go_enter Try.func53, Try.ntmps53
  go_wp2
  go_quiet ((go_at_call 60; exact quiet_same3 ((HL.out _ (by exact H.out))) ⟨_, rfl⟩))
  go_wp2
  go_ret
  exact ⟨ret_bool (by rw [HF.out]), _, rfl⟩
set_option maxHeartbeats 1000000 in
set_option maxRecDepth 100000 in
theorem cuEmpty (j : Int) (h : RgAt w g T p0 post R) (ho : p0.length = o) :
    Calls Try.prog 54 #[.pointer (some ⟨g, o, none⟩), .int .i64 j] w fun e w' => e = .returned (.bool (emptyB R j)) ∧ ∃ n, w' = w.drewN n := by
  subst ho
  obtain ⟨c0, c1, c2, c3⟩ := h.cells
  have HRD := Lib.hid (fun w' (h : RgAt w' g T p0 post R) => cuReads (R := R) j w' h.cells.2.1)
  have hr2 := h.1.2.1.2.2.2.1
  have h8 := h.1.1
  have H := Lib.hid h
  by_cases hr : readsB R j = true
  · obtain ⟨j0, jr⟩ := of_decide_eq_true hr
    obtain ⟨n, rfl⟩ : ∃ n : Nat, j = n := ⟨j.toNat, by omega⟩
    have hn8 : (n : Int) < 8 := by omega
    obtain ⟨x, hx⟩ : ∃ x, R.h8[n]? = some x := ⟨_, List.getElem?_eq_getElem (by omega)⟩
    have dk := h.head hx
    have HE : Hid (emptyB R n = decide (x = R.tail)) := by
      show _ = _; unfold emptyB headN
      rw [hr, Int.toNat_natCast, List.getD_eq_getElem?_getD, hx]; rfl
    have HRD2 := HRD.out
    rw [hr] at HRD2
    have HRD3 := Lib.hid HRD2
    clear HRD HRD2 hr hx h h8
    generalize R.tail = tl at *
    go_enter Try.func54, Try.ntmps54
    go_wp2
    go_quiet ((go_at_call 49; exact quiet_same3 ((HRD3.out _ (by exact H.out))) ⟨_, rfl⟩))
    go_wp2
    go_ret
    exact ⟨ret_bool (by rw [HE.out, Bool.eq_iff_iff]; simp; try omega), _, rfl⟩
  · have hr : readsB R j = false := by simpa using hr
    have HE : Hid (emptyB R j = true) := by show _ = _; unfold emptyB; rw [hr]; rfl
    have HRD2 := HRD.out
    rw [hr] at HRD2
    have HRD3 := Lib.hid HRD2
    clear HRD HRD2 hr h h8
    go_enter Try.func54, Try.ntmps54
    go_wp2
    go_quiet ((go_at_call 49; exact quiet_same3 ((HRD3.out _ (by exact H.out))) ⟨_, rfl⟩))
    go_wp2
    go_ret
    exact ⟨ret_bool (by rw [HE.out]), _, rfl⟩
theorem rgTail (h : RgAt w g T p0 post R) (ho : p0.length = o) : Calls Try.prog 31 #[.pointer (some ⟨g, o, none⟩)] w fun e w' => e = .returned (.int .u64 (R.tail : Nat)) ∧ w = w' := by
  subst ho
  obtain ⟨c0, c1, c2, c3⟩ := h.cells
  clear h
  go_enter Try.func31, Try.ntmps31
  go_wp2
  go_ret
  exact ⟨rfl, rfl⟩
theorem rgClosed (h : RgAt w g T p0 post R) (ho : p0.length = o) : Calls Try.prog 33 #[.pointer (some ⟨g, o, none⟩)] w fun e w' => e = .returned (.bool R.cl) ∧ w = w' := by
  subst ho
  obtain ⟨c0, c1, c2, c3⟩ := h.cells
  clear h
  go_enter Try.func33, Try.ntmps33
  go_wp2
  go_ret
  exact ⟨rfl, rfl⟩
theorem rgFull (h : RgAt w g T p0 post R) (ho : p0.length = o) : Calls Try.prog 30 #[.pointer (some ⟨g, o, none⟩)] w fun e w' => e = .returned (.bool (fullB R)) ∧ ∃ n, w' = w.drewN n := by
  have HF := Lib.hid (cuFull h ho)
  clear h ho
  go_enter Try.func30, Try.ntmps30
  go_wp2_with fail
  refine HF.out.mono ?_
  rintro e w' ⟨rfl, n, rfl⟩
  go_wp2
  go_ret
  exact ⟨rfl, _, rfl⟩
theorem rgEmpty (j : Int) (h : RgAt w g T p0 post R) (ho : p0.length = o) : Calls Try.prog 29 #[.pointer (some ⟨g, o, none⟩), .int .i64 j] w fun e w' => e = .returned (.bool (emptyB R j)) ∧ ∃ n, w' = w.drewN n := by
  have HF := Lib.hid (cuEmpty j h ho)
  clear h ho
  go_enter Try.func29, Try.ntmps29
  go_wp2_with fail
  refine HF.out.mono ?_
  rintro e w' ⟨rfl, n, rfl⟩
  go_wp2
  go_ret
  exact ⟨rfl, _, rfl⟩
/-- The head of a reader, as Head tells it. -/
def headV (R : Rg) (j : Int) : Nat := if readsB R j = true then headN R j else 0
theorem rgHead (j : Int) (h : RgAt w g T p0 post R) (ho : p0.length = o) : Calls Try.prog 32 #[.pointer (some ⟨g, o, none⟩), .int .i64 j] w fun e w' => e = .returned (.int .u64 (headV R j : Nat)) ∧ w = w' := by
  subst ho
  obtain ⟨c0, c1, c2, c3⟩ := h.cells
  have HRD := Lib.hid (cuReads (R := R) j w c1)
  have hr2 := h.1.2.1.2.2.2.1
  have h8 := h.1.1
  by_cases hr : readsB R j = true
  · obtain ⟨j0, jr⟩ := of_decide_eq_true hr
    obtain ⟨n, rfl⟩ : ∃ n : Nat, j = n := ⟨j.toNat, by omega⟩
    have hn8 : (n : Int) < 8 := by omega
    obtain ⟨x, hx⟩ : ∃ x, R.h8[n]? = some x := ⟨_, List.getElem?_eq_getElem (by omega)⟩
    have dk := h.head hx
    have HV : Hid (headV R n = x) := by
      show _ = _; unfold headV headN; rw [hr, if_pos rfl, Int.toNat_natCast, List.getD_eq_getElem?_getD, hx]; rfl
    have HRD2 := HRD.out
    rw [hr] at HRD2
    have HRD3 := Lib.hid HRD2
    clear HRD HRD2 hr hx h h8
    go_enter Try.func32, Try.ntmps32
    go_wp2_with fail
    refine HRD3.out.mono ?_
    rintro e w' ⟨rfl, rfl⟩
    go_wp2
    go_ret
    exact ⟨ret_int (by rw [HV.out]), rfl⟩
  · have hr : readsB R j = false := by simpa using hr
    have HV : Hid (headV R j = 0) := by show _ = _; unfold headV; rw [hr, if_neg (by decide)]
    have HRD2 := HRD.out
    rw [hr] at HRD2
    have HRD3 := Lib.hid HRD2
    clear HRD HRD2 hr h h8
    go_enter Try.func32, Try.ntmps32
    go_wp2_with fail
    refine HRD3.out.mono ?_
    rintro e w' ⟨rfl, rfl⟩
    go_wp2
    go_ret
    exact ⟨ret_int (by rw [HV.out]; rfl), rfl⟩
end
end Go.Proofs.Ytahojmioonpodaa
