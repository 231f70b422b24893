import Derived.Test.YtahojmioonpodaaRing3
namespace Go.Proofs.Ytahojmioonpodaa
open Go.RowKit
set_option linter.unusedVariables false
set_option linter.unusedSimpArgs false
section
variable {w : World} {g o : Nat} {T : TypeId} {p0 post : List Value} {R : Rg}
set_option maxHeartbeats 1000000 in
set_option maxRecDepth 100000 in
theorem rgTake (j : Int) (h : RgAt w g T p0 post R) (ho : p0.length = o) :
    Calls Try.prog 28 #[.pointer (some ⟨g, o, none⟩), .int .i64 j] w fun e w' => e = .returned (.tuple #[.int .u64 (takeV R j : Nat), .int .i64 (takeE R j : Nat)]) ∧ RgAt w' g T p0 post (takeR R j) ∧ Kept (oneRow g) w w' := by
  have HEM := Lib.hid (cuEmpty j h ho)
  have HEM2 := Lib.hid (fun n => cuEmpty (w := w.drewN n) j (h.drewN n) ho)
  subst ho
  obtain ⟨c0, c1, c2, c3⟩ := h.cells
  have HRD := Lib.hid (cuReads (R := R) j w c1)
  by_cases hr : readsB R j = true
  · obtain ⟨hg, hj8, hj0⟩ := headN_get h.1 hr
    have hrd := HRD.out
    rw [hr] at hrd
    have HRD2 := Lib.hid hrd
    by_cases he : headN R j = R.tail
    · have hem : emptyB R j = true := by unfold emptyB; rw [hr, decide_eq_true he]; rfl
      have hm1 := HEM.out
      have hm2 := HEM2.out
      rw [hem] at hm1
      simp only [hem] at hm2
      have HM1 := Lib.hid hm1
      have HM2 := Lib.hid hm2
      by_cases hc : R.cl = true
      · have hE : takeE R j = 10 := by unfold takeE; rw [hr, if_neg (by decide), if_pos he, if_pos hc]
        have HE := Lib.hid hE
        have HV : Hid (takeV R j = 0) := by show _ = _; unfold takeV; rw [hE, if_neg (by decide)]
        have HR : Hid (takeR R j = R) := by show _ = _; unfold takeR; rw [hE, if_neg (by decide)]
        have H := Lib.hid h
        rw [hc] at c3
        clear h hE hc hr he hem hm1 hm2 hrd hg HEM HEM2 HRD
        go_enter Try.func28, Try.ntmps28
        go_wp2_with fail
        refine HRD2.out.mono ?_
        rintro e w' ⟨rfl, rfl⟩
        go_wp2_with fail
        refine HM1.out.mono ?_
        rintro e w' ⟨rfl, n, rfl⟩
        go_wp2
        go_ret2
        exact ⟨by rw [HE.out, HV.out]; rfl, by rw [HR.out]; exact H.out, Kept.drewN _ _ _⟩
      · have hc : R.cl = false := by simpa using hc
        have hE : takeE R j = 9 := by unfold takeE; rw [hr, if_neg (by decide), if_pos he, hc, if_neg (by decide)]
        have HE := Lib.hid hE
        have HV : Hid (takeV R j = 0) := by show _ = _; unfold takeV; rw [hE, if_neg (by decide)]
        have HR : Hid (takeR R j = R) := by show _ = _; unfold takeR; rw [hE, if_neg (by decide)]
        have H := Lib.hid h
        rw [hc] at c3
        clear h hE hc hr he hem hm1 hm2 hrd hg HEM HEM2 HRD
        go_enter Try.func28, Try.ntmps28
        go_wp2_with fail
        refine HRD2.out.mono ?_
        rintro e w' ⟨rfl, rfl⟩
        go_wp2_with fail
        refine HM1.out.mono ?_
        rintro e w' ⟨rfl, n, rfl⟩
        go_wp2_with fail
        refine (HM2.out n).mono ?_
        rintro e w' ⟨rfl, n2, rfl⟩
        go_wp2
        go_ret2
        exact ⟨by rw [HE.out, HV.out]; rfl, by rw [HR.out]; exact H.out, rfl, rfl, rfl, Nat.le_refl _, fun _ _ _ => rfl⟩
    · have hem : emptyB R j = false := by unfold emptyB; rw [hr, decide_eq_false he]; rfl
      have hm1 := HEM.out
      have hm2 := HEM2.out
      rw [hem] at hm1
      simp only [hem] at hm2
      have HM1 := Lib.hid hm1
      have HM2 := Lib.hid hm2
      have hE : takeE R j = 0 := by unfold takeE; rw [hr, if_neg (by decide), if_neg he]
      have HE := Lib.hid hE
      have HV : Hid (takeV R j = headN R j) := by show _ = _; unfold takeV; rw [hE, if_pos rfl]
      have hR : takeR R j = { R with h8 := R.h8.set j.toNat (headN R j + 1) } := by unfold takeR; rw [hE, if_pos rfl]
      have h8 := h.1.1
      have htl := h.1.2.2.2.1
      have hhl := h.1.2.2.2.2 _ (List.mem_of_getElem? hg)
      obtain ⟨n, rfl⟩ : ∃ n : Nat, j = n := ⟨j.toNat, by omega⟩
      rw [Int.toNat_natCast] at hg hj8 hR
      have hcset : (cuR R).set (3 + n) (.int .u64 ((headN R n + 1 : Nat) : Int)) = cuR (takeR R n) := by
        rw [hR]
        unfold cuR cuF
        rw [List.set_append_left _ _ (by simp; omega), List.set_append_right _ _ (by simp)]
        simp [List.map_set]
      have hok := takeR_ok h.1 (n : Int)
      have dk := h.head hg
      have fk := h.free (p0.length + 3 + n)
      have hput := fun m => ((h.drewN m).put (R' := takeR R n) (k := 3 + n) (u := .int .u64 ((headN R n + 1 : Nat) : Int)) (by omega) hok (by rw [hR]) (by rw [hR]) hcset)
      simp only [← Nat.add_assoc] at hput
      have HPUT := Lib.hid hput
      have hn8 : (n : Int) < 8 := by omega
      clear h hE hr he hem hm1 hm2 hrd hg HEM HEM2 HRD hR hcset hok hput h8
      generalize headN R n = x at *
      have hx64 : x ≤ 4611687117939015680 := by omega
      go_enter Try.func28, Try.ntmps28
      go_wp2_with fail
      refine HRD2.out.mono ?_
      rintro e w' ⟨rfl, rfl⟩
      go_wp2_with fail
      refine HM1.out.mono ?_
      rintro e w' ⟨rfl, m1, rfl⟩
      go_wp2_with fail
      refine (HM2.out m1).mono ?_
      rintro e w' ⟨rfl, m2, rfl⟩
      go_wp2
      go_region
      all_goals
        go_wp2
        go_ret2
        exact ⟨by rw [HE.out, HV.out]; rfl, HPUT.out (m1 + m2 + 1), (Kept.drewN _ _ (m1 + m2 + 1)).trans (Kept.put _ g (p0.length + 3 + n) _) (fun _ _ h => h)⟩
  · have hr : readsB R j = false := by simpa using hr
    have hrd := HRD.out
    rw [hr] at hrd
    have HRD2 := Lib.hid hrd
    have hE : takeE R j = 1 := by unfold takeE; rw [hr, if_pos rfl]
    have HE := Lib.hid hE
    have HV : Hid (takeV R j = 0) := by show _ = _; unfold takeV; rw [hE, if_neg (by decide)]
    have HR : Hid (takeR R j = R) := by show _ = _; unfold takeR; rw [hE, if_neg (by decide)]
    have H := Lib.hid h
    clear h hE hr hrd HEM HEM2 HRD
    go_enter Try.func28, Try.ntmps28
    go_wp2_with fail
    refine HRD2.out.mono ?_
    rintro e w' ⟨rfl, rfl⟩
    go_wp2
    go_ret2
    exact ⟨by rw [HE.out, HV.out]; rfl, by rw [HR.out]; exact H.out, Kept.refl _ _⟩
theorem relE_in {R : Rg} {j : Int} {t : Nat} (hr : readsB R j = true) (hh : ¬ headN R j ≤ t) : relE R j t = getE R.rd R.L j t := by unfold relE; rw [hr, if_neg (by decide), if_neg hh]
theorem getE_V {r : Nat} {L : List Sl} {j : Int} {t : Nat} : (if getE r L j t = 0 then getV r L j t else 0) = getV r L j t := by
  by_cases h : getE r L j t = 0
  · rw [if_pos h]
  · rw [if_neg h]; unfold getV; rw [if_neg h]
theorem getE_S {r : Nat} {L : List Sl} {j : Int} {t : Nat} (h : getE r L j t ≠ 0) : getS r L j t = L := by unfold getS; rw [if_neg h]
theorem relR_in {R : Rg} {j : Int} {t : Nat} (hr : readsB R j = true) (hh : ¬ headN R j ≤ t) : relR R j t = { R with L := getS R.rd R.L j t } := by
  unfold relR
  rw [relE_in hr hh]
  by_cases h : getE R.rd R.L j t = 0
  · rw [if_pos h]
  · rw [if_neg h, getE_S h]
set_option maxHeartbeats 1000000 in
set_option maxRecDepth 100000 in
theorem rgRelease (j : Int) (t : Nat) (h : RgAt w g T p0 post R) (ho : p0.length = o) (ht : t ≤ 18446744073709551615) :
    Calls Try.prog 25 #[.pointer (some ⟨g, o, none⟩), .int .i64 j, .int .u64 t] w fun e w' => e = .returned (.tuple #[.int .u64 (relV R j t : Nat), .int .i64 (relE R j t : Nat)]) ∧ RgAt w' g T p0 post (relR R j t) ∧ Kept (oneRow g) w w' := by
  obtain ⟨s1, s2⟩ := h.slots
  have HG := Lib.hid (slotsGet j t s1 s2 ht)
  subst ho
  obtain ⟨c0, c1, c2, c3⟩ := h.cells
  have HRD := Lib.hid (cuReads (R := R) j w c1)
  by_cases hr : readsB R j = true
  · obtain ⟨hg, hj8, hj0⟩ := headN_get h.1 hr
    have hrd := HRD.out
    rw [hr] at hrd
    have HRD2 := Lib.hid hrd
    obtain ⟨n, rfl⟩ : ∃ n : Nat, j = n := ⟨j.toNat, by omega⟩
    rw [Int.toNat_natCast] at hg hj8
    have dk := h.head hg
    have hn8 : (n : Int) < 8 := by omega
    by_cases hh : headN R n ≤ t
    · have e1 : decide (headN R n ≤ t) = true := by simpa using hh
      have hE : relE R n t = 11 := by unfold relE; rw [hr, if_neg (by decide), if_pos hh]
      have HE := Lib.hid hE
      have HV : Hid (relV R n t = 0) := by show _ = _; unfold relV; rw [hE, if_neg (by decide)]
      have HR : Hid (relR R n t = R) := by show _ = _; unfold relR; rw [hE, if_neg (by decide)]
      have H := Lib.hid h
      clear h hE hr hrd hg HRD HG s1 s2 hh
      generalize headN R n = x at *
      go_enter Try.func25, Try.ntmps25
      go_wp2_with fail
      refine HRD2.out.mono ?_
      rintro e w' ⟨rfl, rfl⟩
      go_wp2
      go_ret2
      exact ⟨by rw [HE.out, HV.out]; rfl, by rw [HR.out]; exact H.out, Kept.refl _ _⟩
    · have e1 : decide (headN R n ≤ t) = false := by simpa using hh
      have HE : Hid (relE R n t = getE R.rd R.L n t) := relE_in hr hh
      have HV : Hid (relV R n t = getV R.rd R.L n t) := by show _ = _; unfold relV; rw [relE_in hr hh, getE_V]
      have HR : Hid (relR R n t = { R with L := getS R.rd R.L n t }) := relR_in hr hh
      have HOK := Lib.hid (relR_ok h.1 (n : Int) t)
      clear h hr hrd hg HRD s1 s2 hh
      generalize headN R n = x at *
      go_enter Try.func25, Try.ntmps25
      go_wp2_with fail
      refine HRD2.out.mono ?_
      rintro e w' ⟨rfl, rfl⟩
      go_wp2_with fail
      refine HG.out.mono ?_
      rintro e w1 ⟨rfl, hs, hk⟩
      have HS := Lib.hid hs
      clear hs HG
      go_wp2
      go_ret2
      refine ⟨by rw [HE.out, HV.out]; rfl, ⟨HOK.out, ?_⟩, hk⟩
      rw [HR.out]
      exact HS.out
  · have hr : readsB R j = false := by simpa using hr
    have hrd := HRD.out
    rw [hr] at hrd
    have HRD2 := Lib.hid hrd
    have hE : relE R j t = 1 := by unfold relE; rw [hr, if_pos rfl]
    have HE := Lib.hid hE
    have HV : Hid (relV R j t = 0) := by show _ = _; unfold relV; rw [hE, if_neg (by decide)]
    have HR : Hid (relR R j t = R) := by show _ = _; unfold relR; rw [hE, if_neg (by decide)]
    have H := Lib.hid h
    clear h hE hr hrd HRD HG s1 s2
    go_enter Try.func25, Try.ntmps25
    go_wp2_with fail
    refine HRD2.out.mono ?_
    rintro e w' ⟨rfl, rfl⟩
    go_wp2
    go_ret2
    exact ⟨by rw [HE.out, HV.out]; rfl, by rw [HR.out]; exact H.out, Kept.refl _ _⟩
theorem rgFree (t : Nat) (h : RgAt w g T p0 post R) (ho : p0.length = o) (ht : t ≤ 18446744073709551615) :
    Calls Try.prog 22 #[.pointer (some ⟨g, o, none⟩), .int .u64 t] w fun e w' => e = .returned (.bool (rfreeB R t)) ∧ ∃ n, w' = w.drewN n := by
  obtain ⟨s1, s2⟩ := h.slots
  have HG := Lib.hid (slotsIsFree t s1 s2 ht)
  subst ho
  obtain ⟨c0, c1, c2, c3⟩ := h.cells
  by_cases hb : t < R.tail
  · have e1 : decide (t < R.tail) = true := by simpa using hb
    have HE : Hid (rfreeB R t = freeB R.L t) := by show _ = _; unfold rfreeB; rw [e1, Bool.true_and]
    clear h hb s1 s2
    go_enter Try.func22, Try.ntmps22
    go_wp2_with fail
    refine HG.out.mono ?_
    rintro e w' ⟨rfl, n, rfl⟩
    go_wp2
    go_ret
    exact ⟨ret_bool (by rw [HE.out]), _, rfl⟩
  · have e1 : decide (t < R.tail) = false := by simpa using hb
    have HE : Hid (rfreeB R t = false) := by show _ = _; unfold rfreeB; rw [e1, Bool.false_and]
    clear h hb s1 s2 HG
    go_enter Try.func22, Try.ntmps22
    go_wp2
    go_ret
    exact ⟨ret_bool (by rw [HE.out]), 0, rfl⟩
set_option maxRecDepth 100000 in
theorem rgHas (j : Int) (t : Nat) (h : RgAt w g T p0 post R) (ho : p0.length = o) (ht : t ≤ 18446744073709551615) :
    Calls Try.prog 23 #[.pointer (some ⟨g, o, none⟩), .int .i64 j, .int .u64 t] w fun e w' => e = .returned (.bool (rhasB R j t)) ∧ Below w.heap.size w w' := by
  obtain ⟨s1, s2⟩ := h.slots
  have HG := Lib.hid (slotsHas j t s1 s2 ht)
  subst ho
  obtain ⟨c0, c1, c2, c3⟩ := h.cells
  have HRD := Lib.hid (cuReads (R := R) j w c1)
  by_cases hr : readsB R j = true
  · obtain ⟨hg, hj8, hj0⟩ := headN_get h.1 hr
    have hrd := HRD.out
    rw [hr] at hrd
    have HRD2 := Lib.hid hrd
    obtain ⟨n, rfl⟩ : ∃ n : Nat, j = n := ⟨j.toNat, by omega⟩
    rw [Int.toNat_natCast] at hg hj8
    have dk := h.head hg
    have hn8 : (n : Int) < 8 := by omega
    by_cases hh : t < headN R n
    · have e1 : decide (t < headN R n) = true := by simpa using hh
      have HE : Hid (rhasB R n t = decide (getE R.rd R.L n t = 0)) := by show _ = _; unfold rhasB; rw [hr, e1, Bool.true_and, Bool.true_and]
      clear h hr hrd hg HRD s1 s2 hh
      generalize headN R n = x at *
      generalize decide (getE R.rd R.L n t = 0) = dB at *
      go_enter Try.func23, Try.ntmps23
      go_wp2_with fail
      refine HRD2.out.mono ?_
      rintro e w' ⟨rfl, rfl⟩
      go_wp2_with fail
      refine HG.out.mono ?_
      rintro e w' ⟨rfl, hb⟩
      go_wp2
      go_ret
      exact ⟨ret_bool (by rw [HE.out]), hb⟩
    · have e1 : decide (t < headN R n) = false := by simpa using hh
      have HE : Hid (rhasB R n t = false) := by show _ = _; unfold rhasB; rw [hr, e1]; rfl
      clear h hr hrd hg HRD s1 s2 hh HG
      generalize headN R n = x at *
      go_enter Try.func23, Try.ntmps23
      go_wp2_with fail
      refine HRD2.out.mono ?_
      rintro e w' ⟨rfl, rfl⟩
      go_wp2
      go_ret
      exact ⟨ret_bool (by rw [HE.out]), Below.refl _ _⟩
  · have hr : readsB R j = false := by simpa using hr
    have hrd := HRD.out
    rw [hr] at hrd
    have HRD2 := Lib.hid hrd
    have HE : Hid (rhasB R j t = false) := by show _ = _; unfold rhasB; rw [hr]; rfl
    clear h hr hrd HRD HG s1 s2
    go_enter Try.func23, Try.ntmps23
    go_wp2_with fail
    refine HRD2.out.mono ?_
    rintro e w' ⟨rfl, rfl⟩
    go_wp2
    go_ret
    exact ⟨ret_bool (by rw [HE.out]), Below.refl _ _⟩
end
end Go.Proofs.Ytahojmioonpodaa
