import Derived.Test.YtjkgckdldmhgjaaLaw3
namespace Go.Proofs.Ytjkgckdldmhgjaa
open Go.RowKit
set_option linter.unusedVariables false
set_option linter.unusedSimpArgs false
theorem readR_at : ∀ (n : Nat) (s : ByteArray) (p : Nat) (bef : List (Nat × Nat)) (room : Nat), p ≤ s.size → (readR n s p bef room).2.2 ≤ s.size
  | 0, s, p, bef, room, h => by simpa [readR] using h
  | n + 1, s, p, bef, room, h => by
    have h1 := rd_used s p h
    have h2 := rd_used s _ h1
    have hp : (nextR s p bef room).2.2 ≤ s.size := by
      unfold nextR
      split
      · exact h1
      · split <;> exact h2
    rw [readR]
    split
    · exact readR_at n s _ _ _ hp
    · exact hp
theorem redAt_le (s : ByteArray) (most : Int) : redAt s 0 most ≤ s.size := by
  unfold redAt
  have h1 := rd_used s 0 (by omega)
  split
  · omega
  · split
    · exact h1
    · exact readR_at _ _ _ _ _ h1
theorem nextR_bound (s : ByteArray) (p : Nat) (bef : List (Nat × Nat)) (room : Nat) (h : (nextR s p bef room).2.1 = 0) : (nextR s p bef room).1.1 < M64 ∧ (nextR s p bef room).1.2 ≤ room := by
  have := nextR_ok h; exact ⟨this.2.2.2.1, this.2.1⟩
theorem readR_bound : ∀ (n : Nat) (s : ByteArray) (p : Nat) (bef : List (Nat × Nat)) (room : Nat), (∀ q ∈ bef, q.1 < M64) → (∀ q ∈ (readR n s p bef room).1, q.1 < M64) ∧ ((readR n s p bef room).2.1 = 0 → (spreads (readR n s p bef room).1).length ≤ (spreads bef).length + room)
  | 0, s, p, bef, room, h => by simpa [readR] using h
  | n + 1, s, p, bef, room, h => by
    rw [readR]
    split
    · rename_i he
      obtain ⟨b1, b2⟩ := nextR_bound s p bef room he
      obtain ⟨g1, g2⟩ := readR_bound n s (nextR s p bef room).2.2 (bef ++ [(nextR s p bef room).1]) (room - (nextR s p bef room).1.2) (fun q hq => by
        rcases List.mem_append.1 hq with hq | hq
        · exact h q hq
        · simp at hq; subst hq; exact b1)
      refine ⟨g1, fun h0 => ?_⟩
      have := g2 h0
      rw [spreads_append, List.length_append, show spreads [(nextR s p bef room).1] = List.replicate (nextR s p bef room).1.2 (nextR s p bef room).1.1 by simp [spreads], List.length_replicate] at this
      omega
    · rename_i he
      exact ⟨h, fun h0 => absurd h0 he⟩
theorem redOf_bound (s : ByteArray) (most : Int) : (∀ n ∈ redOf s 0 most, n < M64) ∧ (0 ≤ most → (redOf s 0 most).length ≤ most.toNat) ∧ (most < 0 → redOf s 0 most = []) := by
  obtain ⟨g1, g2⟩ := readR_bound (rd (restOf s 0)).1 s (0 + (rd (restOf s 0)).2.2) [] most.toNat (fun q hq => by simp at hq)
  refine ⟨fun n hn => ?_, fun h0 => ?_, fun h0 => ?_⟩
  · unfold redOf at hn
    split at hn
    · obtain ⟨p, hp, hq⟩ := List.mem_flatMap.1 hn
      rw [List.eq_of_mem_replicate hq]; exact g1 p hp
    · simp at hn
  · unfold redOf
    split
    · rename_i he
      unfold redE at he
      rw [if_neg (by omega)] at he
      split at he
      · rename_i hne; exact absurd he hne
      · have := g2 he
        simpa [spreads] using this
    · simp
  · unfold redOf
    have he : redE s 0 most = 1 := by unfold redE; rw [if_pos h0]
    rw [if_neg (by omega)]
set_option maxHeartbeats 2000000 in
set_option maxRecDepth 100000 in
theorem reads_walk (s : ByteArray) (a1 : Int) (w : World) (ws : s.size ≤ maxLen) (w1 : (Lit.int .i64 a1).wf = true) :
    Calls Try.prog 6 #[.string s, .int .i64 a1] w fun e w' => e = .returned (.bool true) ∧ Below w.heap.size w w' := by
  obtain ⟨b1, b2⟩ := Go.bounds_i64 w1
  clear w1
  unfold maxLen at ws
  by_cases hs : 500 < s.size
  · have e0 : decide ((500 : Int) < (s.size : Int)) = true := by simp; omega
    have hbel := Below.refl w.heap.size w
    go_enter Try.func6, Try.ntmps6
    go_wp2_with (go_at_call 9; refine (awake_any _).mono ?_; rintro e w1 ⟨rfl, hb⟩; have hbel := then_ hbel hb; clear hb)
    go_ret
    exact ⟨rfl, hbel⟩
  have e0 : decide ((500 : Int) < (s.size : Int)) = false := by simp; omega
  by_cases hb : 2000 < a1
  · have e1 : decide ((2000 : Int) < a1) = true := by simpa using hb
    have hbel := Below.refl w.heap.size w
    go_enter Try.func6, Try.ntmps6
    go_wp2_with (go_at_call 9; refine (awake_any _).mono ?_; rintro e w1 ⟨rfl, hb⟩; have hbel := then_ hbel hb; clear hb)
    go_ret
    exact ⟨rfl, hbel⟩
  have e1 : decide ((2000 : Int) < a1) = false := by simpa using hb
  have hsz : s.size ≤ 500 := by omega
  have hpr := print_read s a1
  have hal := redAt_le s a1
  obtain ⟨ob1, ob2, ob3⟩ := redOf_bound s a1
  have hol : (redOf s 0 a1).length ≤ 2000 := by
    by_cases h0 : 0 ≤ a1
    · have := ob2 h0; omega
    · rw [ob3 (by omega)]; simp
  have HOB := Lib.hid ob1
  have HPR := Lib.hid hpr
  have hN := fun w' => octetNew s w' (by unfold maxLen; omega)
  have HNEW := Lib.hid hN
  have hrr := fun w' => refRead4 s 0 a1 w' (by omega) (by omega) (by omega) (by omega)
  have HRR := Lib.hid hrr
  have hrd := fun g w' h => runsRead g s 0 a1 w' h (by omega) (by omega) (by omega)
  have HRD := Lib.hid hrd
  clear hs hb hpr ob1 ob2 ob3 hN hrr hrd
  generalize redOf s 0 a1 = O at *
  generalize redAt s 0 a1 = P at *
  generalize redE s 0 a1 = E at *
  have hbel := Below.refl w.heap.size w
  go_enter Try.func6, Try.ntmps6
  go_wp2_with fail
  refine (awake_any _).mono ?_
  rintro e wA ⟨rfl, hb⟩
  have hbel := then_ hbel hb
  clear hb
  go_wp2_with fail
  refine (HNEW.out _).mono ?_
  rintro e w2 ⟨rfl, hr, hk⟩
  have hb2 := hk.all
  have hgs : w.heap.size ≤ wA.heap.size := hbel.size
  have hbel2 := hbel.trans (hb2.mono hbel.size)
  have HR0 := Lib.hid hr
  clear hr hb2 HNEW hbel
  go_wp2_with fail
  refine (HRD.out _ _ HR0.out).mono ?_
  rintro e w3 ⟨vl, rfl, ho, hr3, hk3⟩
  have hbel3 : Below w.heap.size w w3 := by
    have := hk3.below (B := w.heap.size) (Nat.le_trans hgs (by have := hk.size; omega)) (fun k hk (h : k = _) => by omega)
    exact hbel2.trans this
  have HO := Lib.hid (SeqAt.of_owns ho)
  have HR := Lib.hid hr3
  clear ho hr3 hk hk3 hbel2 HRD HR0
  go_wp2_with fail
  refine (HRR.out w3).mono ?_
  rintro e w4 ⟨vm, rfl, ho, hb4⟩
  have hbel := hbel3.trans (hb4.mono hbel3.size)
  have HO4 := Lib.hid (HO.out.later_ hb4)
  have HM4 := Lib.hid (SeqAt.of_owns ho)
  have HR4 := Lib.hid (HR.out.kept (Kept.of_below hb4) (fun hf => hf))
  clear ho hb4 hbel3 HO HR HRR
  generalize wA.heap.size = g at *
  by_cases hE : E = 0
  · subst hE
    have hpr := HPR.out rfl
    have hcut : textB (printR O) = s.extract 0 P := by
      apply eq_of_data
      rw [ByteArray.data_extract, Array.toList_extract, List.extract_eq_take_drop, List.drop_zero, Nat.sub_zero]
      exact hpr
    have HCUT := Lib.hid hcut
    have hPs : (P : Int) ≤ (s.size : Int) := by omega
    have hKeep : Hid (∀ x y : World, Below x.heap.size x y → (SeqAt x vl (cells64 O) ∧ SeqAt x vm (cells64 O) ∧ RdAt x g s P) → (SeqAt y vl (cells64 O) ∧ SeqAt y vm (cells64 O) ∧ RdAt y g s P)) :=
      fun x y hb h => ⟨h.1.later_ hb, h.2.1.later_ hb, h.2.2.kept (Kept.of_below hb) (fun hf => hf)⟩
    have HC1 : Hid (∀ x, (SeqAt x vl (cells64 O) ∧ SeqAt x vm (cells64 O) ∧ RdAt x g s P) ∧ Below w.heap.size w x ∧ w.heap.size ≤ x.heap.size → Calls Try.prog 14 #[vl, vm] x fun e y => e = .returned (.bool true) ∧ Below x.heap.size x y) := fun x h => by
      have := refSameNat vl vm O O x h.1.1 h.1.2.1
      rw [decide_eq_true (rfl : O = O)] at this
      exact this.mono fun e y ⟨he, n, hy⟩ => ⟨he, by rw [hy]; exact below_drew0 _ _⟩
    have HC2 : Hid (∀ x, (SeqAt x vl (cells64 O) ∧ SeqAt x vm (cells64 O) ∧ RdAt x g s P) ∧ Below w.heap.size w x ∧ w.heap.size ≤ x.heap.size → Calls Try.prog 20 #[.pointer (some ⟨g, 0, none⟩)] x fun e y => e = .returned (.int .i64 P) ∧ Below x.heap.size x y) := fun x h =>
      (octetAt g s P x h.1.2.2).mono fun e y ⟨he, hy⟩ => ⟨he, by rw [← hy]; exact Below.refl _ _⟩
    have HC3 : Hid (∀ x, (SeqAt x vl (cells64 O) ∧ SeqAt x vm (cells64 O) ∧ RdAt x g s P) ∧ Below w.heap.size w x ∧ w.heap.size ≤ x.heap.size → Calls Try.prog 16 #[vl] x fun e y => e = .returned (.string (s.extract 0 P)) ∧ Below x.heap.size x y) := fun x h => by
      rw [← HCUT.out]
      exact runsPrint vl O x h.1.1 (by omega) HOB.out
    have hST : (SeqAt w4.drew vl (cells64 O) ∧ SeqAt w4.drew vm (cells64 O) ∧ RdAt w4.drew g s P) := ⟨HO4.out, HM4.out, HR4.out⟩
    have hkd : Below w.heap.size w w4.drew := hbel.drew
    have hsd : w.heap.size ≤ w4.drew.heap.size := hbel.size
    have hsl := slice_text (P := Try.prog) 9 Try.underlying9 s 0 P 0 (P : Int) rfl rfl (Nat.zero_le _) hal
    have HST := Lib.hid hST
    clear hpr hcut hST HPR HO4 HM4 HR4 hbel
    go_wp2_with fail
    try simp only [Act.put, List.setIfInBounds_toArray, List.set_cons_zero, List.set_cons_succ]
    refine wp_region_held_drew (S := fun x => (SeqAt x vl (cells64 O) ∧ SeqAt x vm (cells64 O) ∧ RdAt x g s P) ∧ Below w.heap.size w x ∧ w.heap.size ≤ x.heap.size) (by kernel_rfl) ⟨HST.out, hkd, hsd⟩ (fun hHeld => ?_)
    clear HST hkd hsd
    refine wpAnyH_take (i := 0) (v := vl) rfl (by kernel_rfl) (by kernel_rfl) (by kernel_rfl) (fun _ _ _ h => h) (Or.inl ⟨by rfl, fun w h => by (simp only [List.getElem_toArray, List.getElem_cons_succ, List.getElem_cons_zero]; clear h; go_simp)⟩) (by assumption) ?_
    simp only [Act.put, List.getElem_toArray, List.getElem_cons_succ, List.getElem_cons_zero, List.setIfInBounds_toArray, List.set_cons_zero, List.set_cons_succ]
    refine wpAnyH_take (i := 1) (v := vm) rfl (by kernel_rfl) (by kernel_rfl) (by kernel_rfl) (fun _ _ _ h => h) (Or.inl ⟨by rfl, fun w h => by (simp only [List.getElem_toArray, List.getElem_cons_succ, List.getElem_cons_zero]; clear h; go_simp)⟩) (by assumption) ?_
    simp only [Act.put, List.getElem_toArray, List.getElem_cons_succ, List.getElem_cons_zero, List.setIfInBounds_toArray, List.set_cons_zero, List.set_cons_succ]
    refine wpAnyH_ready (rs := [2]) (by kernel_rfl) (by simp) ?_
    refine AllReadyH.cons rfl (fun K hK => ?_) AllReadyH.nil
    rw [if_pos (by rfl)]
    go_wp2_with fail
    refine (keep_callS hKeep.out (HC1.out _ hHeld) (by assumption)).mono ?_
    rintro e w' ⟨he, q⟩
    cases he
    dsimp only
    refine hK.out _ _ q (fun hHeld => ?_)
    clear hK K
    try simp only [Act.put, List.setIfInBounds_toArray, List.set_cons_zero, List.set_cons_succ]
    refine wpAnyH_ready (rs := [3]) (by kernel_rfl) (by simp) ?_
    refine AllReadyH.cons rfl (fun K hK => ?_) AllReadyH.nil
    rw [if_pos (by rfl)]
    go_wp2_with fail
    refine hK.out _ _ (by assumption) (fun hHeld => ?_)
    clear hK K
    try simp only [Act.put, List.setIfInBounds_toArray, List.set_cons_zero, List.set_cons_succ]
    refine wpAnyH_take (i := 4) (v := (.int .i64 0)) rfl (by kernel_rfl) (by kernel_rfl) (by kernel_rfl) (fun _ _ _ h => h) (Or.inl ⟨by rfl, fun w h => by (simp only [List.getElem_toArray, List.getElem_cons_succ, List.getElem_cons_zero]; clear h; go_simp)⟩) (by assumption) ?_
    simp only [Act.put, List.getElem_toArray, List.getElem_cons_succ, List.getElem_cons_zero, List.setIfInBounds_toArray, List.set_cons_zero, List.set_cons_succ]
    refine wpAnyH_take (i := 5) (v := (.int .i64 0)) rfl (by kernel_rfl) (by kernel_rfl) (by kernel_rfl) (fun _ _ _ h => h) (Or.inl ⟨by rfl, fun w h => by (simp only [List.getElem_toArray, List.getElem_cons_succ, List.getElem_cons_zero]; clear h; go_simp)⟩) (by assumption) ?_
    simp only [Act.put, List.getElem_toArray, List.getElem_cons_succ, List.getElem_cons_zero, List.setIfInBounds_toArray, List.set_cons_zero, List.set_cons_succ]
    refine wpAnyH_ready (rs := [6]) (by kernel_rfl) (by simp) ?_
    refine AllReadyH.cons rfl (fun K hK => ?_) AllReadyH.nil
    rw [if_pos (by rfl)]
    go_wp2_with fail
    refine hK.out _ _ (by assumption) (fun hHeld => ?_)
    clear hK K
    try simp only [Act.put, List.setIfInBounds_toArray, List.set_cons_zero, List.set_cons_succ]
    refine wpAnyH_ready (rs := [7]) (by kernel_rfl) (by simp) ?_
    refine AllReadyH.cons rfl (fun K hK => ?_) AllReadyH.nil
    rw [if_pos (by rfl)]
    go_wp2_with fail
    refine hK.out _ _ (by assumption) (fun hHeld => ?_)
    clear hK K
    try simp only [Act.put, List.setIfInBounds_toArray, List.set_cons_zero, List.set_cons_succ]
    refine wpAnyH_ready (rs := [8]) (by kernel_rfl) (by simp) ?_
    refine AllReadyH.cons rfl (fun K hK => ?_) AllReadyH.nil
    rw [if_pos (by rfl)]
    go_wp2_with fail
    refine hK.out _ _ (by assumption) (fun hHeld => ?_)
    clear hK K
    try simp only [Act.put, List.setIfInBounds_toArray, List.set_cons_zero, List.set_cons_succ]
    refine wpAnyH_take (i := 9) (v := (.pointer (some ⟨g, 0, none⟩))) rfl (by kernel_rfl) (by kernel_rfl) (by kernel_rfl) (fun _ _ _ h => h) (Or.inl ⟨by rfl, fun w h => by (simp only [List.getElem_toArray, List.getElem_cons_succ, List.getElem_cons_zero]; clear h; go_simp)⟩) (by assumption) ?_
    simp only [Act.put, List.getElem_toArray, List.getElem_cons_succ, List.getElem_cons_zero, List.setIfInBounds_toArray, List.set_cons_zero, List.set_cons_succ]
    refine wpAnyH_take (i := 11) (v := (.int .i64 P)) rfl (by kernel_rfl) (by kernel_rfl) (by kernel_rfl) (fun _ _ _ h => h) (Or.inl ⟨by rfl, fun w h => by (simp only [List.getElem_toArray, List.getElem_cons_succ, List.getElem_cons_zero]; clear h; go_simp)⟩) (by assumption) ?_
    simp only [Act.put, List.getElem_toArray, List.getElem_cons_succ, List.getElem_cons_zero, List.setIfInBounds_toArray, List.set_cons_zero, List.set_cons_succ]
    refine wpAnyH_ready (rs := [10]) (by kernel_rfl) (by simp) ?_
    refine AllReadyH.cons rfl (fun K hK => ?_) AllReadyH.nil
    rw [if_pos (by rfl)]
    go_wp2_with fail
    refine (keep_callS hKeep.out (HC2.out _ hHeld) (by assumption)).mono ?_
    rintro e w' ⟨he, q⟩
    cases he
    dsimp only
    refine hK.out _ _ q (fun hHeld => ?_)
    clear hK K
    try simp only [Act.put, List.setIfInBounds_toArray, List.set_cons_zero, List.set_cons_succ]
    refine wpAnyH_ready (rs := [12]) (by kernel_rfl) (by simp) ?_
    refine AllReadyH.cons rfl (fun K hK => ?_) AllReadyH.nil
    rw [if_pos (by rfl)]
    go_wp2_with fail
    refine hK.out _ _ (by assumption) (fun hHeld => ?_)
    clear hK K
    try simp only [Act.put, List.setIfInBounds_toArray, List.set_cons_zero, List.set_cons_succ]
    refine wpAnyH_ready (rs := [13]) (by kernel_rfl) (by simp) ?_
    refine AllReadyH.cons rfl (fun K hK => ?_) AllReadyH.nil
    rw [if_pos (by rfl)]
    go_wp2_with fail
    refine hK.out _ _ (by assumption) (fun hHeld => ?_)
    clear hK K
    try simp only [Act.put, List.setIfInBounds_toArray, List.set_cons_zero, List.set_cons_succ]
    refine wpAnyH_ready (rs := [14]) (by kernel_rfl) (by simp) ?_
    refine AllReadyH.cons rfl (fun K hK => ?_) AllReadyH.nil
    rw [if_pos (by rfl)]
    go_wp2_with fail
    refine hK.out _ _ (by assumption) (fun hHeld => ?_)
    clear hK K
    try simp only [Act.put, List.setIfInBounds_toArray, List.set_cons_zero, List.set_cons_succ]
    refine wpAnyH_take (i := 15) (v := (.int .i64 0)) rfl (by kernel_rfl) (by kernel_rfl) (by kernel_rfl) (fun _ _ _ h => h) (Or.inl ⟨by rfl, fun w h => by (simp only [List.getElem_toArray, List.getElem_cons_succ, List.getElem_cons_zero]; clear h; go_simp)⟩) (by assumption) ?_
    simp only [Act.put, List.getElem_toArray, List.getElem_cons_succ, List.getElem_cons_zero, List.setIfInBounds_toArray, List.set_cons_zero, List.set_cons_succ]
    refine wpAnyH_ready (rs := [16]) (by kernel_rfl) (by simp) ?_
    refine AllReadyH.cons rfl (fun K hK => ?_) AllReadyH.nil
    rw [if_pos (by rfl)]
    go_wp2_with fail
    refine hK.out _ _ (by assumption) (fun hHeld => ?_)
    clear hK K
    try simp only [Act.put, List.setIfInBounds_toArray, List.set_cons_zero, List.set_cons_succ]
    refine wpAnyH_ready (rs := [17]) (by kernel_rfl) (by simp) ?_
    refine AllReadyH.cons rfl (fun K hK => ?_) AllReadyH.nil
    rw [if_pos (by rfl)]
    go_wp2_with fail
    refine hK.out _ _ (by assumption) (fun hHeld => ?_)
    clear hK K
    try simp only [Act.put, List.setIfInBounds_toArray, List.set_cons_zero, List.set_cons_succ]
    refine wpAnyH_take (i := 18) (v := vl) rfl (by kernel_rfl) (by kernel_rfl) (by kernel_rfl) (fun _ _ _ h => h) (Or.inl ⟨by rfl, fun w h => by (simp only [List.getElem_toArray, List.getElem_cons_succ, List.getElem_cons_zero]; clear h; go_simp)⟩) (by assumption) ?_
    simp only [Act.put, List.getElem_toArray, List.getElem_cons_succ, List.getElem_cons_zero, List.setIfInBounds_toArray, List.set_cons_zero, List.set_cons_succ]
    refine wpAnyH_take (i := 20) (v := (.string s)) rfl (by kernel_rfl) (by kernel_rfl) (by kernel_rfl) (fun _ _ _ h => h) (Or.inl ⟨by rfl, fun w h => by (simp only [List.getElem_toArray, List.getElem_cons_succ, List.getElem_cons_zero]; clear h; go_simp)⟩) (by assumption) ?_
    simp only [Act.put, List.getElem_toArray, List.getElem_cons_succ, List.getElem_cons_zero, List.setIfInBounds_toArray, List.set_cons_zero, List.set_cons_succ]
    refine wpAnyH_take (i := 21) (v := (.int .i64 P)) rfl (by kernel_rfl) (by kernel_rfl) (by kernel_rfl) (fun _ _ _ h => h) (Or.inl ⟨by rfl, fun w h => by (simp only [List.getElem_toArray, List.getElem_cons_succ, List.getElem_cons_zero]; clear h; go_simp)⟩) (by assumption) ?_
    simp only [Act.put, List.getElem_toArray, List.getElem_cons_succ, List.getElem_cons_zero, List.setIfInBounds_toArray, List.set_cons_zero, List.set_cons_succ]
    refine wpAnyH_take (i := 22) (v := (.string (s.extract 0 P))) rfl (by kernel_rfl) (by kernel_rfl) (by kernel_rfl) (fun _ _ _ h => h) (Or.inl ⟨by rfl, fun w h => by (simp only [List.getElem_toArray, List.getElem_cons_succ, List.getElem_cons_zero]; clear h; go_simp)⟩) (by assumption) ?_
    simp only [Act.put, List.getElem_toArray, List.getElem_cons_succ, List.getElem_cons_zero, List.setIfInBounds_toArray, List.set_cons_zero, List.set_cons_succ]
    refine wpAnyH_ready (rs := [19]) (by kernel_rfl) (by simp) ?_
    refine AllReadyH.cons rfl (fun K hK => ?_) AllReadyH.nil
    rw [if_pos (by rfl)]
    go_wp2_with fail
    refine (keep_callS hKeep.out (HC3.out _ hHeld) (by assumption)).mono ?_
    rintro e w' ⟨he, q⟩
    cases he
    dsimp only
    refine hK.out _ _ q (fun hHeld => ?_)
    clear hK K
    try simp only [Act.put, List.setIfInBounds_toArray, List.set_cons_zero, List.set_cons_succ]
    refine wpAnyH_ready (rs := [23]) (by kernel_rfl) (by simp) ?_
    refine AllReadyH.cons rfl (fun K hK => ?_) AllReadyH.nil
    rw [if_pos (by rfl)]
    go_wp2_with fail
    refine hK.out _ _ (by assumption) (fun hHeld => ?_)
    clear hK K
    try simp only [Act.put, List.setIfInBounds_toArray, List.set_cons_zero, List.set_cons_succ]
    refine wpAnyH_ready (rs := [24]) (by kernel_rfl) (by simp) ?_
    refine AllReadyH.cons rfl (fun K hK => ?_) AllReadyH.nil
    rw [if_pos (by rfl)]
    go_wp2_with fail
    refine hK.out _ _ (by assumption) (fun hHeld => ?_)
    clear hK K
    try simp only [Act.put, List.setIfInBounds_toArray, List.set_cons_zero, List.set_cons_succ]
    refine wpAnyH_ready (rs := [25]) (by kernel_rfl) (by simp) ?_
    refine AllReadyH.cons rfl (fun K hK => ?_) AllReadyH.nil
    rw [if_pos (by rfl)]
    go_wp2_with fail
    refine hK.out _ _ (by assumption) (fun hHeld => ?_)
    clear hK K
    try simp only [Act.put, List.setIfInBounds_toArray, List.set_cons_zero, List.set_cons_succ]
    refine wpAnyH_ready (rs := [26]) (by kernel_rfl) (by simp) ?_
    refine AllReadyH.cons rfl (fun K hK => ?_) AllReadyH.nil
    rw [if_pos (by rfl)]
    go_wp2_with fail
    refine hK.out _ _ (by assumption) (fun hHeld => ?_)
    clear hK K
    try simp only [Act.put, List.setIfInBounds_toArray, List.set_cons_zero, List.set_cons_succ]
    refine wpAnyH_done (by kernel_rfl) ?_ _
    go_wp2
    go_ret
    exact ⟨rfl, hHeld.2.1⟩
  · have e6 : ((E : Int) != 0) = true := by simp; omega
    have hS := fun n => refSameNat vl vm O O (w4.drewN n) (HO4.out) (HM4.out)
    rw [decide_eq_true (rfl : O = O)] at hS
    have HS := Lib.hid hS
    have HA : Hid (∀ n, Calls Try.prog 20 #[.pointer (some ⟨g, 0, none⟩)] (w4.drewN n) fun e y => e = .returned (.int .i64 P) ∧ y = w4.drewN n) := fun n => (octetAt g s P (w4.drewN n) HR4.out).mono fun e y ⟨he, hy⟩ => ⟨he, hy.symm⟩
    clear hE hS HPR HO4 HM4 HR4
    go_wp2
    go_quiet (first | (go_at_call 14; exact Calls.quiet_of (HS.out _)) | (go_at_call 20; exact Calls.quiet_of_same (HA.out _)))
    go_wp2
    go_ret
    exact ⟨rfl, below_drewN hbel _⟩
end Go.Proofs.Ytjkgckdldmhgjaa
