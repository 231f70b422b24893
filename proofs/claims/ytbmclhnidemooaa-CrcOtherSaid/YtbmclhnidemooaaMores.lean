import Derived.Test.YtbmclhnidemooaaSums
namespace Go.Proofs.Ytbmclhnidemooaa
open Go.RowKit
set_option linter.unusedVariables false
theorem inv_inv (x : Nat) : 4294967295 ^^^ (4294967295 ^^^ x) = x := by rw [← Nat.xor_assoc, Nat.xor_self, Nat.zero_xor]
theorem moreT_append (ts : List Nat) (m : Nat) (a b : List UInt8) : moreT ts (moreT ts m a) b = moreT ts m (a ++ b) := by
  unfold moreT
  rw [inv_inv]
  simp [runT]
theorem moreT_lt {ts : List Nat} (h : IsT ts) (m : Nat) (l : List UInt8) (hm : m < 4294967296) : moreT ts m l < 4294967296 :=
  xor_lt32 _ _ (by decide) (runT_lt h l _ (xor_lt32 _ _ (by decide) hm))
theorem cut_text (s : ByteArray) (i : Nat) (hi : i ≤ s.size) : (s.extract 0 i).data.toList ++ (s.extract i s.size).data.toList = s.data.toList := by
  have h1 : (s.extract 0 i).data.toList = s.data.toList.take i := by rw [ByteArray.data_extract]; simp
  have h2 : (s.extract i s.size).data.toList = s.data.toList.drop i := by
    rw [ByteArray.data_extract, Array.toList_extract, List.extract_eq_take_drop, List.take_of_length_le (by rw [List.length_drop, Array.length_toList]; exact Nat.le_refl _)]
  rw [h1, h2, List.take_append_drop]
set_option maxRecDepth 100000 in
set_option maxHeartbeats 1000000 in
theorem more_walk (s : ByteArray) (a1 : Int) (w : World) (w0 : s.size ≤ maxLen) (w1 : (Lit.int .i64 a1).wf = true) :
    Calls Try.prog 6 #[.string s, .int .i64 a1] w fun e w' => e = .returned (.bool true) ∧ Below w.heap.size w w' := by
  obtain ⟨b1, b2⟩ := Go.bounds_i64 w1
  clear w1
  by_cases hs : 2000 < s.size
  · have e0 : decide ((2000 : Int) < (s.size : Int)) = true := by simp; omega
    have hbel := Below.refl w.heap.size w
    go_enter Try.func6, Try.ntmps6
    go_wp2_with (go_at_call 9; refine (awake_any _).mono ?_; rintro e w1 ⟨rfl, hb⟩; have hbel := then_ hbel hb; clear hb)
    go_ret
    exact ⟨rfl, hbel⟩
  have e0 : decide ((2000 : Int) < (s.size : Int)) = false := by simp; omega
  by_cases hn : a1 < 0
  · have e1 : decide (a1 < (0 : Int)) = true := by simpa using hn
    have hbel := Below.refl w.heap.size w
    go_enter Try.func6, Try.ntmps6
    go_wp2_with (go_at_call 9; refine (awake_any _).mono ?_; rintro e w1 ⟨rfl, hb⟩; have hbel := then_ hbel hb; clear hb)
    go_ret
    exact ⟨rfl, hbel⟩
  have e1 : decide (a1 < (0 : Int)) = false := by simpa using hn
  obtain ⟨i, rfl⟩ : ∃ i : Nat, a1 = i := ⟨a1.toNat, by omega⟩
  by_cases hl : s.size < i
  · have e2 : decide ((s.size : Int) < (i : Int)) = true := by simpa using hl
    have e3 : decide (s.size < i) = true := by simpa using hl
    have hbel := Below.refl w.heap.size w
    go_enter Try.func6, Try.ntmps6
    go_wp2_with (go_at_call 9; refine (awake_any _).mono ?_; rintro e w1 ⟨rfl, hb⟩; have hbel := then_ hbel hb; clear hb)
    go_ret
    exact ⟨rfl, hbel⟩
  have e2 : decide ((s.size : Int) < (i : Int)) = false := by simpa using hl
  have e3 : decide (s.size < i) = false := by simpa using hl
  have hT := crcTable2
  have hq := moreT_append entN 0 (s.extract 0 i).data.toList (s.extract i s.size).data.toList
  rw [cut_text s i (by omega)] at hq
  have hm1 := moreT_lt isT_entN 0 (s.extract 0 i).data.toList (by decide)
  have hm2 := moreT_lt isT_entN 0 s.data.toList (by decide)
  have hS1 : ∀ w, Calls Try.prog 11 #[.agg (cellsU entN).toArray, .string (s.extract 0 i)] w fun e w' => e = .returned (.int .u32 (moreT entN 0 (s.extract 0 i).data.toList)) ∧ Below w.heap.size w w' := fun w => crcSum entN _ w isT_entN (by rw [ByteArray.size_extract]; unfold maxLen at *; omega)
  have hM2 : ∀ w, Calls Try.prog 14 #[.agg (cellsU entN).toArray, .int .u32 (moreT entN 0 (s.extract 0 i).data.toList), .string (s.extract i s.size)] w fun e w' => e = .returned (.int .u32 (moreT entN 0 s.data.toList)) ∧ Below w.heap.size w w' := fun w => by
    have := crcMore entN (s.extract i s.size) _ w isT_entN hm1 (by rw [ByteArray.size_extract]; unfold maxLen at *; omega)
    rw [hq] at this
    exact this
  have hS3 : ∀ w, Calls Try.prog 11 #[.agg (cellsU entN).toArray, .string s] w fun e w' => e = .returned (.int .u32 (moreT entN 0 s.data.toList)) ∧ Below w.heap.size w w' := fun w => crcSum entN s w isT_entN w0
  have hM4 : ∀ w, Calls Try.prog 14 #[.agg (cellsU entN).toArray, .int .u32 0, .string s] w fun e w' => e = .returned (.int .u32 (moreT entN 0 s.data.toList)) ∧ Below w.heap.size w w' := fun w => crcMore entN s 0 w isT_entN (by decide) w0
  have hlen := entN_len
  have hone := entN_one
  have hi1 : (Try.prog.info? 23).map (·.size) = some (cellsU entN).length := by rw [hlen]; exact info23
  have hi2 : (Try.prog.info? 23).map (·.size) = some (cellsU entN).toArray.size := by rw [List.size_toArray]; exact hi1
  have hc1 := entN_cells 1 (by decide)
  rw [aw4] at hc1
  generalize cellsU entN = L at *
  generalize moreT entN 0 (s.extract 0 i).data.toList = R1 at *
  generalize moreT entN 0 s.data.toList = R at *
  have hR13 : R1 ≤ 4294967295 := by omega
  have hR3 : R ≤ 4294967295 := by omega
  obtain ⟨zs, hzn, hz⟩ := zeroT
  have HV := Lib.hid (fun w => var_new w zs 23 L hzn hlen)
  have HT := Lib.hid hT
  have HS1 := Lib.hid hS1
  have HM2 := Lib.hid hM2
  have HS3 := Lib.hid hS3
  have HM4 := Lib.hid hM4
  have HI1 := Lib.hid hi1
  have HI2 := Lib.hid hi2
  have HALL := Lib.hid hone
  have HC1 := Lib.hid hc1
  have hii : (i : Int) ≤ (s.size : Int) := by omega
  have hii2 : i ≤ s.size := by omega
  clear hT hq hm1 hm2 hS1 hM2 hS3 hM4 hlen hone hi1 hi2 hzn hc1 hn hl hs b1 b2
  unfold maxLen at w0
  go_enter Try.func6, Try.ntmps6
  go_wp2_with fail
  refine (awake_any w).mono ?_
  rintro e wA ⟨rfl, kA⟩
  go_wp2_with fail
  refine (HT.out wA).mono ?_
  rintro e w1 ⟨rfl, k1⟩
  have k1 := then_ kA k1
  obtain ⟨v1, v2, v3⟩ := HV.out w1
  have V1 := Lib.hid v1
  have k1 := then_ k1 v3
  have hcl := v2 1 _ HC1.out
  have hdr : ((w1.alloc (.cells zs 23)).setCells w1.heap.size 0 L).drew.rangeAt w1.heap.size 0 L := v2
  clear v1 v3 HV kA
  go_wp2_with (first | refine wpList_store_mid rfl 23 _ _ rfl w1.heap.size 0 L.toArray rfl rfl V1.out HI2.out HALL.out ?_)
  generalize w1.heap.size = g at *
  generalize (w1.alloc (.cells zs 23)).setCells g 0 L = wa at *
  have hB := k1.size
  clear V1 v2 hz HI2 HALL
  try simp only [Act.put, List.setIfInBounds_toArray, List.set_cons_zero, List.set_cons_succ]
  refine wp_region_held_drew (S := fun w' => w'.rangeAt g 0 L ∧ w'.cell? ⟨g, 0 + 1, none⟩ = some (.int .u32 1996959894) ∧ Below w.heap.size w w' ∧ w.heap.size ≤ w'.heap.size) (by kernel_rfl) ⟨hdr, hcl, k1.trans ⟨rfl, rfl, rfl, Nat.le_refl _, fun _ _ => rfl⟩, hB⟩ (fun hHeld => ?_)
  refine wpAnyH_take (i := 0) rfl (by kernel_rfl) (by kernel_rfl) (by kernel_rfl) (fun _ _ _ h => h) (yieldsIf_load_mid (by rfl) _ _ rfl g 0 rfl L _ (fun w h => h.1) under23 rfl HI1.out) (by assumption) ?_
  try simp only [Act.put, List.setIfInBounds_toArray, List.set_cons_zero, List.set_cons_succ]
  refine wpAnyH_take (i := 1) rfl (by kernel_rfl) (by kernel_rfl) (by kernel_rfl) (fun _ _ _ h => h) (yieldsIf_load_mid (by rfl) _ _ rfl g 0 rfl L _ (fun w h => h.1) under23 rfl HI1.out) (by assumption) ?_
  try simp only [Act.put, List.setIfInBounds_toArray, List.set_cons_zero, List.set_cons_succ]
  refine wpAnyH_take (i := 10) rfl (by kernel_rfl) (by kernel_rfl) (by kernel_rfl) (fun _ _ _ h => h) (yieldsIf_load_mid (by rfl) _ _ rfl g 0 rfl L _ (fun w h => h.1) under23 rfl HI1.out) (by assumption) ?_
  try simp only [Act.put, List.setIfInBounds_toArray, List.set_cons_zero, List.set_cons_succ]
  refine wpAnyH_take (i := 2) (v := (.string s)) rfl (by kernel_rfl) (by kernel_rfl) (by kernel_rfl) (fun _ _ _ h => h) (Or.inl ⟨by rfl, fun w h => rfl⟩) (by assumption) ?_
  simp only [Act.put, List.getElem_toArray, List.getElem_cons_succ, List.getElem_cons_zero, List.setIfInBounds_toArray, List.set_cons_zero, List.set_cons_succ]
  refine wpAnyH_take (i := 3) (v := (.int .i64 i)) rfl (by kernel_rfl) (by kernel_rfl) (by kernel_rfl) (fun _ _ _ h => h) (Or.inl ⟨by rfl, fun w h => rfl⟩) (by assumption) ?_
  simp only [Act.put, List.getElem_toArray, List.getElem_cons_succ, List.getElem_cons_zero, List.setIfInBounds_toArray, List.set_cons_zero, List.set_cons_succ]
  refine wpAnyH_take (i := 6) (v := (.string s)) rfl (by kernel_rfl) (by kernel_rfl) (by kernel_rfl) (fun _ _ _ h => h) (Or.inl ⟨by rfl, fun w h => rfl⟩) (by assumption) ?_
  simp only [Act.put, List.getElem_toArray, List.getElem_cons_succ, List.getElem_cons_zero, List.setIfInBounds_toArray, List.set_cons_zero, List.set_cons_succ]
  refine wpAnyH_take (i := 7) (v := (.int .i64 i)) rfl (by kernel_rfl) (by kernel_rfl) (by kernel_rfl) (fun _ _ _ h => h) (Or.inl ⟨by rfl, fun w h => rfl⟩) (by assumption) ?_
  simp only [Act.put, List.getElem_toArray, List.getElem_cons_succ, List.getElem_cons_zero, List.setIfInBounds_toArray, List.set_cons_zero, List.set_cons_succ]
  refine wpAnyH_take (i := 11) (v := (.string s)) rfl (by kernel_rfl) (by kernel_rfl) (by kernel_rfl) (fun _ _ _ h => h) (Or.inl ⟨by rfl, fun w h => rfl⟩) (by assumption) ?_
  simp only [Act.put, List.getElem_toArray, List.getElem_cons_succ, List.getElem_cons_zero, List.setIfInBounds_toArray, List.set_cons_zero, List.set_cons_succ]
  refine wpAnyH_take (i := 4) (v := (.string (s.extract 0 i))) rfl (by kernel_rfl) (by kernel_rfl) (by kernel_rfl) (fun _ _ _ h => h) (Or.inl ⟨by rfl, fun w h => by (simp only [List.getElem_toArray, List.getElem_cons_succ, List.getElem_cons_zero]; have h1 := h.1; clear h; go_simp; all_goals (exact wraps_u32 _ (by omega) (by omega)))⟩) (by assumption) ?_
  simp only [Act.put, List.getElem_toArray, List.getElem_cons_succ, List.getElem_cons_zero, List.setIfInBounds_toArray, List.set_cons_zero, List.set_cons_succ]
  refine wpAnyH_take (i := 8) (v := (.string (s.extract i s.size))) rfl (by kernel_rfl) (by kernel_rfl) (by kernel_rfl) (fun _ _ _ h => h) (Or.inl ⟨by rfl, fun w h => by (simp only [List.getElem_toArray, List.getElem_cons_succ, List.getElem_cons_zero]; have h1 := h.1; clear h; go_simp; all_goals (exact wraps_u32 _ (by omega) (by omega)))⟩) (by assumption) ?_
  simp only [Act.put, List.getElem_toArray, List.getElem_cons_succ, List.getElem_cons_zero, List.setIfInBounds_toArray, List.set_cons_zero, List.set_cons_succ]
  refine wpAnyH_ready (rs := [5]) (by kernel_rfl) (by simp) ?_
  refine AllReadyH.cons rfl (fun K hK => ?_) AllReadyH.nil
  rw [if_pos (by rfl)]
  go_wp2_with fail
  refine (keep_call (HS1.out _) (by assumption)).mono ?_
  rintro e w' ⟨he, q⟩
  cases he
  dsimp only
  refine hK.out _ _ q (fun hHeld => ?_)
  clear hK K
  try simp only [Act.put, List.setIfInBounds_toArray, List.set_cons_zero, List.set_cons_succ]
  refine wpAnyH_ready (rs := [9]) (by kernel_rfl) (by simp) ?_
  refine AllReadyH.cons rfl (fun K hK => ?_) AllReadyH.nil
  rw [if_pos (by rfl)]
  go_wp2_with fail
  refine (keep_call (HM2.out _) (by assumption)).mono ?_
  rintro e w' ⟨he, q⟩
  cases he
  dsimp only
  refine hK.out _ _ q (fun hHeld => ?_)
  clear hK K
  try simp only [Act.put, List.setIfInBounds_toArray, List.set_cons_zero, List.set_cons_succ]
  refine wpAnyH_ready (rs := [12]) (by kernel_rfl) (by simp) ?_
  refine AllReadyH.cons rfl (fun K hK => ?_) AllReadyH.nil
  rw [if_pos (by rfl)]
  go_wp2_with fail
  refine (keep_call (HS3.out _) (by assumption)).mono ?_
  rintro e w' ⟨he, q⟩
  cases he
  dsimp only
  refine hK.out _ _ q (fun hHeld => ?_)
  clear hK K
  try simp only [Act.put, List.setIfInBounds_toArray, List.set_cons_zero, List.set_cons_succ]
  refine wpAnyH_ready (rs := [13]) (by kernel_rfl) (by simp) ?_
  refine AllReadyH.cons rfl (fun K hK => ?_) AllReadyH.nil
  rw [if_pos (by rfl)]
  go_wp2_with fail
  refine hK.out _ _ (by assumption) (fun hHeld => ?_)
  clear hK K
  try simp only [Act.put, List.setIfInBounds_toArray, List.set_cons_zero, List.set_cons_succ]
  refine wpAnyH_ready (rs := [14]) (by kernel_rfl) (by simp) ?_
  refine AllReadyH.cons rfl (fun K hK => ?_) AllReadyH.nil
  rw [if_pos (by rfl)]
  go_wp2_with fail
  refine hK.out _ _ (by assumption) (fun hHeld => ?_)
  clear hK K
  try simp only [Act.put, List.setIfInBounds_toArray, List.set_cons_zero, List.set_cons_succ]
  refine wpAnyH_take (i := 15) rfl (by kernel_rfl) (by kernel_rfl) (by kernel_rfl) (fun _ _ _ h => h) (yieldsIf_load_mid (by rfl) _ _ rfl g 0 rfl L _ (fun w h => h.1) under23 rfl HI1.out) (by assumption) ?_
  try simp only [Act.put, List.setIfInBounds_toArray, List.set_cons_zero, List.set_cons_succ]
  refine wpAnyH_take (i := 18) rfl (by kernel_rfl) (by kernel_rfl) (by kernel_rfl) (fun _ _ _ h => h) (yieldsIf_load_mid (by rfl) _ _ rfl g 0 rfl L _ (fun w h => h.1) under23 rfl HI1.out) (by assumption) ?_
  try simp only [Act.put, List.setIfInBounds_toArray, List.set_cons_zero, List.set_cons_succ]
  refine wpAnyH_take (i := 16) (v := (.string s)) rfl (by kernel_rfl) (by kernel_rfl) (by kernel_rfl) (fun _ _ _ h => h) (Or.inl ⟨by rfl, fun w h => rfl⟩) (by assumption) ?_
  simp only [Act.put, List.getElem_toArray, List.getElem_cons_succ, List.getElem_cons_zero, List.setIfInBounds_toArray, List.set_cons_zero, List.set_cons_succ]
  refine wpAnyH_take (i := 19) (v := (.string s)) rfl (by kernel_rfl) (by kernel_rfl) (by kernel_rfl) (fun _ _ _ h => h) (Or.inl ⟨by rfl, fun w h => rfl⟩) (by assumption) ?_
  simp only [Act.put, List.getElem_toArray, List.getElem_cons_succ, List.getElem_cons_zero, List.setIfInBounds_toArray, List.set_cons_zero, List.set_cons_succ]
  refine wpAnyH_ready (rs := [17]) (by kernel_rfl) (by simp) ?_
  refine AllReadyH.cons rfl (fun K hK => ?_) AllReadyH.nil
  rw [if_pos (by rfl)]
  go_wp2_with fail
  refine (keep_call (HM4.out _) (by assumption)).mono ?_
  rintro e w' ⟨he, q⟩
  cases he
  dsimp only
  refine hK.out _ _ q (fun hHeld => ?_)
  clear hK K
  try simp only [Act.put, List.setIfInBounds_toArray, List.set_cons_zero, List.set_cons_succ]
  refine wpAnyH_ready (rs := [20]) (by kernel_rfl) (by simp) ?_
  refine AllReadyH.cons rfl (fun K hK => ?_) AllReadyH.nil
  rw [if_pos (by rfl)]
  go_wp2_with fail
  refine (keep_call (HS3.out _) (by assumption)).mono ?_
  rintro e w' ⟨he, q⟩
  cases he
  dsimp only
  refine hK.out _ _ q (fun hHeld => ?_)
  clear hK K
  try simp only [Act.put, List.setIfInBounds_toArray, List.set_cons_zero, List.set_cons_succ]
  refine wpAnyH_ready (rs := [21]) (by kernel_rfl) (by simp) ?_
  refine AllReadyH.cons rfl (fun K hK => ?_) AllReadyH.nil
  rw [if_pos (by rfl)]
  go_wp2_with fail
  refine hK.out _ _ (by assumption) (fun hHeld => ?_)
  clear hK K
  try simp only [Act.put, List.setIfInBounds_toArray, List.set_cons_zero, List.set_cons_succ]
  refine wpAnyH_ready (rs := [22]) (by kernel_rfl) (by simp) ?_
  refine AllReadyH.cons rfl (fun K hK => ?_) AllReadyH.nil
  rw [if_pos (by rfl)]
  go_wp2_with fail
  refine hK.out _ _ (by assumption) (fun hHeld => ?_)
  clear hK K
  try simp only [Act.put, List.setIfInBounds_toArray, List.set_cons_zero, List.set_cons_succ]
  refine wpAnyH_ready (rs := [23]) (by kernel_rfl) (by simp) ?_
  refine AllReadyH.cons rfl (fun K hK => ?_) AllReadyH.nil
  rw [if_pos (by rfl)]
  go_wp2_with fail
  refine hK.out _ _ (by assumption) (fun hHeld => ?_)
  clear hK K
  try simp only [Act.put, List.setIfInBounds_toArray, List.set_cons_zero, List.set_cons_succ]
  refine wpAnyH_done (by kernel_rfl) ?_ _
  go_wp2
  go_ret
  exact ⟨rfl, And.left (And.right (And.right (by assumption)))⟩
end Go.Proofs.Ytbmclhnidemooaa
