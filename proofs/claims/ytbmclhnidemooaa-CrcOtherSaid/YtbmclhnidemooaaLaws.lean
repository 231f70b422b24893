import Derived.Test.YtbmclhnidemooaaXor
namespace Go.Proofs.Ytbmclhnidemooaa
open Go.RowKit
set_option linter.unusedVariables false
theorem entN_cells (i : Nat) (hi : i < 256) : (cellsU entN)[i]? = some (.int .u32 (entry i : Nat)) := by simp [cellsU, entN_get i hi]
theorem entN_len : (cellsU entN).length = 256 := by simp [cellsU, entN]
theorem entN_one : (cellsU entN).toArray.all (·.oneCell') = true := all_oneCell_toArray (fun v hv => by obtain ⟨i, _, rfl⟩ := List.mem_map.1 hv; rfl)
theorem zeroT : ∃ zs : Array Value, zs.size = 256 ∧ ∀ w : World, (zeroValue 23).run Try.prog w = .ok (.agg zs) w := ⟨_, Array.size_replicate, zero23⟩
theorem keep_cell {P : Program} {n : Nat} {args : Array Value} {w w0 : World} {B : Nat} {p : Addr} {u v : Value} (hc : Calls P n args w fun e w' => e = .returned v ∧ Below w.heap.size w w')
    (h : w.cell? p = some u ∧ Below B w0 w ∧ B ≤ w.heap.size) :
    Calls P n args w fun e w' => e = .returned v ∧ (w'.cell? p = some u ∧ Below B w0 w' ∧ B ≤ w'.heap.size) :=
  hc.mono fun e w' q => ⟨q.1, (q.2.cell (World.block_lt_of_cell? w _ h.1)).trans h.1, h.2.1.trans (q.2.mono h.2.2), Nat.le_trans h.2.2 q.2.size⟩
set_option maxHeartbeats 1000000 in
set_option maxRecDepth 100000 in
theorem table_walk (a0 : Int) (w : World) (w0 : (Lit.int .u8 a0).wf = true) :
    Calls Try.prog 3 #[.int .u8 a0] w fun e w' => e = .returned (.bool true) ∧ Below w.heap.size w w' := by
  have hb0 := Go.bounds_u8 w0
  obtain ⟨n, rfl⟩ : ∃ n : Nat, a0 = n := ⟨a0.toNat, by omega⟩
  have hn : n < 256 := by omega
  have hT := crcTable2
  have hE := fun w => refEntry n w (by omega)
  have hel := halves_lt 8 n (by omega)
  have hcell := entN_cells n hn
  have hlen := entN_len
  have hone := entN_one
  have hi1 : (Try.prog.info? 23).map (·.size) = some (cellsU entN).length := by rw [hlen]; exact info23
  have hi2 : (Try.prog.info? 23).map (·.size) = some (cellsU entN).toArray.size := by rw [List.size_toArray]; exact hi1
  generalize cellsU entN = L at *
  obtain ⟨zs, hzn, hz⟩ := zeroT
  have HV := Lib.hid (fun w => var_new w zs 23 L hzn hlen)
  obtain ⟨E, hEE⟩ : ∃ E, E = entry n := ⟨_, rfl⟩
  have hE3 : E ≤ 4294967295 := by rw [hEE]; unfold entry; omega
  rw [← hEE] at hE hcell
  have HT := Lib.hid hT
  have HE := Lib.hid hE
  have HC := Lib.hid hcell
  have HI2 := Lib.hid hi2
  have HALL := Lib.hid hone
  have hni : (n : Int) < 256 := by omega
  clear hT hE hel hcell hlen hone hi1 hi2 hzn hEE w0 hb0
  go_enter Try.func3, Try.ntmps3
  go_wp2_with fail
  refine (HT.out w).mono ?_
  rintro e w1 ⟨rfl, k1⟩
  obtain ⟨v1, v2, v3⟩ := HV.out w1
  have V1 := Lib.hid v1
  have k1 := then_ k1 v3
  have hcl := v2 n _ HC.out
  rw [Nat.zero_add] at hcl
  clear v1 v2 v3 HV
  go_wp2_with (first | refine wpList_store_mid rfl 23 _ _ rfl w1.heap.size 0 L.toArray rfl rfl V1.out HI2.out HALL.out ?_)
  generalize w1.heap.size = g at *
  generalize (w1.alloc (.cells zs 23)).setCells g 0 L = wa at *
  clear V1
  have hB := k1.size
  have hdr : wa.drew.cell? ⟨g, n, none⟩ = some (.int .u32 (E : Int)) ∧ Below w.heap.size w wa.drew ∧ w.heap.size ≤ wa.drew.heap.size := ⟨hcl, k1.trans ⟨rfl, rfl, rfl, Nat.le_refl _, fun _ _ => rfl⟩, hB⟩
  clear hz HC HI2 HALL HT hcl k1
  try simp only [Act.put, List.setIfInBounds_toArray, List.set_cons_zero, List.set_cons_succ]
  refine wp_region_held_drew (S := fun w' => w'.cell? ⟨g, n, none⟩ = some (.int .u32 (E : Int)) ∧ Below w.heap.size w w' ∧ w.heap.size ≤ w'.heap.size) (by kernel_rfl) hdr (fun hHeld => ?_)
  refine wpAnyH_ready (rs := [0]) (by kernel_rfl) (by simp) ?_
  refine AllReadyH.cons rfl (fun K hK => ?_) AllReadyH.nil
  rw [if_pos (by rfl)]
  go_wp2_with fail
  refine (keep_cell (awake_any _) (by assumption)).mono ?_
  rintro e w' ⟨he, q⟩
  cases he
  dsimp only
  refine hK.out _ _ q (fun hHeld => ?_)
  clear hK K
  try simp only [Act.put, List.setIfInBounds_toArray, List.set_cons_zero, List.set_cons_succ]
  refine wpAnyH_ready (rs := [1]) (by kernel_rfl) (by simp) ?_
  refine AllReadyH.cons rfl (fun K hK => ?_) AllReadyH.nil
  rw [if_pos (by rfl)]
  go_wp2_with fail
  refine hK.out _ _ (by assumption) (fun hHeld => ?_)
  clear hK K
  try simp only [Act.put, List.setIfInBounds_toArray, List.set_cons_zero, List.set_cons_succ]
  refine wpAnyH_take (i := 2) (v := (.int .u8 n)) rfl (by kernel_rfl) (by kernel_rfl) (by kernel_rfl) (fun _ _ _ h => h) (Or.inl ⟨by rfl, fun w h => rfl⟩) (by assumption) ?_
  simp only [Act.put, List.getElem_toArray, List.getElem_cons_succ, List.getElem_cons_zero, List.setIfInBounds_toArray, List.set_cons_zero, List.set_cons_succ]
  refine wpAnyH_take (i := 5) (v := (.int .u8 n)) rfl (by kernel_rfl) (by kernel_rfl) (by kernel_rfl) (fun _ _ _ h => h) (Or.inl ⟨by rfl, fun w h => rfl⟩) (by assumption) ?_
  simp only [Act.put, List.getElem_toArray, List.getElem_cons_succ, List.getElem_cons_zero, List.setIfInBounds_toArray, List.set_cons_zero, List.set_cons_succ]
  refine wpAnyH_take (i := 3) (v := (.pointer (some ⟨g, n, none⟩))) rfl (by kernel_rfl) (by kernel_rfl) (by kernel_rfl) (fun _ _ _ h => h) (Or.inl ⟨by rfl, fun w h => by (simp only [List.getElem_toArray, List.getElem_cons_succ, List.getElem_cons_zero]; have h1 := h.1; clear h; go_simp; all_goals (exact wraps_u32 _ (by omega) (by omega)))⟩) (by assumption) ?_
  simp only [Act.put, List.getElem_toArray, List.getElem_cons_succ, List.getElem_cons_zero, List.setIfInBounds_toArray, List.set_cons_zero, List.set_cons_succ]
  refine wpAnyH_take (i := 6) (v := (.int .u32 n)) rfl (by kernel_rfl) (by kernel_rfl) (by kernel_rfl) (fun _ _ _ h => h) (Or.inl ⟨by rfl, fun w h => by (simp only [List.getElem_toArray, List.getElem_cons_succ, List.getElem_cons_zero]; have h1 := h.1; clear h; go_simp; all_goals (exact wraps_u32 _ (by omega) (by omega)))⟩) (by assumption) ?_
  simp only [Act.put, List.getElem_toArray, List.getElem_cons_succ, List.getElem_cons_zero, List.setIfInBounds_toArray, List.set_cons_zero, List.set_cons_succ]
  refine wpAnyH_take (i := 4) (v := (.int .u32 E)) rfl (by kernel_rfl) (by kernel_rfl) (by kernel_rfl) (fun _ _ _ h => h) (Or.inl ⟨by rfl, fun w h => by (simp only [List.getElem_toArray, List.getElem_cons_succ, List.getElem_cons_zero]; have h1 := h.1; clear h; go_simp; all_goals (exact wraps_u32 _ (by omega) (by omega)))⟩) (by assumption) ?_
  simp only [Act.put, List.getElem_toArray, List.getElem_cons_succ, List.getElem_cons_zero, List.setIfInBounds_toArray, List.set_cons_zero, List.set_cons_succ]
  refine wpAnyH_ready (rs := [7]) (by kernel_rfl) (by simp) ?_
  refine AllReadyH.cons rfl (fun K hK => ?_) AllReadyH.nil
  rw [if_pos (by rfl)]
  go_wp2_with fail
  refine (HE.out _).mono ?_
  rintro e w' ⟨he, hw⟩
  cases he
  cases hw
  dsimp only
  refine hK.out _ _ (by assumption) (fun hHeld => ?_)
  clear hK K
  try simp only [Act.put, List.setIfInBounds_toArray, List.set_cons_zero, List.set_cons_succ]
  refine wpAnyH_ready (rs := [8]) (by kernel_rfl) (by simp) ?_
  refine AllReadyH.cons rfl (fun K hK => ?_) AllReadyH.nil
  rw [if_pos (by rfl)]
  go_wp2_with fail
  refine hK.out _ _ (by assumption) (fun hHeld => ?_)
  clear hK K
  try simp only [Act.put, List.setIfInBounds_toArray, List.set_cons_zero, List.set_cons_succ]
  refine wpAnyH_ready (rs := [9]) (by kernel_rfl) (by simp) ?_
  refine AllReadyH.cons rfl (fun K hK => ?_) AllReadyH.nil
  rw [if_pos (by rfl)]
  go_wp2_with fail
  refine hK.out _ _ (by assumption) (fun hHeld => ?_)
  clear hK K
  try simp only [Act.put, List.setIfInBounds_toArray, List.set_cons_zero, List.set_cons_succ]
  refine wpAnyH_ready (rs := [10]) (by kernel_rfl) (by simp) ?_
  refine AllReadyH.cons rfl (fun K hK => ?_) AllReadyH.nil
  rw [if_pos (by rfl)]
  go_wp2_with fail
  refine hK.out _ _ (by assumption) (fun hHeld => ?_)
  clear hK K
  try simp only [Act.put, List.setIfInBounds_toArray, List.set_cons_zero, List.set_cons_succ]
  refine wpAnyH_done (by kernel_rfl) ?_ _
  go_wp2
  go_ret
  exact ⟨rfl, And.left (And.right (by assumption))⟩
end Go.Proofs.Ytbmclhnidemooaa
