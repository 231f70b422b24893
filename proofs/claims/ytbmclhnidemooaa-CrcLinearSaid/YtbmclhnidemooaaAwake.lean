import Derived.Test.YtbmclhnidemooaaMore
import Derived.Deep.RegionHeld3
namespace Go.Proofs.Ytbmclhnidemooaa
open Go.RowKit
set_option linter.unusedVariables false
def entN : List Nat := (List.range 256).map entry
theorem tab_cells : tab = cellsU entN := by simp [tab, entries, cellsU, entN]
theorem isT_entN : IsT entN := ⟨by simp [entN], fun n hn => by
  obtain ⟨i, hi, rfl⟩ := List.mem_map.1 hn
  exact halves_lt 8 i (by have := List.mem_range.1 hi; omega)⟩
theorem entN_get (i : Nat) (hi : i < 256) : entN[i]? = some (entry i) := by simp [entN, hi]
theorem crcTable2 (w : World) : Calls Try.prog 8 #[] w fun e w' => e = .returned (.agg (cellsU entN).toArray) ∧ Below w.heap.size w w' := by
  rw [← tab_cells]; exact crcTable w
theorem aw1 : moreT entN 0 [49, 50, 51, 52, 53, 54, 55, 56, 57] = 3421780262 := by decide +kernel
theorem aw2 : moreT entN 0 [] = 0 := by decide +kernel
theorem aw3 : moreT entN (moreT entN 0 [49, 50, 51, 52]) [53, 54, 55, 56, 57] = 3421780262 := by decide +kernel
theorem aw4 : entry 1 = 1996959894 := by decide +kernel
theorem range_later {w w' : World} {g : Nat} {L : List Value} (h : w.rangeAt g 0 L) (hb : Below w.heap.size w w') : w'.rangeAt g 0 L := fun j v hv => by
  have h1 := h j v hv
  exact (hb.cell (p := ⟨g, 0 + j, none⟩) (World.block_lt_of_cell? w _ h1)).trans h1
/-- What all calls leave: the table, and what was there before. -/
theorem keep_call {P : Program} {n : Nat} {args : Array Value} {w w0 : World} {g B : Nat} {L : List Value} {p : Addr} {u v : Value} (hc : Calls P n args w fun e w' => e = .returned v ∧ Below w.heap.size w w')
    (h : w.rangeAt g 0 L ∧ w.cell? p = some u ∧ Below B w0 w ∧ B ≤ w.heap.size) :
    Calls P n args w fun e w' => e = .returned v ∧ (w'.rangeAt g 0 L ∧ w'.cell? p = some u ∧ Below B w0 w' ∧ B ≤ w'.heap.size) :=
  hc.mono fun e w' q => ⟨q.1, range_later h.1 q.2, (q.2.cell (World.block_lt_of_cell? w _ h.2.1)).trans h.2.1, h.2.2.1.trans (q.2.mono h.2.2.2), Nat.le_trans h.2.2.2 q.2.size⟩
/-- A new variable of the table's type, and the table in it. -/
theorem var_new (w : World) (zs : Array Value) (t : TypeId) (L : List Value) (hz : zs.size = 256) (hl : L.length = 256) :
    (w.alloc (.cells zs t)).there w.heap.size 0 L.toArray.size ∧ ((w.alloc (.cells zs t)).setCells w.heap.size 0 L).rangeAt w.heap.size 0 L ∧ Below w.heap.size w ((w.alloc (.cells zs t)).setCells w.heap.size 0 L) := by
  have hth : ∀ n, n = 256 → (w.alloc (.cells zs t)).there w.heap.size 0 n := fun n hn j hj => by
    subst hn
    rw [Nat.zero_add, (Lies.made w t zs).cell j, (Lies.made w t zs).free j]
    exact ⟨by simp; omega, rfl⟩
  exact ⟨hth _ (by simpa using hl), World.rangeAt_setCells_same _ _ _ _ (hth _ hl), below_cells (Nat.le_refl _) _ _ _ ((Below.refl _ _).alloc (Nat.le_refl _) _)⟩
set_option maxRecDepth 100000 in
theorem awake_any (w : World) : Calls Try.prog 9 #[] w fun e w' => e = .returned (.bool true) ∧ Below w.heap.size w w' := by
  have hS := fun s w => crcSum entN s w isT_entN
  have hM := fun s m w => crcMore entN s m w isT_entN
  have hT := crcTable2
  have hg := entN_get
  obtain ⟨L, hL⟩ : ∃ L, L = cellsU entN := ⟨_, rfl⟩
  have hl : L.length = 256 := by rw [hL]; simp [cellsU, entN]
  have hc : ∀ i < 256, L[i]? = some (.int .u32 (entry i : Nat)) := fun i hi => by rw [hL]; simp [cellsU, entN_get i hi]
  rw [← hL] at hS hM hT
  have hi1 : (Try.prog.info? 23).map (·.size) = some L.length := by rw [hl]; exact info23
  have hone := hc 1 (by decide)
  rw [aw4] at hone
  have hS1 : ∀ w, Calls Try.prog 11 #[.agg L.toArray, .string ⟨#[49, 50, 51, 52, 53, 54, 55, 56, 57]⟩] w fun e w' => e = .returned (.int .u32 3421780262) ∧ Below w.heap.size w w' := fun w => by
    have := hS ⟨#[49, 50, 51, 52, 53, 54, 55, 56, 57]⟩ w (by unfold maxLen; decide)
    rw [show (⟨#[49, 50, 51, 52, 53, 54, 55, 56, 57]⟩ : ByteArray).data.toList = [49, 50, 51, 52, 53, 54, 55, 56, 57] from rfl, aw1] at this
    exact this
  have hS2 : ∀ w, Calls Try.prog 11 #[.agg L.toArray, .string ⟨#[]⟩] w fun e w' => e = .returned (.int .u32 0) ∧ Below w.heap.size w w' := fun w => by
    have := hS ⟨#[]⟩ w (by unfold maxLen; decide)
    rw [show (⟨#[]⟩ : ByteArray).data.toList = [] from rfl, aw2] at this
    exact this
  obtain ⟨m3, hm3⟩ : ∃ m3, m3 = moreT entN 0 [49, 50, 51, 52] := ⟨_, rfl⟩
  have hm3l : m3 < 4294967296 := by rw [hm3]; decide +kernel
  have hS3 : ∀ w, Calls Try.prog 11 #[.agg L.toArray, .string ⟨#[49, 50, 51, 52]⟩] w fun e w' => e = .returned (.int .u32 m3) ∧ Below w.heap.size w w' := fun w => by
    have := hS ⟨#[49, 50, 51, 52]⟩ w (by unfold maxLen; decide)
    rw [show (⟨#[49, 50, 51, 52]⟩ : ByteArray).data.toList = [49, 50, 51, 52] from rfl, ← hm3] at this
    exact this
  have hM4 : ∀ w, Calls Try.prog 14 #[.agg L.toArray, .int .u32 m3, .string ⟨#[53, 54, 55, 56, 57]⟩] w fun e w' => e = .returned (.int .u32 3421780262) ∧ Below w.heap.size w w' := fun w => by
    have := hM ⟨#[53, 54, 55, 56, 57]⟩ m3 w hm3l (by unfold maxLen; decide)
    rw [show (⟨#[53, 54, 55, 56, 57]⟩ : ByteArray).data.toList = [53, 54, 55, 56, 57] from rfl, hm3, aw3] at this
    rw [hm3]
    exact this
  have hall : L.toArray.all (·.oneCell') = true := by
    rw [hL]
    exact all_oneCell_toArray (fun v hv => by obtain ⟨i, _, rfl⟩ := List.mem_map.1 hv; rfl)
  have hi2 : (Try.prog.info? 23).map (·.size) = some L.toArray.size := by rw [List.size_toArray]; exact hi1
  obtain ⟨zs, hzs⟩ : ∃ zs : Array Value, zs = Array.replicate 256 (.int .u32 0) := ⟨_, rfl⟩
  have hz := zero23
  rw [← hzs] at hz
  have hzn : zs.size = 256 := by rw [hzs, Array.size_replicate]
  have HALL := Lib.hid hall
  have HI2 := Lib.hid hi2
  have HV := Lib.hid (fun w => var_new w zs 23 L hzn hl)
  clear hall hi2 hzs hzn
  have HS1 := Lib.hid hS1
  have HS2 := Lib.hid hS2
  have HS3 := Lib.hid hS3
  have HM4 := Lib.hid hM4
  have HT := Lib.hid hT
  have HI1 := Lib.hid hi1
  have HONE := Lib.hid hone
  clear hS hM hT hL hl hc hg hm3 hi1 hone hS1 hS2 hS3 hM4
  go_enter Try.func9, Try.ntmps9
  go_wp2_with fail
  refine (HT.out w).mono ?_
  rintro e w1 ⟨rfl, k1⟩
  have hg1 := k1.size
  obtain ⟨v1, v2, v3⟩ := HV.out w1
  have V1 := Lib.hid v1
  have V2 := Lib.hid v2
  have k1 := then_ k1 v3
  have hgl : w1.heap.size < ((w1.alloc (.cells zs 23)).setCells w1.heap.size 0 L).heap.size := World.block_lt_of_cell? _ ⟨w1.heap.size, 0 + 1, none⟩ (v2 1 _ HONE.out)
  clear v1 v2 v3 HV
  go_wp2_with (first | refine wpList_store_mid rfl 23 _ _ rfl w1.heap.size 0 L.toArray rfl rfl V1.out HI2.out HALL.out ?_ | refine wpList_load_mid rfl 23 _ rfl w1.heap.size 0 rfl L _ V2.out under23 rfl HI1.out ?_)
  generalize w1.heap.size = g at *
  generalize (w1.alloc (.cells zs 23)).setCells g 0 L = wa at *
  have hr : wa.rangeAt g 0 L := V2.out
  have hc1 : wa.cell? ⟨g, 1, none⟩ = some (.int .u32 1996959894) := hr 1 _ HONE.out
  have hB := k1.size
  have hdr : wa.drew.rangeAt g 0 L ∧ wa.drew.cell? ⟨g, 1, none⟩ = some (.int .u32 1996959894) ∧ Below w.heap.size w wa.drew ∧ w.heap.size ≤ wa.drew.heap.size := ⟨hr, hc1, k1.trans ⟨rfl, rfl, rfl, Nat.le_refl _, fun _ _ => rfl⟩, hB⟩
  have hLD : ∀ w' : World, w'.rangeAt g 0 L → (Instr.loadAt 23 (.pointer (some ⟨g, 0, none⟩))).run Try.prog w' = .ok (.agg L.toArray) w' := fun w' h => run_loadAt_mid w' g 0 _ L _ h under23 rfl HI1.out
  obtain ⟨d1, d2, d3, d4⟩ := hdr
  have hl0 := hLD _ d1
  have hl00 := hLD _ hr
  have hm5 : m3 ≤ 4294967295 := by omega
  have HLD := Lib.hid hLD
  clear V1 V2 hz HALL HI2 HONE HT hLD hr hc1 k1 hg1 hgl
  refine wp_region_held_drew (S := fun w' => w'.rangeAt g 0 L ∧ w'.cell? ⟨g, 1, none⟩ = some (.int .u32 1996959894) ∧ Below w.heap.size w w' ∧ w.heap.size ≤ w'.heap.size) (by kernel_rfl) ⟨d1, d2, d3, d4⟩ (fun hHeld => ?_)
  refine wpAnyH_take (i := 0) rfl (by kernel_rfl) (by kernel_rfl) (by kernel_rfl) (fun _ _ _ h => h) (yieldsIf_load_mid (by rfl) _ _ rfl g 0 rfl L _ (fun w h => h.1) under23 rfl HI1.out) (by assumption) ?_
  try simp only [Act.put, List.setIfInBounds_toArray, List.set_cons_zero, List.set_cons_succ]
  refine wpAnyH_ready (rs := [1]) (by kernel_rfl) (by simp) ?_
  refine AllReadyH.cons rfl (fun K hK => ?_) AllReadyH.nil
  rw [if_pos (by rfl)]
  go_wp2_with fail
  refine (keep_call (HS1.out _) (by assumption)).mono ?_
  rintro e w' ⟨he, q⟩
  cases he
  dsimp only
  refine hK.out _ _ q (fun hHeld => ?_)
  clear hK K
  try simp only [Act.put, List.setIfInBounds_toArray, List.set_cons_zero, List.set_cons_succ]
  refine wpAnyH_ready (rs := [2]) (by kernel_rfl) (by simp) ?_
  refine AllReadyH.cons rfl (fun K hK => ?_) AllReadyH.nil
  rw [if_pos (by rfl)]
  go_wp2_with fail
  refine hK.out _ _ (by assumption) (fun hHeld => ?_)
  clear hK K
  try simp only [Act.put, List.setIfInBounds_toArray, List.set_cons_zero, List.set_cons_succ]
  refine wpAnyH_ready (rs := [3]) (by kernel_rfl) (by simp) ?_
  refine AllReadyH.cons rfl (fun K hK => ?_) AllReadyH.nil
  rw [if_pos (by rfl)]
  go_wp2_with fail
  refine hK.out _ _ (by assumption) (fun hHeld => ?_)
  clear hK K
  try simp only [Act.put, List.setIfInBounds_toArray, List.set_cons_zero, List.set_cons_succ]
  refine wpAnyH_take (i := 4) rfl (by kernel_rfl) (by kernel_rfl) (by kernel_rfl) (fun _ _ _ h => h) (yieldsIf_load_mid (by rfl) _ _ rfl g 0 rfl L _ (fun w h => h.1) under23 rfl HI1.out) (by assumption) ?_
  try simp only [Act.put, List.setIfInBounds_toArray, List.set_cons_zero, List.set_cons_succ]
  refine wpAnyH_ready (rs := [5]) (by kernel_rfl) (by simp) ?_
  refine AllReadyH.cons rfl (fun K hK => ?_) AllReadyH.nil
  rw [if_pos (by rfl)]
  go_wp2_with fail
  refine (keep_call (HS2.out _) (by assumption)).mono ?_
  rintro e w' ⟨he, q⟩
  cases he
  dsimp only
  refine hK.out _ _ q (fun hHeld => ?_)
  clear hK K
  try simp only [Act.put, List.setIfInBounds_toArray, List.set_cons_zero, List.set_cons_succ]
  refine wpAnyH_ready (rs := [6]) (by kernel_rfl) (by simp) ?_
  refine AllReadyH.cons rfl (fun K hK => ?_) AllReadyH.nil
  rw [if_pos (by rfl)]
  go_wp2_with fail
  refine hK.out _ _ (by assumption) (fun hHeld => ?_)
  clear hK K
  try simp only [Act.put, List.setIfInBounds_toArray, List.set_cons_zero, List.set_cons_succ]
  refine wpAnyH_ready (rs := [7]) (by kernel_rfl) (by simp) ?_
  refine AllReadyH.cons rfl (fun K hK => ?_) AllReadyH.nil
  rw [if_pos (by rfl)]
  go_wp2_with fail
  refine hK.out _ _ (by assumption) (fun hHeld => ?_)
  clear hK K
  try simp only [Act.put, List.setIfInBounds_toArray, List.set_cons_zero, List.set_cons_succ]
  refine wpAnyH_ready (rs := [8]) (by kernel_rfl) (by simp) ?_
  refine AllReadyH.cons rfl (fun K hK => ?_) AllReadyH.nil
  rw [if_pos (by rfl)]
  go_wp2_with fail
  refine hK.out _ _ (by assumption) (fun hHeld => ?_)
  clear hK K
  try simp only [Act.put, List.setIfInBounds_toArray, List.set_cons_zero, List.set_cons_succ]
  refine wpAnyH_take (i := 9) rfl (by kernel_rfl) (by kernel_rfl) (by kernel_rfl) (fun _ _ _ h => h) (yieldsIf_load_mid (by rfl) _ _ rfl g 0 rfl L _ (fun w h => h.1) under23 rfl HI1.out) (by assumption) ?_
  try simp only [Act.put, List.setIfInBounds_toArray, List.set_cons_zero, List.set_cons_succ]
  refine wpAnyH_take (i := 10) rfl (by kernel_rfl) (by kernel_rfl) (by kernel_rfl) (fun _ _ _ h => h) (yieldsIf_load_mid (by rfl) _ _ rfl g 0 rfl L _ (fun w h => h.1) under23 rfl HI1.out) (by assumption) ?_
  try simp only [Act.put, List.setIfInBounds_toArray, List.set_cons_zero, List.set_cons_succ]
  refine wpAnyH_ready (rs := [11]) (by kernel_rfl) (by simp) ?_
  refine AllReadyH.cons rfl (fun K hK => ?_) AllReadyH.nil
  rw [if_pos (by rfl)]
  go_wp2_with fail
  refine (keep_call (HS3.out _) (by assumption)).mono ?_
  rintro e w' ⟨he, q⟩
  cases he
  dsimp only
  refine hK.out _ _ q (fun hHeld => ?_)
  clear hK K
  try simp only [Act.put, List.setIfInBounds_toArray, List.set_cons_zero, List.set_cons_succ]
  refine wpAnyH_ready (rs := [12]) (by kernel_rfl) (by simp) ?_
  refine AllReadyH.cons rfl (fun K hK => ?_) AllReadyH.nil
  rw [if_pos (by rfl)]
  go_wp2_with fail
  refine (keep_call (HM4.out _) (by assumption)).mono ?_
  rintro e w' ⟨he, q⟩
  cases he
  dsimp only
  refine hK.out _ _ q (fun hHeld => ?_)
  clear hK K
  try simp only [Act.put, List.setIfInBounds_toArray, List.set_cons_zero, List.set_cons_succ]
  refine wpAnyH_ready (rs := [13]) (by kernel_rfl) (by simp) ?_
  refine AllReadyH.cons rfl (fun K hK => ?_) AllReadyH.nil
  rw [if_pos (by rfl)]
  go_wp2_with fail
  refine hK.out _ _ (by assumption) (fun hHeld => ?_)
  clear hK K
  try simp only [Act.put, List.setIfInBounds_toArray, List.set_cons_zero, List.set_cons_succ]
  refine wpAnyH_ready (rs := [14]) (by kernel_rfl) (by simp) ?_
  refine AllReadyH.cons rfl (fun K hK => ?_) AllReadyH.nil
  rw [if_pos (by rfl)]
  go_wp2_with fail
  refine hK.out _ _ (by assumption) (fun hHeld => ?_)
  clear hK K
  try simp only [Act.put, List.setIfInBounds_toArray, List.set_cons_zero, List.set_cons_succ]
  refine wpAnyH_ready (rs := [15]) (by kernel_rfl) (by simp) ?_
  refine AllReadyH.cons rfl (fun K hK => ?_) AllReadyH.nil
  rw [if_pos (by rfl)]
  go_wp2_with fail
  refine hK.out _ _ (by assumption) (fun hHeld => ?_)
  clear hK K
  try simp only [Act.put, List.setIfInBounds_toArray, List.set_cons_zero, List.set_cons_succ]
  refine wpAnyH_ready (rs := [16]) (by kernel_rfl) (by simp) ?_
  refine AllReadyH.cons rfl (fun K hK => ?_) AllReadyH.nil
  rw [if_pos (by rfl)]
  go_wp2_with fail
  refine hK.out _ _ (by assumption) (fun hHeld => ?_)
  clear hK K
  try simp only [Act.put, List.setIfInBounds_toArray, List.set_cons_zero, List.set_cons_succ]
  refine wpAnyH_ready (rs := [17]) (by kernel_rfl) (by simp) ?_
  refine AllReadyH.cons rfl (fun K hK => ?_) AllReadyH.nil
  rw [if_pos (by rfl)]
  go_wp2_with fail
  refine hK.out _ _ (by assumption) (fun hHeld => ?_)
  clear hK K
  try simp only [Act.put, List.setIfInBounds_toArray, List.set_cons_zero, List.set_cons_succ]
  refine wpAnyH_ready (rs := [18]) (by kernel_rfl) (by simp) ?_
  refine AllReadyH.cons rfl (fun K hK => ?_) AllReadyH.nil
  rw [if_pos (by rfl)]
  go_wp2_with fail
  refine hK.out _ _ (by assumption) (fun hHeld => ?_)
  clear hK K
  try simp only [Act.put, List.setIfInBounds_toArray, List.set_cons_zero, List.set_cons_succ]
  refine wpAnyH_ready (rs := [19]) (by kernel_rfl) (by simp) ?_
  refine AllReadyH.cons rfl (fun K hK => ?_) AllReadyH.nil
  rw [if_pos (by rfl)]
  go_wp2_with fail
  refine hK.out _ _ (by assumption) (fun hHeld => ?_)
  clear hK K
  try simp only [Act.put, List.setIfInBounds_toArray, List.set_cons_zero, List.set_cons_succ]
  refine wpAnyH_ready (rs := [20]) (by kernel_rfl) (by simp) ?_
  refine AllReadyH.cons rfl (fun K hK => ?_) AllReadyH.nil
  rw [if_pos (by rfl)]
  go_wp2_with fail
  refine hK.out _ _ (by assumption) (fun hHeld => ?_)
  clear hK K
  try simp only [Act.put, List.setIfInBounds_toArray, List.set_cons_zero, List.set_cons_succ]
  refine wpAnyH_done (by kernel_rfl) ?_ _
  go_wp2
  go_ret
  exact ⟨rfl, And.left (And.right (And.right (by assumption)))⟩
end Go.Proofs.Ytbmclhnidemooaa
