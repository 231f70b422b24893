import Derived.Test.YtbmclhnidemooaaLinear
namespace Go.Proofs.Ytbmclhnidemooaa
open Go.RowKit
set_option linter.unusedVariables false
theorem its_next (k n : Nat) : its (k + 1) n = lcg (its k n) := rfl
theorem join_data (a b : ByteArray) : (a ++ b).data.toList = a.data.toList ++ b.data.toList := by simp
set_option maxRecDepth 100000 in
theorem other_away (a0 : Int) (s more : ByteArray) (w : World) (x1 : s.size ≤ 140737488351232) (x2 : more.size ≤ 140737488351232) (h : 500 < s.size + more.size) :
    Calls Try.prog 5 #[.int .u32 a0, .string s, .string more] w fun e w' => e = .returned (.bool true) ∧ Below w.heap.size w w' := by
  have hbel := Below.refl w.heap.size w
  have e3 : decide ((500 : Int) < (s.size : Int) + (more.size : Int)) = true := by simp; omega
  clear h
  go_enter Try.func5, Try.ntmps5
  go_wp2_with (go_at_call 9; refine (awake_any _).mono ?_; rintro e w1 ⟨rfl, hb⟩; have hbel := then_ hbel hb; clear hb)
  go_ret
  exact ⟨rfl, hbel⟩
set_option maxRecDepth 100000 in
set_option maxHeartbeats 1000000 in
theorem other_walk (a0 : Int) (s more : ByteArray) (w : World) (w0 : (Lit.int .u32 a0).wf = true) (ws : s.size ≤ maxLen) (wm : more.size ≤ maxLen) (x1 : s.size ≤ 140737488351232) (x2 : more.size ≤ 140737488351232) :
    Calls Try.prog 5 #[.int .u32 a0, .string s, .string more] w fun e w' => e = .returned (.bool true) ∧ Below w.heap.size w w' := by
  by_cases h : 500 < s.size + more.size
  · exact other_away a0 s more w x1 x2 h
  have hb0 := Go.bounds_u32 w0
  obtain ⟨n, rfl⟩ : ∃ n : Nat, a0 = n := ⟨a0.toNat, by omega⟩
  have hn : n < 4294967296 := by omega
  have e3 : decide ((500 : Int) < (s.size : Int) + (more.size : Int)) = false := by simp; omega
  have hisT := rowL_isT n hn
  have hq := moreT_append (rowL n 256) 0 s.data.toList more.data.toList
  rw [← join_data] at hq
  have hm1 := moreT_lt hisT 0 s.data.toList (by decide)
  have hm2 := moreT_lt hisT 0 (s ++ more).data.toList (by decide)
  have hS := fun w => crcSum (rowL n 256) s w hisT ws
  have hB := fun w => refBy (rowL n 256) s w hisT ws
  have hA := fun w => crcSum (rowL n 256) (s ++ more) w hisT (by rw [ByteArray.size_append]; unfold maxLen; omega)
  have hM := fun w => crcMore (rowL n 256) more _ w hisT hm1 wm
  rw [hq] at hM
  have hlen : (cellsU (rowL n 256)).length = 256 := by simp [cellsU, rowL_length]
  have hone : (cellsU (rowL n 256)).toArray.all (·.oneCell') = true := all_oneCell_toArray (fun v hv => by obtain ⟨i, _, rfl⟩ := List.mem_map.1 hv; rfl)
  have hi1 : (Try.prog.info? 23).map (·.size) = some (cellsU (rowL n 256)).length := by rw [hlen]; exact info23
  generalize moreT (rowL n 256) 0 s.data.toList = R1 at *
  generalize moreT (rowL n 256) 0 (s ++ more).data.toList = R2 at *
  obtain ⟨zs, hzs⟩ : ∃ zs : Array Value, zs = Array.replicate 256 (.int .u32 0) := ⟨_, rfl⟩
  have hz := zero23
  rw [← hzs] at hz
  have HZL : Hid (zs.toList = List.replicate (256 - 0) (.int .u32 0)) := by rw [hzs]; exact Array.toList_replicate
  have hzn : zs.size = 256 := by rw [hzs, Array.size_replicate]
  have hsm : s.size + more.size ≤ 9223372036854775807 := by omega
  have hR1 : R1 ≤ 4294967295 := by omega
  have hR2 : R2 ≤ 4294967295 := by omega
  have HS := Lib.hid hS
  have HB := Lib.hid hB
  have HA := Lib.hid hA
  have HM := Lib.hid hM
  have HLEN := Lib.hid hlen
  have HI1 := Lib.hid hi1
  have HZN := Lib.hid hzn
  clear hzs hq hisT hm1 hm2 hS hB hA hM hlen hone hi1 h w0 hb0 hzn
  unfold maxLen at ws wm
  have hn0 : its 0 n = n := rfl
  rw [← hn0]
  have HN0 := Lib.hid hn0
  have hit := fun k => its_lt k n hn
  have HIT := Lib.hid hit
  clear hn0 hit hn
  go_enter Try.func5, Try.ntmps5
  go_wp2_with fail
  refine (awake_any w).mono ?_
  rintro e wA ⟨rfl, kA⟩
  go_wp2_with fail
  have ho0 := World.ownsRow_lit (base := w.heap.size) (e := 23) (size := 1) wA zs 256 kA.size (by unfold maxLen; omega) (by rw [HZN.out])
  have hb0 : Below w.heap.size w (wA.alloc (.cells zs 23)) := kA.alloc kA.size _
  have hsz := kA.size
  rw [HZL.out] at ho0
  generalize wA.alloc (.cells zs 23) = wB at *
  generalize wA.heap.size = g at *
  clear hz HZL HZN kA
  go_loopw [0, 20] (fun x c wr => ∃ k : Nat, k ≤ 256 ∧ c = .int .i64 k ∧ x = .int .u32 (its k n : Nat) ∧ wr.ownsRow w.heap.size 23 1 (.slice (some ⟨g, 0, none⟩) 256 256) 256 (cellsU (rowL n k) ++ List.replicate (256 - k) (Value.int .u32 0)) ∧ Below w.heap.size w wr)
    (fun _ c _ => 256 - (intOf c).toNat)
  case atStart => exact ⟨0, by omega, rfl, rfl, ho0, hb0⟩
  case round =>
    clear ho0 hb0
    obtain ⟨k, hk, rfl, rfl, ho, hb⟩ := hrel
    by_cases hlt : k < 256
    · have hki : (k : Int) < 256 := by omega
      have hil := HIT.out k
      have hnx := its_next k n
      have hrn := rowL_next n k
      have hfree := owns_free ho hlt
      have hcell : wr.cell? ⟨g, k, none⟩ = some (.int .u32 0) := owns_cell ho (by
        rw [List.getElem?_append_right (by simp [cellsU, rowL_length]), show (cellsU (rowL n k)).length = k by simp [cellsU, rowL_length], Nat.sub_self, show 256 - k = 256 - (k + 1) + 1 by omega, List.replicate_succ]; rfl)
      have hset := owns_set (u := .int .u32 (its (k + 1) n : Nat)) ho hlt
      rw [show 256 - k = 256 - (k + 1) + 1 by omega, set_next _ _ _ _ _ (by simp [cellsU, rowL_length]), hrn] at hset
      have hbn := hb.setCell (p := ⟨g, k, none⟩) hsz (.int .u32 (its (k + 1) n : Nat))
      have hl1 : (((its k n : Nat) : Int) * 1664525 + 1013904223) % 4294967296 = (its (k + 1) n : Nat) := by rw [hnx]; unfold lcg; omega
      have hl2 : (((its k n : Nat) : Int) * 1664525 % 4294967296 + 1013904223) % 4294967296 = (its (k + 1) n : Nat) := by rw [hnx]; unfold lcg; omega
      have HSET := Lib.hid hset
      have HBN := Lib.hid hbn
      have HL1 := Lib.hid hl1
      have HL2 := Lib.hid hl2
      have hlw2 : its k n ≤ 4294967295 := by omega
      clear hnx hrn ho hb hset hbn hl1 hl2 hil
      generalize its k n = m at *
      go_wp2_with fail
      go_roundw
      case rel => exact ⟨k + 1, by omega, by go_num, by first | rw [HL2.out] | rw [HL1.out], by rw [HL1.out]; exact HSET.out, by rw [HL1.out]; exact HBN.out⟩
      case measure => simp [intOf]; omega
    · obtain rfl : k = 256 := by omega
      rw [Nat.sub_self, List.replicate_zero, List.append_nil] at ho
      have hr : wr.rangeAt g 0 (cellsU (rowL n 256)) := fun j v hv => by
        have := owns_cell ho (k := j) (u := v) hv
        rwa [Nat.zero_add]
      generalize cellsU (rowL n 256) = L at *
      generalize its 256 n = m at *
      have hdr : wr.drew.rangeAt g 0 L := hr
      have hkd : Below w.heap.size w wr.drew := hb.drew
      have hsd : w.heap.size ≤ wr.drew.heap.size := hb.size
      have hK : ∀ x y : World, Below x.heap.size x y → True → True := fun _ _ _ _ => trivial
      have hKeep := Lib.hid hK
      clear ho hr hb hK hsz
      go_wp2_with fail
      try simp only [Act.put, List.setIfInBounds_toArray, List.set_cons_zero, List.set_cons_succ]
      refine wp_region_held_drew (S := fun w' => w'.rangeAt g 0 L ∧ True ∧ Below w.heap.size w w' ∧ w.heap.size ≤ w'.heap.size) (by kernel_rfl) ⟨hdr, trivial, hkd, hsd⟩ (fun hHeld => ?_)
      refine wpAnyH_take (i := 0) rfl (by kernel_rfl) (by kernel_rfl) (by kernel_rfl) (fun _ _ _ h => h) (yieldsIf_load_mid (by rfl) _ _ rfl g 0 rfl L _ (fun w h => h.1) under23 rfl HI1.out) (by assumption) ?_
      try simp only [Act.put, List.setIfInBounds_toArray, List.set_cons_zero, List.set_cons_succ]
      refine wpAnyH_take (i := 3) rfl (by kernel_rfl) (by kernel_rfl) (by kernel_rfl) (fun _ _ _ h => h) (yieldsIf_load_mid (by rfl) _ _ rfl g 0 rfl L _ (fun w h => h.1) under23 rfl HI1.out) (by assumption) ?_
      try simp only [Act.put, List.setIfInBounds_toArray, List.set_cons_zero, List.set_cons_succ]
      refine wpAnyH_take (i := 1) (v := (.string s)) rfl (by kernel_rfl) (by kernel_rfl) (by kernel_rfl) (fun _ _ _ h => h) (Or.inl ⟨by rfl, fun w h => rfl⟩) (by assumption) ?_
      simp only [Act.put, List.getElem_toArray, List.getElem_cons_succ, List.getElem_cons_zero, List.setIfInBounds_toArray, List.set_cons_zero, List.set_cons_succ]
      refine wpAnyH_take (i := 4) (v := (.string s)) rfl (by kernel_rfl) (by kernel_rfl) (by kernel_rfl) (fun _ _ _ h => h) (Or.inl ⟨by rfl, fun w h => rfl⟩) (by assumption) ?_
      simp only [Act.put, List.getElem_toArray, List.getElem_cons_succ, List.getElem_cons_zero, List.setIfInBounds_toArray, List.set_cons_zero, List.set_cons_succ]
      refine wpAnyH_ready (rs := [2]) (by kernel_rfl) (by simp) ?_
      refine AllReadyH.cons rfl (fun K hK => ?_) AllReadyH.nil
      rw [if_pos (by rfl)]
      go_wp2_with fail
      refine (keep_callP hKeep.out (HS.out _) (by assumption)).mono ?_
      rintro e w' ⟨he, q⟩
      cases he
      dsimp only
      refine hK.out _ _ q (fun hHeld => ?_)
      clear hK K
      try simp only [Act.put, List.setIfInBounds_toArray, List.set_cons_zero, List.set_cons_succ]
      refine wpAnyH_ready (rs := [5]) (by kernel_rfl) (by simp) ?_
      refine AllReadyH.cons rfl (fun K hK => ?_) AllReadyH.nil
      rw [if_pos (by rfl)]
      go_wp2_with fail
      refine (keep_callP hKeep.out (HB.out _) (by assumption)).mono ?_
      rintro e w' ⟨he, q⟩
      cases he
      dsimp only
      refine hK.out _ _ q (fun hHeld => ?_)
      clear hK K
      try simp only [Act.put, List.setIfInBounds_toArray, List.set_cons_zero, List.set_cons_succ]
      refine wpAnyH_ready (rs := [6]) (by kernel_rfl) (by simp) ?_
      refine AllReadyH.cons rfl (fun K hK => ?_) AllReadyH.nil
      rw [if_pos (by rfl)]
      go_wp2_with fail
      refine hK.out _ _ (by assumption) (fun hHeld => ?_)
      clear hK K
      try simp only [Act.put, List.setIfInBounds_toArray, List.set_cons_zero, List.set_cons_succ]
      refine wpAnyH_ready (rs := [7]) (by kernel_rfl) (by simp) ?_
      refine AllReadyH.cons rfl (fun K hK => ?_) AllReadyH.nil
      rw [if_pos (by rfl)]
      go_wp2_with fail
      refine hK.out _ _ (by assumption) (fun hHeld => ?_)
      clear hK K
      try simp only [Act.put, List.setIfInBounds_toArray, List.set_cons_zero, List.set_cons_succ]
      refine wpAnyH_take (i := 8) rfl (by kernel_rfl) (by kernel_rfl) (by kernel_rfl) (fun _ _ _ h => h) (yieldsIf_load_mid (by rfl) _ _ rfl g 0 rfl L _ (fun w h => h.1) under23 rfl HI1.out) (by assumption) ?_
      try simp only [Act.put, List.setIfInBounds_toArray, List.set_cons_zero, List.set_cons_succ]
      refine wpAnyH_take (i := 9) rfl (by kernel_rfl) (by kernel_rfl) (by kernel_rfl) (fun _ _ _ h => h) (yieldsIf_load_mid (by rfl) _ _ rfl g 0 rfl L _ (fun w h => h.1) under23 rfl HI1.out) (by assumption) ?_
      try simp only [Act.put, List.setIfInBounds_toArray, List.set_cons_zero, List.set_cons_succ]
      refine wpAnyH_take (i := 14) rfl (by kernel_rfl) (by kernel_rfl) (by kernel_rfl) (fun _ _ _ h => h) (yieldsIf_load_mid (by rfl) _ _ rfl g 0 rfl L _ (fun w h => h.1) under23 rfl HI1.out) (by assumption) ?_
      try simp only [Act.put, List.setIfInBounds_toArray, List.set_cons_zero, List.set_cons_succ]
      refine wpAnyH_take (i := 10) (v := (.string s)) rfl (by kernel_rfl) (by kernel_rfl) (by kernel_rfl) (fun _ _ _ h => h) (Or.inl ⟨by rfl, fun w h => rfl⟩) (by assumption) ?_
      simp only [Act.put, List.getElem_toArray, List.getElem_cons_succ, List.getElem_cons_zero, List.setIfInBounds_toArray, List.set_cons_zero, List.set_cons_succ]
      refine wpAnyH_take (i := 12) (v := (.string more)) rfl (by kernel_rfl) (by kernel_rfl) (by kernel_rfl) (fun _ _ _ h => h) (Or.inl ⟨by rfl, fun w h => rfl⟩) (by assumption) ?_
      simp only [Act.put, List.getElem_toArray, List.getElem_cons_succ, List.getElem_cons_zero, List.setIfInBounds_toArray, List.set_cons_zero, List.set_cons_succ]
      refine wpAnyH_take (i := 15) (v := (.string s)) rfl (by kernel_rfl) (by kernel_rfl) (by kernel_rfl) (fun _ _ _ h => h) (Or.inl ⟨by rfl, fun w h => rfl⟩) (by assumption) ?_
      simp only [Act.put, List.getElem_toArray, List.getElem_cons_succ, List.getElem_cons_zero, List.setIfInBounds_toArray, List.set_cons_zero, List.set_cons_succ]
      refine wpAnyH_take (i := 16) (v := (.string more)) rfl (by kernel_rfl) (by kernel_rfl) (by kernel_rfl) (fun _ _ _ h => h) (Or.inl ⟨by rfl, fun w h => rfl⟩) (by assumption) ?_
      simp only [Act.put, List.getElem_toArray, List.getElem_cons_succ, List.getElem_cons_zero, List.setIfInBounds_toArray, List.set_cons_zero, List.set_cons_succ]
      refine wpAnyH_take (i := 17) (v := (.string (s ++ more))) rfl (by kernel_rfl) (by kernel_rfl) (by kernel_rfl) (fun _ _ _ h => h) (Or.inl ⟨by rfl, fun w h => by (simp only [List.getElem_toArray, List.getElem_cons_succ, List.getElem_cons_zero]; clear h; go_simp)⟩) (by assumption) ?_
      simp only [Act.put, List.getElem_toArray, List.getElem_cons_succ, List.getElem_cons_zero, List.setIfInBounds_toArray, List.set_cons_zero, List.set_cons_succ]
      refine wpAnyH_ready (rs := [11]) (by kernel_rfl) (by simp) ?_
      refine AllReadyH.cons rfl (fun K hK => ?_) AllReadyH.nil
      rw [if_pos (by rfl)]
      go_wp2_with fail
      refine (keep_callP hKeep.out (HS.out _) (by assumption)).mono ?_
      rintro e w' ⟨he, q⟩
      cases he
      dsimp only
      refine hK.out _ _ q (fun hHeld => ?_)
      clear hK K
      try simp only [Act.put, List.setIfInBounds_toArray, List.set_cons_zero, List.set_cons_succ]
      refine wpAnyH_ready (rs := [13]) (by kernel_rfl) (by simp) ?_
      refine AllReadyH.cons rfl (fun K hK => ?_) AllReadyH.nil
      rw [if_pos (by rfl)]
      go_wp2_with fail
      refine (keep_callP hKeep.out (HM.out _) (by assumption)).mono ?_
      rintro e w' ⟨he, q⟩
      cases he
      dsimp only
      refine hK.out _ _ q (fun hHeld => ?_)
      clear hK K
      try simp only [Act.put, List.setIfInBounds_toArray, List.set_cons_zero, List.set_cons_succ]
      refine wpAnyH_ready (rs := [18]) (by kernel_rfl) (by simp) ?_
      refine AllReadyH.cons rfl (fun K hK => ?_) AllReadyH.nil
      rw [if_pos (by rfl)]
      go_wp2_with fail
      refine (keep_callP hKeep.out (HA.out _) (by assumption)).mono ?_
      rintro e w' ⟨he, q⟩
      cases he
      dsimp only
      refine hK.out _ _ q (fun hHeld => ?_)
      clear hK K
      try simp only [Act.put, List.setIfInBounds_toArray, List.set_cons_zero, List.set_cons_succ]
      refine wpAnyH_ready (rs := [19]) (by kernel_rfl) (by simp) ?_
      refine AllReadyH.cons rfl (fun K hK => ?_) AllReadyH.nil
      rw [if_pos (by rfl)]
      go_wp2_with fail
      refine hK.out _ _ (by assumption) (fun hHeld => ?_)
      clear hK K
      try simp only [Act.put, List.setIfInBounds_toArray, List.set_cons_zero, List.set_cons_succ]
      refine wpAnyH_ready (rs := [20]) (by kernel_rfl) (by simp) ?_
      refine AllReadyH.cons rfl (fun K hK => ?_) AllReadyH.nil
      rw [if_pos (by rfl)]
      go_wp2_with fail
      refine hK.out _ _ (by assumption) (fun hHeld => ?_)
      clear hK K
      try simp only [Act.put, List.setIfInBounds_toArray, List.set_cons_zero, List.set_cons_succ]
      refine wpAnyH_ready (rs := [21]) (by kernel_rfl) (by simp) ?_
      refine AllReadyH.cons rfl (fun K hK => ?_) AllReadyH.nil
      rw [if_pos (by rfl)]
      go_wp2_with fail
      refine hK.out _ _ (by assumption) (fun hHeld => ?_)
      clear hK K
      try simp only [Act.put, List.setIfInBounds_toArray, List.set_cons_zero, List.set_cons_succ]
      refine wpAnyH_done (by kernel_rfl) ?_ _
      go_wp2
      go_ret
      exact ⟨rfl, And.left (And.right (And.right (by assumption)))⟩
end Go.Proofs.Ytbmclhnidemooaa
