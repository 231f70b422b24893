import Derived.Test.YtjkgckdldmhgjaaPrint
namespace Go.Proofs.Ytjkgckdldmhgjaa
open Go.RowKit
set_option linter.unusedVariables false
set_option linter.unusedSimpArgs false
set_option maxHeartbeats 1000000 in
set_option maxRecDepth 100000 in
theorem refPrint4 (v : Value) (l : List Nat) (w : World) (h : SeqAt w v (cells64 l)) (hl : l.length ≤ 1099511627776) (hm : ∀ n ∈ l, n < M64) :
    Calls Try.prog 19 #[v] w fun e w' => e = .returned (.string (textB (printR l))) ∧ Below w.heap.size w w' := by
  have hP := refPack v l w h hl hm
  have hin := packs_in l
  have hpm := packs_mem l hm
  have HR : Hid (printR l = enc (packs l).length ++ bodyR (packs l)) := rfl
  generalize packs l = rs at *
  obtain ⟨hrl, hrc⟩ := hin
  have hrl2 : rs.length ≤ 1099511627776 := by omega
  have HP := Lib.hid hP
  clear hP h
  go_enter Try.func19, Try.ntmps19
  go_wp2_with fail
  refine HP.out.mono ?_
  rintro e w1 ⟨vr, rfl, ho, hb1⟩
  obtain ⟨A, cp, rfl, hc1, hc2, _⟩ := (SeqS.of_owns ho).form
  unfold maxLen at hc2
  have HO := Lib.hid ho
  clear ho HP
  go_wp2_with fail
  refine (refPrint rs.length w1 (by unfold M64; omega)).mono ?_
  rintro e w2 ⟨rfl, hb2⟩
  have ho2 := SeqS.of_owns (owns_below HO.out hb2)
  have hb1 := hb1.trans (hb2.mono hb1.size)
  clear HO hb2
  have HO := Lib.hid ho2
  clear ho2
  have he := enc_length rs.length
  go_wp2
  go_loopw [4, 5] (fun t c wr => ∃ k : Nat, k ≤ rs.length ∧ c = .int .i64 k ∧ t = .string (textB (enc rs.length ++ bodyR (rs.take k))) ∧ SeqS wr 2 (.slice A rs.length cp) rs.length (cells2 rs) ∧ Below w.heap.size w wr)
    (fun _ c _ => rs.length - (intOf c).toNat)
  case atStart => exact ⟨0, by omega, rfl, by simp [bodyR], HO.out, hb1⟩
  case round =>
    clear HO hb1
    obtain ⟨k, hk, rfl, rfl, ho, hb⟩ := hrel
    by_cases hlt : k < rs.length
    · have hki : (k : Int) < (rs.length : Int) := by omega
      have hg : rs[k]? = some rs[k] := List.getElem?_eq_getElem hlt
      obtain ⟨b, off, rfl, c1, c2⟩ := seq2_at ho hg hlt
      have hnx := bodyR_next hg
      have hpm := hpm _ (List.getElem_mem hlt)
      have hpc := hrc _ (List.getElem_mem hlt)
      have hbl := bodyR_length (rs.take k)
      rw [List.length_take, Nat.min_eq_left hk] at hbl
      generalize rs[k] = p at *
      obtain ⟨x, c⟩ := p
      simp only at c1 c2 hnx hpm hpc
      have he1 := enc_length x
      have he2 := enc_length (c - 1)
      have hvx := fun w => refPrint x w hpm
      have hvc := fun w => refPrint (c - 1) w (by unfold M64; omega)
      rw [show ((c - 1 : Nat) : Int) = (c : Int) - 1 by omega] at hvc
      have HVX := Lib.hid hvx
      have HVC := Lib.hid hvc
      have HNX := Lib.hid hnx
      unfold M64 at hpm
      generalize enc x = ex at *
      generalize enc (c - 1) = ec at *
      generalize hd : enc rs.length ++ bodyR (rs.take k) = d at *
      have hdl : d.length ≤ 10 + 20 * k := by rw [← hd, List.length_append]; omega
      have HD := Lib.hid hd
      have hci1 : (1 : Int) ≤ (c : Int) := by omega
      have hci2 : (c : Int) ≤ 1099511627776 := by omega
      have hs1 : (textB ex).size + (textB ec).size ≤ 9223372036854775807 := by rw [textB_size, textB_size]; omega
      have hs2 : (textB d).size + ((textB ex).size + (textB ec).size) ≤ 9223372036854775807 := by rw [textB_size, textB_size, textB_size]; omega
      have ht : textB d ++ (textB ex ++ textB ec) = textB (enc rs.length ++ bodyR (rs.take (k + 1))) := by rw [text_append, text_append, ← HD.out, HNX.out, List.append_assoc]
      have HT := Lib.hid ht
      have hwr : IntKind.u64.wrap ((c : Int) - 1) = (c : Int) - 1 := by rw [IntKind.wrap_u64]; omega
      clear hvx hvc hnx hd ht hg hbl he1 he2
      have hKeep : Hid (∀ a b' : World, Below a.heap.size a b' → (a.cell? ⟨b, off + k * 2, none⟩ = some (.int .u64 (x : Int)) ∧ a.cell? ⟨b, off + k * 2 + 1, none⟩ = some (.int .u64 (c : Int)) ∧ SeqS a 2 (.slice (some ⟨b, off, none⟩) rs.length cp) rs.length (cells2 rs)) →
          (b'.cell? ⟨b, off + k * 2, none⟩ = some (.int .u64 (x : Int)) ∧ b'.cell? ⟨b, off + k * 2 + 1, none⟩ = some (.int .u64 (c : Int)) ∧ SeqS b' 2 (.slice (some ⟨b, off, none⟩) rs.length cp) rs.length (cells2 rs))) :=
        fun a b' hb h => ⟨cell_later h.1 hb, cell_later h.2.1 hb, h.2.2.later hb⟩
      have hbd := hb.drew
      have hbs : w.heap.size ≤ wr.drew.heap.size := hb.size
      have hSd := ho.drew
      have c1d : wr.drew.cell? ⟨b, off + k * 2, none⟩ = some (.int .u64 (x : Int)) := c1
      have c2d : wr.drew.cell? ⟨b, off + k * 2 + 1, none⟩ = some (.int .u64 (c : Int)) := c2
      clear c1 c2 ho hb
      go_wp2_with fail
      try simp only [Act.put, List.setIfInBounds_toArray, List.set_cons_zero, List.set_cons_succ]
      refine wp_region_held_drew (S := fun w' => (w'.cell? ⟨b, off + k * 2, none⟩ = some (.int .u64 (x : Int)) ∧ w'.cell? ⟨b, off + k * 2 + 1, none⟩ = some (.int .u64 (c : Int)) ∧ SeqS w' 2 (.slice (some ⟨b, off, none⟩) rs.length cp) rs.length (cells2 rs)) ∧ Below w.heap.size w w' ∧ w.heap.size ≤ w'.heap.size) (by kernel_rfl) ⟨⟨c1d, c2d, hSd⟩, hbd, hbs⟩ (fun hHeld => ?_)
      clear c1d c2d hSd hbd hbs
      refine wpAnyH_take (i := 0) (v := (.string (textB d))) rfl (by kernel_rfl) (by kernel_rfl) (by kernel_rfl) (fun _ _ _ h => h) (Or.inl ⟨by rfl, fun w h => by (simp only [List.getElem_toArray, List.getElem_cons_succ, List.getElem_cons_zero]; clear h; go_simp)⟩) (by assumption) ?_
      simp only [Act.put, List.getElem_toArray, List.getElem_cons_succ, List.getElem_cons_zero, List.setIfInBounds_toArray, List.set_cons_zero, List.set_cons_succ]
      refine wpAnyH_take (i := 1) (v := (.slice (some ⟨b, off, none⟩) rs.length cp)) rfl (by kernel_rfl) (by kernel_rfl) (by kernel_rfl) (fun _ _ _ h => h) (Or.inl ⟨by rfl, fun w h => by (simp only [List.getElem_toArray, List.getElem_cons_succ, List.getElem_cons_zero]; clear h; go_simp)⟩) (by assumption) ?_
      simp only [Act.put, List.getElem_toArray, List.getElem_cons_succ, List.getElem_cons_zero, List.setIfInBounds_toArray, List.set_cons_zero, List.set_cons_succ]
      refine wpAnyH_take (i := 2) (v := (.int .i64 k)) rfl (by kernel_rfl) (by kernel_rfl) (by kernel_rfl) (fun _ _ _ h => h) (Or.inl ⟨by rfl, fun w h => by (simp only [List.getElem_toArray, List.getElem_cons_succ, List.getElem_cons_zero]; clear h; go_simp)⟩) (by assumption) ?_
      simp only [Act.put, List.getElem_toArray, List.getElem_cons_succ, List.getElem_cons_zero, List.setIfInBounds_toArray, List.set_cons_zero, List.set_cons_succ]
      refine wpAnyH_take (i := 3) (v := (.pointer (some ⟨b, off + k * 2, none⟩))) rfl (by kernel_rfl) (by kernel_rfl) (by kernel_rfl) (fun _ _ _ h => h) (Or.inl ⟨by rfl, fun w h => by (simp only [List.getElem_toArray, List.getElem_cons_succ, List.getElem_cons_zero]; clear h; go_simp)⟩) (by assumption) ?_
      simp only [Act.put, List.getElem_toArray, List.getElem_cons_succ, List.getElem_cons_zero, List.setIfInBounds_toArray, List.set_cons_zero, List.set_cons_succ]
      refine wpAnyH_take (i := 4) (v := (.pointer (some ⟨b, off + k * 2, none⟩))) rfl (by kernel_rfl) (by kernel_rfl) (by kernel_rfl) (fun _ _ _ h => h) (Or.inl ⟨by rfl, fun w h => by (simp only [List.getElem_toArray, List.getElem_cons_succ, List.getElem_cons_zero]; clear h; go_simp)⟩) (by assumption) ?_
      simp only [Act.put, List.getElem_toArray, List.getElem_cons_succ, List.getElem_cons_zero, List.setIfInBounds_toArray, List.set_cons_zero, List.set_cons_succ]
      refine wpAnyH_take (i := 5) (v := (.int .u64 x)) rfl (by kernel_rfl) (by kernel_rfl) (by kernel_rfl) (fun _ _ _ h => h) (Or.inl ⟨by rfl, fun w h => by (simp only [List.getElem_toArray, List.getElem_cons_succ, List.getElem_cons_zero]; have h1 := h.1.1; clear h; go_simp)⟩) (by assumption) ?_
      simp only [Act.put, List.getElem_toArray, List.getElem_cons_succ, List.getElem_cons_zero, List.setIfInBounds_toArray, List.set_cons_zero, List.set_cons_succ]
      refine wpAnyH_take (i := 7) (v := (.slice (some ⟨b, off, none⟩) rs.length cp)) rfl (by kernel_rfl) (by kernel_rfl) (by kernel_rfl) (fun _ _ _ h => h) (Or.inl ⟨by rfl, fun w h => by (simp only [List.getElem_toArray, List.getElem_cons_succ, List.getElem_cons_zero]; clear h; go_simp)⟩) (by assumption) ?_
      simp only [Act.put, List.getElem_toArray, List.getElem_cons_succ, List.getElem_cons_zero, List.setIfInBounds_toArray, List.set_cons_zero, List.set_cons_succ]
      refine wpAnyH_take (i := 8) (v := (.int .i64 k)) rfl (by kernel_rfl) (by kernel_rfl) (by kernel_rfl) (fun _ _ _ h => h) (Or.inl ⟨by rfl, fun w h => by (simp only [List.getElem_toArray, List.getElem_cons_succ, List.getElem_cons_zero]; clear h; go_simp)⟩) (by assumption) ?_
      simp only [Act.put, List.getElem_toArray, List.getElem_cons_succ, List.getElem_cons_zero, List.setIfInBounds_toArray, List.set_cons_zero, List.set_cons_succ]
      refine wpAnyH_take (i := 9) (v := (.pointer (some ⟨b, off + k * 2, none⟩))) rfl (by kernel_rfl) (by kernel_rfl) (by kernel_rfl) (fun _ _ _ h => h) (Or.inl ⟨by rfl, fun w h => by (simp only [List.getElem_toArray, List.getElem_cons_succ, List.getElem_cons_zero]; clear h; go_simp)⟩) (by assumption) ?_
      simp only [Act.put, List.getElem_toArray, List.getElem_cons_succ, List.getElem_cons_zero, List.setIfInBounds_toArray, List.set_cons_zero, List.set_cons_succ]
      refine wpAnyH_take (i := 10) (v := (.pointer (some ⟨b, off + k * 2 + 1, none⟩))) rfl (by kernel_rfl) (by kernel_rfl) (by kernel_rfl) (fun _ _ _ h => h) (Or.inl ⟨by rfl, fun w h => by (simp only [List.getElem_toArray, List.getElem_cons_succ, List.getElem_cons_zero]; clear h; go_simp)⟩) (by assumption) ?_
      simp only [Act.put, List.getElem_toArray, List.getElem_cons_succ, List.getElem_cons_zero, List.setIfInBounds_toArray, List.set_cons_zero, List.set_cons_succ]
      refine wpAnyH_take (i := 11) (v := (.int .u64 c)) rfl (by kernel_rfl) (by kernel_rfl) (by kernel_rfl) (fun _ _ _ h => h) (Or.inl ⟨by rfl, fun w h => by (simp only [List.getElem_toArray, List.getElem_cons_succ, List.getElem_cons_zero]; have h1 := h.1.2.1; clear h; go_simp)⟩) (by assumption) ?_
      simp only [Act.put, List.getElem_toArray, List.getElem_cons_succ, List.getElem_cons_zero, List.setIfInBounds_toArray, List.set_cons_zero, List.set_cons_succ]
      refine wpAnyH_take (i := 12) (v := (.int .u64 ((c : Int) - 1))) rfl (by kernel_rfl) (by kernel_rfl) (by kernel_rfl) (fun _ _ _ h => h) (Or.inl ⟨by rfl, fun w h => by (simp only [List.getElem_toArray, List.getElem_cons_succ, List.getElem_cons_zero]; clear h; go_simp)⟩) (by assumption) ?_
      simp only [Act.put, List.getElem_toArray, List.getElem_cons_succ, List.getElem_cons_zero, List.setIfInBounds_toArray, List.set_cons_zero, List.set_cons_succ]
      refine wpAnyH_ready (rs := [6]) (by kernel_rfl) (by simp) ?_
      refine AllReadyH.cons rfl (fun K hK => ?_) AllReadyH.nil
      rw [if_pos (by rfl)]
      go_wp2_with fail
      refine (keep_callS hKeep.out (HVX.out _) (by assumption)).mono ?_
      rintro e w' ⟨he, q⟩
      cases he
      dsimp only
      refine hK.out _ _ q (fun hHeld => ?_)
      clear hK K
      try simp only [Act.put, List.setIfInBounds_toArray, List.set_cons_zero, List.set_cons_succ]
      refine wpAnyH_ready (rs := [13]) (by kernel_rfl) (by simp) ?_
      refine AllReadyH.cons rfl (fun K hK => ?_) AllReadyH.nil
      rw [if_pos (by rfl)]
      go_wp2_with fail
      refine (keep_callS hKeep.out (HVC.out _) (by assumption)).mono ?_
      rintro e w' ⟨he, q⟩
      cases he
      dsimp only
      refine hK.out _ _ q (fun hHeld => ?_)
      clear hK K
      try simp only [Act.put, List.setIfInBounds_toArray, List.set_cons_zero, List.set_cons_succ]
      refine wpAnyH_take (i := 14) (v := (.string (textB ex ++ textB ec))) rfl (by kernel_rfl) (by kernel_rfl) (by kernel_rfl) (fun _ _ _ h => h) (Or.inl ⟨by rfl, fun w h => by (simp only [List.getElem_toArray, List.getElem_cons_succ, List.getElem_cons_zero]; clear h; go_simp)⟩) (by assumption) ?_
      simp only [Act.put, List.getElem_toArray, List.getElem_cons_succ, List.getElem_cons_zero, List.setIfInBounds_toArray, List.set_cons_zero, List.set_cons_succ]
      refine wpAnyH_take (i := 15) (v := (.string (textB (enc rs.length ++ bodyR (rs.take (k + 1)))))) rfl (by kernel_rfl) (by kernel_rfl) (by kernel_rfl) (fun _ _ _ h => h) (Or.inl ⟨by rfl, fun w h => by (simp only [List.getElem_toArray, List.getElem_cons_succ, List.getElem_cons_zero]; clear h; rw [← HT.out]; go_simp)⟩) (by assumption) ?_
      simp only [Act.put, List.getElem_toArray, List.getElem_cons_succ, List.getElem_cons_zero, List.setIfInBounds_toArray, List.set_cons_zero, List.set_cons_succ]
      refine wpAnyH_ready (rs := [16]) (by kernel_rfl) (by simp) ?_
      refine AllReadyH.cons rfl (fun K hK => ?_) AllReadyH.nil
      rw [if_pos (by rfl)]
      go_wp2_with fail
      refine hK.out _ _ (by assumption) (fun hHeld => ?_)
      clear hK K
      try simp only [Act.put, List.setIfInBounds_toArray, List.set_cons_zero, List.set_cons_succ]
      refine wpAnyH_done (by kernel_rfl) ?_ _
      obtain ⟨⟨_, _, hS⟩, hb, hbs⟩ := hHeld
      have HS := Lib.hid hS
      clear hS
      go_wp2
      go_roundw
      case rel => exact ⟨k + 1, by omega, by go_num, rfl, HS.out, hb⟩
      case measure => simp [intOf]; omega
    · obtain rfl : k = rs.length := by omega
      rw [List.take_of_length_le (Nat.le_refl _), ← HR.out]
      go_wp2
      go_ret
      exact ⟨rfl, hb⟩
end Go.Proofs.Ytjkgckdldmhgjaa
