import Derived.Test.YtjkgckdldmhgjaaFits
namespace Go.Proofs.Ytjkgckdldmhgjaa
open Go.RowKit
set_option linter.unusedVariables false
set_option linter.unusedSimpArgs false
/-- What is wrong with runs first, behind others, into so much room. -/
def unpackE : List (Nat × Nat) → List (Nat × Nat) → Nat → Nat
  | _, [], _ => 0
  | bef, p :: rest, room => if fitE bef p.1 p.2 room = 0 then unpackE (bef ++ [p]) rest (room - p.2) else fitE bef p.1 p.2 room
def unpErr (rs : List (Nat × Nat)) (most : Int) : Nat := if most < 0 then 1 else unpackE [] rs most.toNat
def unpOut (rs : List (Nat × Nat)) (most : Int) : List Nat := if unpErr rs most = 0 then spreads rs else []
theorem unpack_step {rs : List (Nat × Nat)} {k room : Nat} {p : Nat × Nat} (h : rs[k]? = some p) :
    unpackE (rs.take k) (rs.drop k) room = if fitE (rs.take k) p.1 p.2 room = 0 then unpackE (rs.take (k + 1)) (rs.drop (k + 1)) (room - p.2) else fitE (rs.take k) p.1 p.2 room := by
  have hk : k < rs.length := (List.getElem?_eq_some_iff.1 h).1
  have hp : rs[k] = p := by rw [List.getElem?_eq_getElem hk] at h; simpa using h
  rw [List.drop_eq_getElem_cons hk, hp, unpackE, List.take_add_one, h]
  rfl
theorem fitE_ok {bef : List (Nat × Nat)} {x c room : Nat} (h : fitE bef x c room = 0) : c ≠ 0 ∧ lastIs bef x = false ∧ c ≤ room := by
  unfold fitE at h
  split at h
  · omega
  · split at h
    · omega
    · split at h
      · omega
      · refine ⟨by assumption, by simp_all, by omega⟩
theorem ret_twoV {a b : Value} {c d : Int} {k : IntKind} (h : a = b) (h2 : c = d) : Ending.returned (.tuple #[a, .int k c]) = .returned (.tuple #[b, .int k d]) := by rw [h, h2]
set_option maxHeartbeats 1000000 in
set_option maxRecDepth 100000 in
theorem runsUnpack (v : Value) (rs : List (Nat × Nat)) (most : Int) (w : World) (h : SeqS w 2 v rs.length (cells2 rs)) (hm : ∀ p ∈ rs, p.1 < M64 ∧ p.2 < M64) (h1 : most ≤ 1099511627776) (h2 : -9223372036854775808 ≤ most) :
    Calls Try.prog 11 #[v, .int .i64 most] w fun e w' => ∃ v', e = .returned (.tuple #[v', .int .i64 (unpErr rs most : Nat)]) ∧ w'.ownsRow w.heap.size 34 1 v' (unpOut rs most).length (cells64 (unpOut rs most)) ∧ Below w.heap.size w w' := by
  by_cases hneg : most < 0
  · have e1 : unpErr rs most = 1 := by unfold unpErr; rw [if_pos hneg]
    have e2 : unpOut rs most = [] := by unfold unpOut; rw [e1]; rfl
    rw [e1, e2]
    clear e1 e2 h hm
    go_enter Try.func11, Try.ntmps11
    go_wp2
    go_ret2
    exact ⟨_, rfl, World.ownsRow_nil _ _ _ _, Below.refl _ _⟩
  obtain ⟨M, rfl⟩ : ∃ M : Nat, most = M := ⟨most.toNat, by omega⟩
  have e0 : decide ((M : Int) < 0) = false := by simp
  have hM : M ≤ 1099511627776 := by omega
  have e1 : unpErr rs M = unpackE [] rs M := by unfold unpErr; rw [if_neg hneg, Int.toNat_natCast]
  have e2 : unpOut rs M = if unpackE [] rs M = 0 then spreads rs else [] := by unfold unpOut; rw [e1]
  have HE1 := Lib.hid e1
  have HE2 := Lib.hid e2
  obtain ⟨A, cp, rfl, hc1, hc2, _⟩ := h.form
  unfold maxLen at hc2
  have H := Lib.hid h
  clear h e1 e2 h1 h2 hneg
  go_enter Try.func11, Try.ntmps11
  go_wp2
  go_loopw [6, 15] (fun r c wr => ∃ k room : Nat, k ≤ rs.length ∧ c = .int .i64 k ∧ r = .int .u64 room ∧ Hid (unpackE [] rs M = unpackE (rs.take k) (rs.drop k) room) ∧ Hid ((spreads (rs.take k)).length + room = M) ∧ room ≤ M ∧ Below w.heap.size w wr)
    (fun _ c _ => rs.length - (intOf c).toNat)
  case atStart => exact ⟨0, M, by omega, rfl, rfl, rfl, (by show (spreads (rs.take 0)).length + M = M; simp [spreads]), by omega, Below.refl _ _⟩
  case round =>
    obtain ⟨k, room, hk, rfl, rfl, hU, hT, hroom, hb⟩ := hrel
    by_cases hlt : k < rs.length
    · have hki : (k : Int) < (rs.length : Int) := by omega
      have hg : rs[k]? = some rs[k] := List.getElem?_eq_getElem hlt
      obtain ⟨b, off, cp', hA, _, _, hcell⟩ := (H.out.later hb).elem (i := k) (by omega) (by omega)
      simp only [Value.slice.injEq] at hA
      obtain ⟨rfl, _, rfl⟩ := hA
      obtain ⟨g1, g2⟩ := cells2_get hg
      have c1 := hcell 0 _ (by omega) g1
      have c2 := hcell 1 _ (by omega) g2
      rw [Nat.add_zero] at c1
      have hst := unpack_step (room := room) hg
      have hpm := hm _ (List.getElem_mem hlt)
      have hsp := spreads_take hg
      generalize rs[k] = p at *
      obtain ⟨x, c⟩ := p
      simp only at c1 c2 hst hpm hsp
      have hF := fun w' (hs : SeqS w' 2 (.slice (some ⟨b, off, none⟩) rs.length cp) rs.length (cells2 rs)) => runsFits _ _ x c room w' (hs.front2 rfl (k := k) (by omega)) hpm.2 (by unfold M64; omega)
      have hok := fitE_ok (bef := rs.take k) (x := x) (c := c) (room := room)
      generalize fitE (rs.take k) x c room = E at *
      have hSL := (H.out.later hb).drew
      have hKeep : Hid (∀ a b' : World, Below a.heap.size a b' → (SeqS a 2 (.slice (some ⟨b, off, none⟩) rs.length cp) rs.length (cells2 rs) ∧ a.cell? ⟨b, off + k * 2, none⟩ = some (.int .u64 (x : Int)) ∧ a.cell? ⟨b, off + k * 2 + 1, none⟩ = some (.int .u64 (c : Int))) →
          (SeqS b' 2 (.slice (some ⟨b, off, none⟩) rs.length cp) rs.length (cells2 rs) ∧ b'.cell? ⟨b, off + k * 2, none⟩ = some (.int .u64 (x : Int)) ∧ b'.cell? ⟨b, off + k * 2 + 1, none⟩ = some (.int .u64 (c : Int)))) :=
        fun a b' hb h => ⟨h.1.later hb, cell_later h.2.1 hb, cell_later h.2.2 hb⟩
      have HC : Hid (∀ w', (SeqS w' 2 (.slice (some ⟨b, off, none⟩) rs.length cp) rs.length (cells2 rs) ∧ w'.cell? ⟨b, off + k * 2, none⟩ = some (.int .u64 (x : Int)) ∧ w'.cell? ⟨b, off + k * 2 + 1, none⟩ = some (.int .u64 (c : Int))) ∧ Below w.heap.size w w' ∧ w.heap.size ≤ w'.heap.size →
          Calls Try.prog 22 #[.slice (some ⟨b, off, none⟩) k cp, .agg #[.int .u64 x, .int .u64 c], .int .u64 room] w' fun e w2 => e = .returned (.int .i64 (E : Nat)) ∧ Below w'.heap.size w' w2) := fun w' h => hF w' h.1.1
      have hbd := hb.drew
      have hbs : w.heap.size ≤ wr.drew.heap.size := hb.size
      have HST := Lib.hid hst
      have HOK := Lib.hid hok
      have HSP := Lib.hid hsp
      have hkl : k ≤ rs.length := hk
      have hkcp : k ≤ cp := by omega
      have c1d : wr.drew.cell? ⟨b, off + k * 2, none⟩ = some (.int .u64 (x : Int)) := c1
      have c2d : wr.drew.cell? ⟨b, off + k * 2 + 1, none⟩ = some (.int .u64 (c : Int)) := c2
      clear hF hst hok hsp hcell g1 g2 hg c1 c2 hpm
      go_wp2_with fail
      try simp only [Act.put, List.setIfInBounds_toArray, List.set_cons_zero, List.set_cons_succ]
      refine wp_region_held_drew (S := fun w' => (SeqS w' 2 (.slice (some ⟨b, off, none⟩) rs.length cp) rs.length (cells2 rs) ∧ w'.cell? ⟨b, off + k * 2, none⟩ = some (.int .u64 (x : Int)) ∧ w'.cell? ⟨b, off + k * 2 + 1, none⟩ = some (.int .u64 (c : Int))) ∧ Below w.heap.size w w' ∧ w.heap.size ≤ w'.heap.size) (by kernel_rfl) ⟨⟨hSL, c1d, c2d⟩, hbd, hbs⟩ (fun hHeld => ?_)
      clear hSL c1d c2d hbd hbs
      refine wpAnyH_take (i := 0) (v := (.slice (some ⟨b, off, none⟩) rs.length cp)) rfl (by kernel_rfl) (by kernel_rfl) (by kernel_rfl) (fun _ _ _ h => h) (Or.inl ⟨by rfl, fun w h => by (simp only [List.getElem_toArray, List.getElem_cons_succ, List.getElem_cons_zero]; clear h; go_simp)⟩) (by assumption) ?_
      simp only [Act.put, List.getElem_toArray, List.getElem_cons_succ, List.getElem_cons_zero, List.setIfInBounds_toArray, List.set_cons_zero, List.set_cons_succ]
      refine wpAnyH_take (i := 1) (v := (.int .i64 k)) rfl (by kernel_rfl) (by kernel_rfl) (by kernel_rfl) (fun _ _ _ h => h) (Or.inl ⟨by rfl, fun w h => by (simp only [List.getElem_toArray, List.getElem_cons_succ, List.getElem_cons_zero]; clear h; go_simp)⟩) (by assumption) ?_
      simp only [Act.put, List.getElem_toArray, List.getElem_cons_succ, List.getElem_cons_zero, List.setIfInBounds_toArray, List.set_cons_zero, List.set_cons_succ]
      refine wpAnyH_take (i := 2) (v := (.slice (some ⟨b, off, none⟩) k cp)) rfl (by kernel_rfl) (by kernel_rfl) (by kernel_rfl) (fun _ _ _ h => h) (Or.inl ⟨by rfl, fun w h => by (simp only [List.getElem_toArray, List.getElem_cons_succ, List.getElem_cons_zero]; clear h; go_simp)⟩) (by assumption) ?_
      simp only [Act.put, List.getElem_toArray, List.getElem_cons_succ, List.getElem_cons_zero, List.setIfInBounds_toArray, List.set_cons_zero, List.set_cons_succ]
      refine wpAnyH_take (i := 3) (v := (.slice (some ⟨b, off, none⟩) rs.length cp)) rfl (by kernel_rfl) (by kernel_rfl) (by kernel_rfl) (fun _ _ _ h => h) (Or.inl ⟨by rfl, fun w h => by (simp only [List.getElem_toArray, List.getElem_cons_succ, List.getElem_cons_zero]; clear h; go_simp)⟩) (by assumption) ?_
      simp only [Act.put, List.getElem_toArray, List.getElem_cons_succ, List.getElem_cons_zero, List.setIfInBounds_toArray, List.set_cons_zero, List.set_cons_succ]
      refine wpAnyH_take (i := 4) (v := (.int .i64 k)) rfl (by kernel_rfl) (by kernel_rfl) (by kernel_rfl) (fun _ _ _ h => h) (Or.inl ⟨by rfl, fun w h => by (simp only [List.getElem_toArray, List.getElem_cons_succ, List.getElem_cons_zero]; clear h; go_simp)⟩) (by assumption) ?_
      simp only [Act.put, List.getElem_toArray, List.getElem_cons_succ, List.getElem_cons_zero, List.setIfInBounds_toArray, List.set_cons_zero, List.set_cons_succ]
      refine wpAnyH_take (i := 5) (v := (.pointer (some ⟨b, off + k * 2, none⟩))) rfl (by kernel_rfl) (by kernel_rfl) (by kernel_rfl) (fun _ _ _ h => h) (Or.inl ⟨by rfl, fun w h => by (simp only [List.getElem_toArray, List.getElem_cons_succ, List.getElem_cons_zero]; clear h; go_simp)⟩) (by assumption) ?_
      simp only [Act.put, List.getElem_toArray, List.getElem_cons_succ, List.getElem_cons_zero, List.setIfInBounds_toArray, List.set_cons_zero, List.set_cons_succ]
      refine wpAnyH_take (i := 6) (v := (.agg #[.int .u64 x, .int .u64 c])) rfl (by kernel_rfl) (by kernel_rfl) (by kernel_rfl) (fun _ _ _ h => h) (Or.inl ⟨by rfl, fun w h => by (simp only [List.getElem_toArray, List.getElem_cons_succ, List.getElem_cons_zero]; obtain ⟨⟨_, h1, h2⟩, _⟩ := h; go_simp)⟩) (by assumption) ?_
      simp only [Act.put, List.getElem_toArray, List.getElem_cons_succ, List.getElem_cons_zero, List.setIfInBounds_toArray, List.set_cons_zero, List.set_cons_succ]
      refine wpAnyH_take (i := 7) (v := (.int .u64 room)) rfl (by kernel_rfl) (by kernel_rfl) (by kernel_rfl) (fun _ _ _ h => h) (Or.inl ⟨by rfl, fun w h => by (simp only [List.getElem_toArray, List.getElem_cons_succ, List.getElem_cons_zero]; clear h; go_simp)⟩) (by assumption) ?_
      simp only [Act.put, List.getElem_toArray, List.getElem_cons_succ, List.getElem_cons_zero, List.setIfInBounds_toArray, List.set_cons_zero, List.set_cons_succ]
      refine wpAnyH_ready (rs := [8]) (by kernel_rfl) (by simp) ?_
      refine AllReadyH.cons rfl (fun K hK => ?_) AllReadyH.nil
      rw [if_pos (by rfl)]
      go_wp2_with fail
      refine (keep_callS hKeep.out (HC.out _ hHeld) (by assumption)).mono ?_
      rintro e w' ⟨he, q⟩
      cases he
      dsimp only
      refine hK.out _ _ q (fun hHeld => ?_)
      clear hK K
      try simp only [Act.put, List.setIfInBounds_toArray, List.set_cons_zero, List.set_cons_succ]
      refine wpAnyH_ready (rs := [9]) (by kernel_rfl) (by simp) ?_
      refine AllReadyH.cons rfl (fun K hK => ?_) AllReadyH.nil
      rw [if_pos (by rfl)]
      go_wp2_with fail
      refine hK.out _ _ (by assumption) (fun hHeld => ?_)
      clear hK K
      try simp only [Act.put, List.setIfInBounds_toArray, List.set_cons_zero, List.set_cons_succ]
      refine wpAnyH_done (by kernel_rfl) ?_ _
      obtain ⟨⟨hS, c1, c2⟩, hb, hbs⟩ := hHeld
      by_cases hE : E = 0
      · have hok := HOK.out hE
        have hst := HST.out
        rw [if_pos hE] at hst
        have hU' : Hid (unpackE [] rs M = unpackE (rs.take (k + 1)) (rs.drop (k + 1)) (room - c)) := hU.out.trans hst
        have hT' : Hid ((spreads (rs.take (k + 1))).length + (room - c) = M) := by
          show (spreads (rs.take (k + 1))).length + (room - c) = M
          have := hT.out
          rw [HSP.out, List.length_append, List.length_replicate]; omega
        subst hE
        have hcr : c ≤ room := hok.2.2
        have hsub : IntKind.u64.wrap ((room : Int) - (c : Int)) = ((room - c : Nat) : Int) := by rw [IntKind.wrap_u64]; omega
        clear hok hst hU hT HSP HST HOK hS
        go_wp2
        go_roundw
        case rel => exact ⟨k + 1, room - c, by omega, by go_num, by first | rfl | (rw [hsub]; done) | go_num, hU', hT', by omega, hb⟩
        case measure => simp [intOf]; omega
      · have hst := HST.out
        rw [if_neg hE] at hst
        have hUE : unpackE [] rs M = E := hU.out.trans hst
        have HUE : Hid (unpErr rs M = E) := HE1.out.trans hUE
        have HUO : Hid (unpOut rs M = []) := by show unpOut rs M = []; rw [HE2.out, hUE, if_neg hE]
        have e5 : ((E : Int) != 0) = true := by simp; omega
        clear hst hU hT HSP HST HOK hS hUE hE
        go_wp2
        go_ret2
        exact ⟨_, by rw [HUE.out]; rfl, by rw [HUO.out]; exact World.ownsRow_nil _ _ _ _, hb⟩
    · obtain rfl : k = rs.length := by omega
      have hU := hU.out
      rw [List.take_of_length_le (Nat.le_refl _), List.drop_of_length_le (Nat.le_refl _)] at hU
      have hT := hT.out
      rw [List.take_of_length_le (Nat.le_refl _)] at hT
      have hU2 : unpackE [] rs M = 0 := hU
      have HU2 : Hid (unpErr rs M = 0) := HE1.out.trans hU2
      have HUO : Hid (unpOut rs M = spreads rs) := by show unpOut rs M = _; rw [HE2.out, hU2, if_pos rfl]
      have hsp := fun w' hb => runsSpread _ rs w' (H.out.later hb) (by omega) hm
      have HSP := Lib.hid hsp
      clear hU hU2 hT hsp
      go_wp2_with fail
      refine (HSP.out _ hb).mono ?_
      rintro e w' ⟨v', rfl, ho, hb2⟩
      have ho := owns_mono ho hb.size
      go_wp2
      go_ret2
      exact ⟨_, by rw [HU2.out]; rfl, by rw [HUO.out]; exact ho, hb.trans (hb2.mono hb.size)⟩
end Go.Proofs.Ytjkgckdldmhgjaa
