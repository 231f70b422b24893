import Derived.Test.YtahojmioonpodaaRgref5
import Derived.Deep.DeepCutAuto
import Derived.Deep.RegionHeld3
namespace Go.Proofs.Ytahojmioonpodaa
open Go.RowKit
set_option linter.unusedVariables false
set_option linter.unusedSimpArgs false
/-- What a document's ring may be as cells. -/
def Rsh (z : Array Value) : Prop := ∃ (v0 v1 : Value) (A2 : Option Addr) (n2 c2 : Nat) (kb : Bool) (A4 : Option Addr) (n4 c4 : Nat) (l5 : Int), z = #[v0, v1, .slice A2 n2 c2, .bool kb, .slice A4 n4 c4, .int .i64 l5]
theorem Rsh.size {z : Array Value} (h : Rsh z) : z.size = 6 := by
  obtain ⟨_, _, _, _, _, _, _, _, _, _, rfl⟩ := h
  rfl
/-- How memory stands within New: what is read, and the block of what is told. -/
def NwS (w wc : World) (k cap rd : Int) : Prop := Below w.heap.size w wc ∧ Lies wc w.heap.size 23 #[.int .i64 k, .int .i64 cap, .int .i64 rd] ∧ ∃ z : Array Value, Rsh z ∧ Lies wc (w.heap.size + 1) 38 z
section
variable {w a b : World} {k cap rd : Int}
theorem NwS.alloc (h : NwS w a k cap rd) (o : Obj) : NwS w (a.alloc o) k cap rd := by
  obtain ⟨h1, h2, z, hz, h3⟩ := h
  exact ⟨h1.alloc h1.size o, h2.alloc o, z, hz, h3.alloc o⟩
theorem NwS.later (h : NwS w a k cap rd) (hb : Below a.heap.size a b) : NwS w b k cap rd := by
  obtain ⟨h1, h2, z, hz, h3⟩ := h
  exact ⟨h1.trans (hb.mono h1.size), h2.below hb h2.lt, z, hz, h3.below hb h3.lt⟩
theorem NwS.lt (h : NwS w a k cap rd) : w.heap.size + 1 < a.heap.size := by
  obtain ⟨h1, h2, z, hz, h3⟩ := h
  exact h3.lt
theorem NwS.store (h : NwS w a k cap rd) (a0 a1 : Value) (A2 : Option Addr) (n2 c2 : Nat) (kb : Bool) (A4 : Option Addr) (n4 c4 : Nat) (l5 : Int) : NwS w (st6 a (w.heap.size + 1) a0 a1 (.slice A2 n2 c2) (.bool kb) (.slice A4 n4 c4) (.int .i64 l5)) k cap rd := by
  obtain ⟨h1, h2, z, hz, h3⟩ := h
  exact ⟨st6_below _ _ _ _ _ _ h1 (by omega), h2.kept (st6_kept _ _ _ _ _ _ _ _) (fun (e : w.heap.size = w.heap.size + 1) => by omega), _, ⟨_, _, _, _, _, _, _, _, _, _, rfl⟩, st6_lies h3 hz.size⟩
theorem nw_start (w : World) (k cap rd : Int) : NwS w ((w.alloc (.cells #[.int .i64 k, .int .i64 cap, .int .i64 rd] 23)).alloc (.cells rgZ 38)).drew k cap rd := by
  have hb0 := (Below.refl w.heap.size w).alloc (Nat.le_refl _) (.cells #[.int .i64 k, .int .i64 cap, .int .i64 rd] 23)
  have hb1 := hb0.alloc (by simp) (.cells rgZ 38)
  have l0 := (Lies.made w 23 #[.int .i64 k, .int .i64 cap, .int .i64 rd]).alloc (.cells rgZ 38)
  have l1 := Lies.made (w.alloc (.cells #[.int .i64 k, .int .i64 cap, .int .i64 rd] 23)) 38 rgZ
  rw [World.size_alloc] at l1
  exact ⟨below_drewN hb1 1, Lies.drew l0, _, ⟨_, _, _, _, _, _, _, _, _, _, rfl⟩, Lies.drew l1⟩
end
theorem cells_zero {cap rd : Nat} (h : rd ≤ 8) : cellsH ((newR cap rd).h8.take rd) = List.replicate rd (.int .u64 0) := by
  unfold newR cellsH
  rw [show [0, 0, 0, 0, 0, 0, 0, 0] = List.replicate 8 0 from rfl, List.take_replicate, List.map_replicate, Nat.min_eq_left h]; rfl
set_option maxHeartbeats 4000000 in
set_option maxRecDepth 100000 in
theorem ref13New (k : Int) (cap rd : Nat) (w : World) (h1 : 1 ≤ cap) (h2 : cap ≤ 64) (h3 : 1 ≤ rd) (h4 : rd ≤ 8) :
    Calls Try.prog 14 #[.agg #[.int .i64 k, .int .i64 (cap : Int), .int .i64 (rd : Int)]] w fun e w' =>
      ∃ Ah ch As cs, e = .returned (.agg #[.int .u64 (cap : Int), .int .u64 0, .slice Ah rd ch, .bool false, .slice As cap cs, .int .i64 (rd : Int)]) ∧ SeqAt w' (.slice Ah rd ch) (cellsH ((newR cap rd).h8.take rd)) ∧ SeqS w' 3 (.slice As cap cs) cap (rowsOf slF (newS cap)) ∧
        HdFrom w.heap.size Ah ∧ HdFrom w.heap.size As ∧ Below w.heap.size w w' := by
  have S0 := Lib.hid (nw_start w k cap rd)
  have hwc : IntKind.u64.wrap (cap : Int) = (cap : Int) := by rw [IntKind.wrap_u64]; omega
  have hmk := run_make_rowS (P := Try.prog) 33 32 (.int .u64 0) 1 8 Try.underlying33 Try.infoH .i64 .i64 rd (by omega) (by omega)
  have HNW := Lib.hid (fun w' => ref12New cap rd w' h2 h4)
  go_enter Try.func14, Try.ntmps14
  go_wp2_with fail
  generalize hw1 : ((w.alloc (.cells #[.int .i64 k, .int .i64 (cap : Int), .int .i64 (rd : Int)] 23)).alloc (.cells rgZ 38)) = w1 at *
  clear hw1
  refine wp_region_held_drew (S := fun x => NwS w x k cap rd) (by kernel_rfl) S0.out (fun hHeld => ?_)
  try simp only [Act.put, List.setIfInBounds_toArray, List.set_cons_zero, List.set_cons_succ]
  refine wpAnyH_take (i := 0) (v := (.pointer (some ⟨w.heap.size, 1, none⟩))) rfl (by kernel_rfl) (by kernel_rfl) (by kernel_rfl) (fun _ _ _ h => h) (Or.inl ⟨by rfl, fun w h => by (simp only [List.getElem_toArray, List.getElem_cons_succ, List.getElem_cons_zero]; clear h; go_simp)⟩) (by assumption) ?_
  simp only [Act.put, List.getElem_toArray, List.getElem_cons_succ, List.getElem_cons_zero, List.setIfInBounds_toArray, List.set_cons_zero, List.set_cons_succ]
  refine wpAnyH_take (i := 1) (v := (.int .i64 (cap : Int))) rfl (by kernel_rfl) (by kernel_rfl) (by kernel_rfl) (fun _ _ _ h => h) (Or.inl ⟨by rfl, fun w h => by (simp only [List.getElem_toArray, List.getElem_cons_succ, List.getElem_cons_zero]; have h1 := h.2.1.cell 1; simp at h1; clear h; go_simp)⟩) (by assumption) ?_
  simp only [Act.put, List.getElem_toArray, List.getElem_cons_succ, List.getElem_cons_zero, List.setIfInBounds_toArray, List.set_cons_zero, List.set_cons_succ]
  refine wpAnyH_take (i := 2) (v := (.int .u64 (cap : Int))) rfl (by kernel_rfl) (by kernel_rfl) (by kernel_rfl) (fun _ _ _ h => h) (Or.inl ⟨by rfl, fun w h => by (simp only [List.getElem_toArray, List.getElem_cons_succ, List.getElem_cons_zero]; clear h; go_simp)⟩) (by assumption) ?_
  simp only [Act.put, List.getElem_toArray, List.getElem_cons_succ, List.getElem_cons_zero, List.setIfInBounds_toArray, List.set_cons_zero, List.set_cons_succ]
  refine wpAnyH_take (i := 3) (v := (.pointer (some ⟨w.heap.size, 2, none⟩))) rfl (by kernel_rfl) (by kernel_rfl) (by kernel_rfl) (fun _ _ _ h => h) (Or.inl ⟨by rfl, fun w h => by (simp only [List.getElem_toArray, List.getElem_cons_succ, List.getElem_cons_zero]; clear h; go_simp)⟩) (by assumption) ?_
  simp only [Act.put, List.getElem_toArray, List.getElem_cons_succ, List.getElem_cons_zero, List.setIfInBounds_toArray, List.set_cons_zero, List.set_cons_succ]
  refine wpAnyH_take (i := 4) (v := (.int .i64 (rd : Int))) rfl (by kernel_rfl) (by kernel_rfl) (by kernel_rfl) (fun _ _ _ h => h) (Or.inl ⟨by rfl, fun w h => by (simp only [List.getElem_toArray, List.getElem_cons_succ, List.getElem_cons_zero]; have h1 := h.2.1.cell 2; simp at h1; clear h; go_simp)⟩) (by assumption) ?_
  simp only [Act.put, List.getElem_toArray, List.getElem_cons_succ, List.getElem_cons_zero, List.setIfInBounds_toArray, List.set_cons_zero, List.set_cons_succ]
  refine wpAnyH_take (i := 6) (v := (.pointer (some ⟨w.heap.size, 1, none⟩))) rfl (by kernel_rfl) (by kernel_rfl) (by kernel_rfl) (fun _ _ _ h => h) (Or.inl ⟨by rfl, fun w h => by (simp only [List.getElem_toArray, List.getElem_cons_succ, List.getElem_cons_zero]; clear h; go_simp)⟩) (by assumption) ?_
  simp only [Act.put, List.getElem_toArray, List.getElem_cons_succ, List.getElem_cons_zero, List.setIfInBounds_toArray, List.set_cons_zero, List.set_cons_succ]
  refine wpAnyH_take (i := 7) (v := (.int .i64 (cap : Int))) rfl (by kernel_rfl) (by kernel_rfl) (by kernel_rfl) (fun _ _ _ h => h) (Or.inl ⟨by rfl, fun w h => by (simp only [List.getElem_toArray, List.getElem_cons_succ, List.getElem_cons_zero]; have h1 := h.2.1.cell 1; simp at h1; clear h; go_simp)⟩) (by assumption) ?_
  simp only [Act.put, List.getElem_toArray, List.getElem_cons_succ, List.getElem_cons_zero, List.setIfInBounds_toArray, List.set_cons_zero, List.set_cons_succ]
  refine wpAnyH_take (i := 8) (v := (.pointer (some ⟨w.heap.size, 2, none⟩))) rfl (by kernel_rfl) (by kernel_rfl) (by kernel_rfl) (fun _ _ _ h => h) (Or.inl ⟨by rfl, fun w h => by (simp only [List.getElem_toArray, List.getElem_cons_succ, List.getElem_cons_zero]; clear h; go_simp)⟩) (by assumption) ?_
  simp only [Act.put, List.getElem_toArray, List.getElem_cons_succ, List.getElem_cons_zero, List.setIfInBounds_toArray, List.set_cons_zero, List.set_cons_succ]
  refine wpAnyH_take (i := 9) (v := (.int .i64 (rd : Int))) rfl (by kernel_rfl) (by kernel_rfl) (by kernel_rfl) (fun _ _ _ h => h) (Or.inl ⟨by rfl, fun w h => by (simp only [List.getElem_toArray, List.getElem_cons_succ, List.getElem_cons_zero]; have h1 := h.2.1.cell 2; simp at h1; clear h; go_simp)⟩) (by assumption) ?_
  simp only [Act.put, List.getElem_toArray, List.getElem_cons_succ, List.getElem_cons_zero, List.setIfInBounds_toArray, List.set_cons_zero, List.set_cons_succ]
  refine wpAnyH_ready (rs := [5, 10]) (by kernel_rfl) (by simp) ?_
  refine AllReadyH.cons rfl (fun K hK => ?_) (AllReadyH.cons rfl (fun K hK => ?_) AllReadyH.nil)
  · rw [if_pos (by rfl)]
    go_wp2_with fail
    have ho := owned_drewN (owned_made w1 32 (.int .u64 0) rfl rd (by unfold maxLen; omega)) 1
    have hN : NwS w (w1.alloc (.cells (madeCells #[.int .u64 0] rd) 32)).drew k cap rd := hHeld.alloc (.cells (madeCells #[.int .u64 0] rd) 32)
    refine hK.out _ _ hN (fun hHeld1 => ?_)
    clear hK K hN
    have hwz : w.heap.size + 1 < w1.heap.size := hHeld.lt
    clear hHeld
    try simp only [Act.put, List.setIfInBounds_toArray, List.set_cons_zero, List.set_cons_succ]
    have ho : (w1.alloc (.cells (madeCells #[.int .u64 0] rd) 32)).drew.ownsRow w1.heap.size 32 1 (.slice (some ⟨w1.heap.size, 0, none⟩) rd rd) rd (List.replicate rd (.int .u64 0)) := ho
    generalize (w1.alloc (.cells (madeCells #[.int .u64 0] rd) 32)).drew = wM at *
    generalize w1.heap.size = hq at *
    have hHeld := hHeld1
    clear hHeld1
    refine wpAnyH_ready (rs := [10]) (by kernel_rfl) (by simp) ?_
    refine AllReadyH.cons rfl (fun K hK => ?_) AllReadyH.nil
    rw [if_pos (by rfl)]
    go_wp2_with fail
    refine (HNW.out _).mono ?_
    rintro e wB ⟨v, rfl, ⟨As, cs, hv, hsq⟩, hbB, hfr⟩
    replace ho := owned_below ho hbB
    rw [newS_length] at hv hsq
    subst hv
    dsimp only
    have hAs : HdFrom w.heap.size As := by
      obtain ⟨A', n', c', R', e', hf⟩ := hfr
      simp only [Value.agg.injEq, Array.mk.injEq, List.cons.injEq, Value.slice.injEq] at e'
      obtain ⟨⟨rfl, _⟩, _⟩ := e'
      intro b o e
      have := hf b o e
      have := hHeld.1.size
      omega
    have hN := hHeld.later hbB
    refine hK.out _ _ hN (fun hHeld2 => ?_)
    clear hK K hN hfr hHeld
    try simp only [Act.put, List.setIfInBounds_toArray, List.set_cons_zero, List.set_cons_succ]
    refine wpAnyH_ready (rs := [11]) (by kernel_rfl) (by simp) ?_
    refine AllReadyH.cons rfl (fun K hK => ?_) AllReadyH.nil
    rw [if_pos (by rfl)]
    go_wp2_with fail
    refine hK.out _ _ hHeld2 (fun hHeld3 => ?_)
    clear hK K
    try simp only [Act.put, List.setIfInBounds_toArray, List.set_cons_zero, List.set_cons_succ]
    refine wpAnyH_ready (rs := [12]) (by kernel_rfl) (by simp) ?_
    refine AllReadyH.cons rfl (fun K hK => ?_) AllReadyH.nil
    rw [if_pos (by rfl)]
    obtain ⟨hb, hc, z, hz, hl⟩ := id hHeld3
    obtain ⟨z0, z1, z2, z21, z22, z3, z4, z41, z42, z5, rfl⟩ := hz
    have d0 := hl.cell 0
    have d1 := hl.cell 1
    have d2 := hl.cell 2
    have d3 := hl.cell 3
    have d4 := hl.cell 4
    have d5 := hl.cell 5
    simp only [List.getElem?_toArray, List.getElem?_cons_zero, List.getElem?_cons_succ] at d0 d1 d2 d3 d4 d5
    have f0 := hl.free 0
    have f1 := hl.free 1
    have f2 := hl.free 2
    have f3 := hl.free 3
    have f4 := hl.free 4
    have f5 := hl.free 5
    obtain ⟨q0, q1, q2, q3, q4, q5⟩ := st6_cells (w := wB) (a0 := .int .u64 (cap : Int)) (a1 := .int .u64 0) (a2 := .slice (some ⟨hq, 0, none⟩) rd rd) (a3 := .bool false) (a4 := .slice As cap cs) (a5 := .int .i64 (rd : Int)) hl rfl
    have HN2 := Lib.hid (hHeld3.store (.int .u64 (cap : Int)) (.int .u64 0) (some ⟨hq, 0, none⟩) rd rd false As cap cs (rd : Int))
    have hk := st6_kept wB (w.heap.size + 1) (.int .u64 (cap : Int)) (.int .u64 0) (.slice (some ⟨hq, 0, none⟩) rd rd) (.bool false) (.slice As cap cs) (.int .i64 (rd : Int))
    have HO2 := Lib.hid (SeqAt.of_owns (owns_kept ho hk (fun r cur hv _ (e : r = w.heap.size + 1) => by have := (ho.lt r hv).1; omega)))
    have HS2 := Lib.hid (hsq.keptT hk (fun b c o e => by
      simp only [Value.slice.injEq, true_and] at e
      intro (e2 : b = w.heap.size + 1)
      subst e2
      rw [e.1] at hsq
      exact r13_ne hl hsq (by rw [newS_length]; exact h1) rfl))
    clear hk hc ho hsq hb hHeld2
    go_wp2_with fail
    refine hK.out _ _ HN2.out (fun _ => ?_)
    clear hK K
    try simp only [Act.put, List.setIfInBounds_toArray, List.set_cons_zero, List.set_cons_succ]
    refine wpAnyH_done (by kernel_rfl) ?_ _
    go_wp2
    refine bodyPost_ret (v := .agg #[.int .u64 (cap : Int), .int .u64 0, .slice (some ⟨hq, 0, none⟩) rd rd, .bool false, .slice As cap cs, .int .i64 (rd : Int)]) (by simp [results, Try.results14, go_sem, q0, q1, q2, q3, q4, q5]) rfl ?_
    exact ⟨_, rd, As, cs, rfl, by rw [cells_zero h4]; exact HO2.out, HS2.out, fun b o e => by simp only [Option.some.injEq, Addr.mk.injEq] at e; omega, hAs, HN2.out.1⟩
  · rw [if_pos (by rfl)]
    go_wp2_with fail
    refine (HNW.out _).mono ?_
    rintro e wB ⟨v, rfl, ⟨As, cs, hv, hsq⟩, hbB, hfr⟩
    rw [newS_length] at hv hsq
    subst hv
    dsimp only
    have hAs : HdFrom w.heap.size As := by
      obtain ⟨A', n', c', R', e', hf⟩ := hfr
      simp only [Value.agg.injEq, Array.mk.injEq, List.cons.injEq, Value.slice.injEq] at e'
      obtain ⟨⟨rfl, _⟩, _⟩ := e'
      intro b o e
      have := hf b o e
      have := hHeld.1.size
      omega
    have hN := hHeld.later hbB
    refine hK.out _ _ hN (fun hHeld2 => ?_)
    clear hK K hN hfr hHeld
    try simp only [Act.put, List.setIfInBounds_toArray, List.set_cons_zero, List.set_cons_succ]
    refine wpAnyH_ready (rs := [5]) (by kernel_rfl) (by simp) ?_
    refine AllReadyH.cons rfl (fun K hK => ?_) AllReadyH.nil
    rw [if_pos (by rfl)]
    go_wp2_with fail
    have hwz : w.heap.size + 1 < wB.heap.size := hHeld2.lt
    have ho := owned_made wB 32 (.int .u64 0) rfl rd (by unfold maxLen; omega)
    have hsq := hsq.later ((Below.refl _ _).alloc (Nat.le_refl _) (.cells (madeCells #[.int .u64 0] rd) 32))
    have hN := hHeld2.alloc (.cells (madeCells #[.int .u64 0] rd) 32)
    refine hK.out _ _ hN (fun hHeld1 => ?_)
    clear hK K hN hHeld2 hbB
    try simp only [Act.put, List.setIfInBounds_toArray, List.set_cons_zero, List.set_cons_succ]
    generalize wB.alloc (.cells (madeCells #[.int .u64 0] rd) 32) = wM at *
    generalize wB.heap.size = hq at *
    have hHeld2 := hHeld1
    clear hHeld1
    refine wpAnyH_ready (rs := [11]) (by kernel_rfl) (by simp) ?_
    refine AllReadyH.cons rfl (fun K hK => ?_) AllReadyH.nil
    rw [if_pos (by rfl)]
    go_wp2_with fail
    refine hK.out _ _ hHeld2 (fun hHeld3 => ?_)
    clear hK K
    try simp only [Act.put, List.setIfInBounds_toArray, List.set_cons_zero, List.set_cons_succ]
    refine wpAnyH_ready (rs := [12]) (by kernel_rfl) (by simp) ?_
    refine AllReadyH.cons rfl (fun K hK => ?_) AllReadyH.nil
    rw [if_pos (by rfl)]
    obtain ⟨hb, hc, z, hz, hl⟩ := id hHeld3
    obtain ⟨z0, z1, z2, z21, z22, z3, z4, z41, z42, z5, rfl⟩ := hz
    have d0 := hl.cell 0
    have d1 := hl.cell 1
    have d2 := hl.cell 2
    have d3 := hl.cell 3
    have d4 := hl.cell 4
    have d5 := hl.cell 5
    simp only [List.getElem?_toArray, List.getElem?_cons_zero, List.getElem?_cons_succ] at d0 d1 d2 d3 d4 d5
    have f0 := hl.free 0
    have f1 := hl.free 1
    have f2 := hl.free 2
    have f3 := hl.free 3
    have f4 := hl.free 4
    have f5 := hl.free 5
    obtain ⟨q0, q1, q2, q3, q4, q5⟩ := st6_cells (w := wM) (a0 := .int .u64 (cap : Int)) (a1 := .int .u64 0) (a2 := .slice (some ⟨hq, 0, none⟩) rd rd) (a3 := .bool false) (a4 := .slice As cap cs) (a5 := .int .i64 (rd : Int)) hl rfl
    have HN2 := Lib.hid (hHeld3.store (.int .u64 (cap : Int)) (.int .u64 0) (some ⟨hq, 0, none⟩) rd rd false As cap cs (rd : Int))
    have hk := st6_kept wM (w.heap.size + 1) (.int .u64 (cap : Int)) (.int .u64 0) (.slice (some ⟨hq, 0, none⟩) rd rd) (.bool false) (.slice As cap cs) (.int .i64 (rd : Int))
    have HO2 := Lib.hid (SeqAt.of_owns (owns_kept ho hk (fun r cur hv _ (e : r = w.heap.size + 1) => by have := (ho.lt r hv).1; omega)))
    have HS2 := Lib.hid (hsq.keptT hk (fun b c o e => by
      simp only [Value.slice.injEq, true_and] at e
      intro (e2 : b = w.heap.size + 1)
      subst e2
      rw [e.1] at hsq
      exact r13_ne hl hsq (by rw [newS_length]; exact h1) rfl))
    clear hk hc ho hsq hb hHeld2
    go_wp2_with fail
    refine hK.out _ _ HN2.out (fun _ => ?_)
    clear hK K
    try simp only [Act.put, List.setIfInBounds_toArray, List.set_cons_zero, List.set_cons_succ]
    refine wpAnyH_done (by kernel_rfl) ?_ _
    go_wp2
    refine bodyPost_ret (v := .agg #[.int .u64 (cap : Int), .int .u64 0, .slice (some ⟨hq, 0, none⟩) rd rd, .bool false, .slice As cap cs, .int .i64 (rd : Int)]) (by simp [results, Try.results14, go_sem, q0, q1, q2, q3, q4, q5]) rfl ?_
    exact ⟨_, rd, As, cs, rfl, by rw [cells_zero h4]; exact HO2.out, HS2.out, fun b o e => by simp only [Option.some.injEq, Addr.mk.injEq] at e; omega, hAs, HN2.out.1⟩
end Go.Proofs.Ytahojmioonpodaa
