import Derived.Test.YtahojmioonpodaaRgstate
import Derived.Deep.RegionHeld3
namespace Go.Proofs.Ytahojmioonpodaa
open Go.RowKit
set_option linter.unusedVariables false
set_option linter.unusedSimpArgs false
theorem Try.infoSlH : (Try.prog.info? 78).map (fun i => (i.zero, i.size, i.bytes)) = some (some (.agg #[.int .u64 0, .int .u64 0, .int .i64 0]), 3, 24) := by kernel_rfl
/-- What a ring's state may be as cells. -/
def Qsh (z : Array Value) : Prop := ∃ (v0 : Value) (A1 : Option Addr) (n1 c1 : Nat) (kb : Bool) (A3 : Option Addr) (n3 c3 : Nat), z = #[v0, .slice A1 n1 c1, .bool kb, .slice A3 n3 c3]
abbrev st4 (w : World) (b : Nat) (a0 a1 a2 a3 : Value) : World := (((w.setCell ⟨b, 0, none⟩ a0).setCell ⟨b, 1, none⟩ a1).setCell ⟨b, 2, none⟩ a2).setCell ⟨b, 3, none⟩ a3
theorem st4_lies {w : World} {b : Nat} {T : TypeId} {z0 z1 z2 z3 a0 a1 a2 a3 : Value} (h : Lies w b T #[z0, z1, z2, z3]) : Lies (st4 w b a0 a1 a2 a3) b T #[a0, a1, a2, a3] := (((h.put 0 a0).put 1 a1).put 2 a2).put 3 a3
theorem st4_kept (w : World) (b : Nat) (a0 a1 a2 a3 : Value) : Kept (oneRow b) w (st4 w b a0 a1 a2 a3) :=
  (((Kept.put w b 0 a0).trans (Kept.put _ b 1 a1) (fun _ _ h => h)).trans (Kept.put _ b 2 a2) (fun _ _ h => h)).trans (Kept.put _ b 3 a3) (fun _ _ h => h)
theorem st4_cells {w : World} {b : Nat} {T : TypeId} {z0 z1 z2 z3 a0 a1 a2 a3 : Value} (h : Lies w b T #[z0, z1, z2, z3]) :
    (st4 w b a0 a1 a2 a3).cell? ⟨b, 0, none⟩ = some a0 ∧ (st4 w b a0 a1 a2 a3).cell? ⟨b, 1, none⟩ = some a1 ∧ (st4 w b a0 a1 a2 a3).cell? ⟨b, 2, none⟩ = some a2 ∧ (st4 w b a0 a1 a2 a3).cell? ⟨b, 3, none⟩ = some a3 := by
  have lq := st4_lies (a0 := a0) (a1 := a1) (a2 := a2) (a3 := a3) h
  exact ⟨lq.cell 0, lq.cell 1, lq.cell 2, lq.cell 3⟩
def StS (w wc : World) (V : Array Value) : Prop := Below w.heap.size w wc ∧ Lies wc w.heap.size 38 V ∧ ∃ z : Array Value, Qsh z ∧ Lies wc (w.heap.size + 1) 42 z
section
variable {w a b : World} {V : Array Value}
theorem StS.alloc (h : StS w a V) (o : Obj) : StS w (a.alloc o) V := by
  obtain ⟨h1, h2, z, hz, h3⟩ := h
  exact ⟨h1.alloc h1.size o, h2.alloc o, z, hz, h3.alloc o⟩
theorem StS.lt (h : StS w a V) : w.heap.size + 1 < a.heap.size := by
  obtain ⟨h1, h2, z, hz, h3⟩ := h
  exact h3.lt
theorem StS.copy {q : Nat} (h : StS w a V) (hk : Kept (oneRow q) a b) (hq : w.heap.size + 1 < q) : StS w b V := by
  obtain ⟨h1, h2, z, hz, h3⟩ := h
  exact ⟨h1.trans (hk.below h1.size (fun j hj (e : j = q) => by omega)), h2.kept hk (fun (e : w.heap.size = q) => by omega), z, hz, h3.kept hk (fun (e : w.heap.size + 1 = q) => by omega)⟩
theorem StS.store (h : StS w a V) (a0 : Value) (A1 : Option Addr) (n1 c1 : Nat) (kb : Bool) (A3 : Option Addr) (n3 c3 : Nat) : StS w (st4 a (w.heap.size + 1) a0 (.slice A1 n1 c1) (.bool kb) (.slice A3 n3 c3)) V := by
  obtain ⟨h1, h2, z, hz, h3⟩ := h
  obtain ⟨z0, z1, z11, z12, z2, z3, z31, z32, rfl⟩ := hz
  exact ⟨h1.trans ((st4_kept _ _ _ _ _ _).below h1.size (fun j hj (e : j = _) => by omega)), h2.kept (st4_kept _ _ _ _ _ _) (fun (e : w.heap.size = w.heap.size + 1) => by omega), _, ⟨_, _, _, _, _, _, _, _, rfl⟩, st4_lies h3⟩
theorem sts_start (w : World) (V : Array Value) : StS w ((w.alloc (.cells V 38)).alloc (.cells stZ 42)).drew V := by
  have hb0 := (Below.refl w.heap.size w).alloc (Nat.le_refl _) (.cells V 38)
  have hb1 := hb0.alloc (by simp) (.cells stZ 42)
  have l0 := (Lies.made w 38 V).alloc (.cells stZ 42)
  have l1 := Lies.made (w.alloc (.cells V 38)) 42 stZ
  rw [World.size_alloc] at l1
  exact ⟨below_drewN hb1 1, Lies.drew l0, _, ⟨_, _, _, _, _, _, _, _, rfl⟩, Lies.drew l1⟩
end
theorem hd_newsS {w a : World} {R : Rg} {b9 o9 ch : Nat} (h : HdAt w R (some ⟨b9, o9, none⟩) ch) (hb : Below w.heap.size w a) : ∀ j u, (cellsH (R.h8.take R.rd))[j]? = some u → a.cell? ((⟨b9, o9, none⟩ : Addr).add j) = some u := by
  intro j u hu
  obtain ⟨b, o, e, _, hc⟩ := SeqAt.get h hb hu
  simp only [Option.some.injEq, Addr.mk.injEq, and_true] at e
  obtain ⟨rfl, rfl⟩ := e
  rw [addr_plus]; exact hc
theorem sl_newsS {w a : World} {L : List Sl} {b8 o8 n c : Nat} (h : SeqS w 3 (.slice (some ⟨b8, o8, none⟩) n c) n (rowsOf slF L)) (hb : Below w.heap.size w a) : ∀ j u, (rowsOf slF L)[j]? = some u → a.cell? ((⟨b8, o8, none⟩ : Addr).add j) = some u := by
  intro j u hu
  obtain ⟨_, A, c', e, _, _, _, hc⟩ := h.later hb
  simp only [Value.slice.injEq, Option.some.injEq] at e
  obtain ⟨rfl, _, _⟩ := e
  obtain ⟨b, o, e2, hc⟩ := hc j u hu
  simp only [Option.some.injEq, Addr.mk.injEq, and_true] at e2
  obtain ⟨rfl, rfl⟩ := e2
  rw [addr_plus]; exact hc
section
variable {w : World} {R : Rg} {Ah : Option Addr} {ch cs : Nat} {A : Addr}
set_option maxHeartbeats 8000000 in
set_option maxRecDepth 100000 in
theorem ref13State (hR : RgOk R) (h : HdAt w R Ah ch) (hs : SeqS w 3 (.slice (some A) R.L.length cs) R.L.length (rowsOf slF R.L)) :
    Calls Try.prog 16 #[.agg #[.int .u64 (R.cap : Int), .int .u64 (R.tail : Int), .slice Ah R.rd ch, .bool R.cl, .slice (some A) R.L.length cs, .int .i64 (R.rd : Int)]] w fun e w' =>
      ∃ A1 c1 A2 c2, e = .returned (.agg #[.int .u64 (R.tail : Int), .slice A1 R.rd c1, .bool R.cl, .slice A2 R.L.length c2]) ∧ SeqAt w' (.slice A1 R.rd c1) (cellsH (R.h8.take R.rd)) ∧ SeqS w' 3 (.slice A2 R.L.length c2) R.L.length (rowsOf slF R.L) ∧ Below w.heap.size w w' := by
  obtain ⟨b8, o8, rfl⟩ := seq_addr hs hR.2.1.1
  obtain ⟨i0, hi0, hz0, hz1, hz2⟩ := info_parts Try.infoH
  obtain ⟨j0, hj0, hy0, hy1, hy2⟩ := info_parts Try.infoSlH
  have hr1 := hR.2.1.2.2.1
  have hr2 := hR.2.1.2.2.2.1
  have hL1 := hR.2.1.1
  have hL2 := hR.2.1.2.1
  have h8 := hR.1
  obtain ⟨x0, hx0⟩ : ∃ x, R.h8[0]? = some x := ⟨_, List.getElem?_eq_getElem (by omega)⟩
  obtain ⟨b9, o9, rfl, _, _⟩ := h.get (Below.refl _ _) (by omega) hx0
  have S0 := Lib.hid (sts_start w (rgV R.cap R.tail (some ⟨b9, o9, none⟩) R.rd ch R.cl (some ⟨b8, o8, none⟩) R.L.length cs R.rd))
  have hsl : (cellsH (R.h8.take R.rd)).length = R.rd * 1 := by unfold cellsH; rw [List.length_map, List.length_take]; omega
  have hsr : (rowsOf slF R.L).length = R.L.length * 3 := rowsOf_length slF_length _
  have HSLL := Lib.hid hsl
  have HSRL := Lib.hid hsr
  have H := Lib.hid h
  have HS := Lib.hid hs
  clear h hs hx0 hsl hsr h8 hR
  go_enter Try.func16, Try.ntmps16
  go_wp2_with fail
  generalize hw1 : ((w.alloc (.cells (rgV R.cap R.tail (some ⟨b9, o9, none⟩) R.rd ch R.cl (some ⟨b8, o8, none⟩) R.L.length cs R.rd) 38)).alloc (.cells stZ 42)) = w1 at *
  clear hw1
  refine wp_region_held_drew (S := fun x => StS w x (rgV R.cap R.tail (some ⟨b9, o9, none⟩) R.rd ch R.cl (some ⟨b8, o8, none⟩) R.L.length cs R.rd)) (by kernel_rfl) S0.out (fun hHeld => ?_)
  try simp only [Act.put, List.setIfInBounds_toArray, List.set_cons_zero, List.set_cons_succ]
  clear S0
  generalize w1.drew = w2 at *
  refine wpAnyH_take (i := 0) (v := (.pointer (some ⟨w.heap.size, 1, none⟩))) rfl (by kernel_rfl) (by kernel_rfl) (by kernel_rfl) (fun _ _ _ h => h) (Or.inl ⟨by rfl, fun w h => by (simp only [List.getElem_toArray, List.getElem_cons_succ, List.getElem_cons_zero]; clear h; go_simp)⟩) (by assumption) ?_
  simp only [Act.put, List.getElem_toArray, List.getElem_cons_succ, List.getElem_cons_zero, List.setIfInBounds_toArray, List.set_cons_zero, List.set_cons_succ]
  refine wpAnyH_take (i := 1) (v := (.int .u64 (R.tail : Int))) rfl (by kernel_rfl) (by kernel_rfl) (by kernel_rfl) (fun _ _ _ h => h) (Or.inl ⟨by rfl, fun w h => by (simp only [List.getElem_toArray, List.getElem_cons_succ, List.getElem_cons_zero]; have h1 := h.2.1.cell 1; simp at h1; clear h; go_simp)⟩) (by assumption) ?_
  simp only [Act.put, List.getElem_toArray, List.getElem_cons_succ, List.getElem_cons_zero, List.setIfInBounds_toArray, List.set_cons_zero, List.set_cons_succ]
  refine wpAnyH_take (i := 3) (v := (.pointer (some ⟨w.heap.size, 2, none⟩))) rfl (by kernel_rfl) (by kernel_rfl) (by kernel_rfl) (fun _ _ _ h => h) (Or.inl ⟨by rfl, fun w h => by (simp only [List.getElem_toArray, List.getElem_cons_succ, List.getElem_cons_zero]; clear h; go_simp)⟩) (by assumption) ?_
  simp only [Act.put, List.getElem_toArray, List.getElem_cons_succ, List.getElem_cons_zero, List.setIfInBounds_toArray, List.set_cons_zero, List.set_cons_succ]
  refine wpAnyH_take (i := 4) (v := (.slice (some ⟨b9, o9, none⟩) R.rd ch)) rfl (by kernel_rfl) (by kernel_rfl) (by kernel_rfl) (fun _ _ _ h => h) (Or.inl ⟨by rfl, fun w h => by (simp only [List.getElem_toArray, List.getElem_cons_succ, List.getElem_cons_zero]; have h1 := h.2.1.cell 2; simp at h1; clear h; go_simp)⟩) (by assumption) ?_
  simp only [Act.put, List.getElem_toArray, List.getElem_cons_succ, List.getElem_cons_zero, List.setIfInBounds_toArray, List.set_cons_zero, List.set_cons_succ]
  refine wpAnyH_take (i := 6) (v := (.pointer (some ⟨w.heap.size, 3, none⟩))) rfl (by kernel_rfl) (by kernel_rfl) (by kernel_rfl) (fun _ _ _ h => h) (Or.inl ⟨by rfl, fun w h => by (simp only [List.getElem_toArray, List.getElem_cons_succ, List.getElem_cons_zero]; clear h; go_simp)⟩) (by assumption) ?_
  simp only [Act.put, List.getElem_toArray, List.getElem_cons_succ, List.getElem_cons_zero, List.setIfInBounds_toArray, List.set_cons_zero, List.set_cons_succ]
  refine wpAnyH_take (i := 7) (v := (.bool R.cl)) rfl (by kernel_rfl) (by kernel_rfl) (by kernel_rfl) (fun _ _ _ h => h) (Or.inl ⟨by rfl, fun w h => by (simp only [List.getElem_toArray, List.getElem_cons_succ, List.getElem_cons_zero]; have h1 := h.2.1.cell 3; simp at h1; clear h; go_simp)⟩) (by assumption) ?_
  simp only [Act.put, List.getElem_toArray, List.getElem_cons_succ, List.getElem_cons_zero, List.setIfInBounds_toArray, List.set_cons_zero, List.set_cons_succ]
  refine wpAnyH_take (i := 9) (v := (.pointer (some ⟨w.heap.size, 4, none⟩))) rfl (by kernel_rfl) (by kernel_rfl) (by kernel_rfl) (fun _ _ _ h => h) (Or.inl ⟨by rfl, fun w h => by (simp only [List.getElem_toArray, List.getElem_cons_succ, List.getElem_cons_zero]; clear h; go_simp)⟩) (by assumption) ?_
  simp only [Act.put, List.getElem_toArray, List.getElem_cons_succ, List.getElem_cons_zero, List.setIfInBounds_toArray, List.set_cons_zero, List.set_cons_succ]
  refine wpAnyH_take (i := 10) (v := (.pointer (some ⟨w.heap.size, 4, none⟩))) rfl (by kernel_rfl) (by kernel_rfl) (by kernel_rfl) (fun _ _ _ h => h) (Or.inl ⟨by rfl, fun w h => by (simp only [List.getElem_toArray, List.getElem_cons_succ, List.getElem_cons_zero]; clear h; go_simp)⟩) (by assumption) ?_
  simp only [Act.put, List.getElem_toArray, List.getElem_cons_succ, List.getElem_cons_zero, List.setIfInBounds_toArray, List.set_cons_zero, List.set_cons_succ]
  refine wpAnyH_take (i := 11) (v := (.slice (some ⟨b8, o8, none⟩) R.L.length cs)) rfl (by kernel_rfl) (by kernel_rfl) (by kernel_rfl) (fun _ _ _ h => h) (Or.inl ⟨by rfl, fun w h => by (simp only [List.getElem_toArray, List.getElem_cons_succ, List.getElem_cons_zero]; have h1 := h.2.1.cell 4; simp at h1; clear h; go_simp)⟩) (by assumption) ?_
  simp only [Act.put, List.getElem_toArray, List.getElem_cons_succ, List.getElem_cons_zero, List.setIfInBounds_toArray, List.set_cons_zero, List.set_cons_succ]
  refine wpAnyH_ready (rs := [2, 8]) (by kernel_rfl) (by simp) ?_
  refine AllReadyH.cons rfl (fun K hK => ?_) (AllReadyH.cons rfl (fun K hK => ?_) AllReadyH.nil)
  · rw [if_pos (by rfl)]
    go_wp2_with fail
    have hN := StS.alloc hHeld (.cells #[] 32)
    have LE1 := Lib.hid (Lies.made w2 32 #[])
    skip
    have hbz := hHeld.lt
    refine hK.out _ _ hN (fun _ => ?_)
    clear hK K hHeld
    try simp only [Act.put, List.setIfInBounds_toArray, List.set_cons_zero, List.set_cons_succ]
    generalize w2.alloc (.cells #[] 32) = w3 at *
    generalize w2.heap.size = b1 at *
    have hHeld := hN
    clear hN
    refine wpAnyH_ready (rs := [5, 8]) (by kernel_rfl) (by simp) ?_
    refine AllReadyH.cons rfl (fun K hK => ?_) (AllReadyH.cons rfl (fun K hK => ?_) AllReadyH.nil)
    · refine step_copy rfl (.tmp 5) (.tmp 7) 33 rfl 32 i0 (.int .u64 0) 1 8 Try.underlying33 hi0 hz0 hz1 hz2 rfl (by omega) _ rfl LE1.out ⟨b9, o9, none⟩ R.rd ch (cellsH (R.h8.take R.rd)) rfl HSLL.out (hd_newsS H.out hHeld.1) (cellsH_one _) (by omega) (by omega) (by omega) ?_
      intro gA kA w4 hoA hkA
      have hN := StS.copy hHeld hkA (by omega)
      skip
      have HOA := Lib.hid hoA
      refine hK.out _ _ hN (fun _ => ?_)
      clear hK K hHeld hoA hkA LE1
      try simp only [Act.put, List.setIfInBounds_toArray, List.set_cons_zero, List.set_cons_succ]
      have hHeld := hN
      clear hN
      refine wpAnyH_ready (rs := [8]) (by kernel_rfl) (by simp) ?_
      refine AllReadyH.cons rfl (fun K hK => ?_) AllReadyH.nil
      rw [if_pos (by rfl)]
      go_wp2_with fail
      have hN := StS.alloc hHeld (.cells #[] 78)
      have LE2 := Lib.hid (Lies.made w4 78 #[])
      (replace HOA := Lib.hid (owned_below HOA.out ((Below.refl _ _).alloc (Nat.le_refl _) (.cells #[] 78))))
      have hbz := hHeld.lt
      refine hK.out _ _ hN (fun _ => ?_)
      clear hK K hHeld
      try simp only [Act.put, List.setIfInBounds_toArray, List.set_cons_zero, List.set_cons_succ]
      generalize w4.alloc (.cells #[] 78) = w5 at *
      generalize w4.heap.size = b2 at *
      have hHeld := hN
      clear hN
      refine wpAnyH_ready (rs := [12]) (by kernel_rfl) (by simp) ?_
      refine AllReadyH.cons rfl (fun K hK => ?_) AllReadyH.nil
      refine step_copy rfl (.tmp 11) (.tmp 14) 34 rfl 78 j0 (.agg #[.int .u64 0, .int .u64 0, .int .i64 0]) 3 24 Try.underlying34 hj0 hy0 hy1 hy2 rfl (by omega) _ rfl LE2.out ⟨b8, o8, none⟩ R.L.length cs (rowsOf slF R.L) rfl HSRL.out (sl_newsS HS.out hHeld.1) (slF_one _) (by omega) (by omega) (by omega) ?_
      intro gB kB w6 hoB hkB
      have hN := StS.copy hHeld hkB (by omega)
      (replace HOA := Lib.hid (owns_kept HOA.out hkB (fun r cur _ hl (e : r = b2) => by subst e; exact absurd (hl.same LE2.out).1 (by decide))))
      have HOB := Lib.hid hoB
      refine hK.out _ _ hN (fun _ => ?_)
      clear hK K hHeld hoB hkB LE2
      try simp only [Act.put, List.setIfInBounds_toArray, List.set_cons_zero, List.set_cons_succ]
      have hHeld := hN
      clear hN
      refine wpAnyH_ready (rs := [13]) (by kernel_rfl) (by simp) ?_
      refine AllReadyH.cons rfl (fun K hK => ?_) AllReadyH.nil
      rw [if_pos (by rfl)]
      go_wp2_with fail
      refine hK.out _ _ hHeld (fun _ => ?_)
      clear hK K
      try simp only [Act.put, List.setIfInBounds_toArray, List.set_cons_zero, List.set_cons_succ]
      refine wpAnyH_ready (rs := [14]) (by kernel_rfl) (by simp) ?_
      refine AllReadyH.cons rfl (fun K hK => ?_) AllReadyH.nil
      rw [if_pos (by rfl)]
      obtain ⟨hb, hc, z, hz, hl⟩ := id hHeld
      obtain ⟨z0, z1, z11, z12, z2, z3, z31, z32, rfl⟩ := hz
      have d0 := hl.cell 0
      have d1 := hl.cell 1
      have d2 := hl.cell 2
      have d3 := hl.cell 3
      simp only [List.getElem?_toArray, List.getElem?_cons_zero, List.getElem?_cons_succ] at d0 d1 d2 d3
      have f0 := hl.free 0
      have f1 := hl.free 1
      have f2 := hl.free 2
      have f3 := hl.free 3
      obtain ⟨q0, q1, q2, q3⟩ := st4_cells (w := w6) (a0 := .int .u64 (R.tail : Int)) (a1 := .slice (some ⟨gA, 0, none⟩) R.rd kA) (a2 := .bool R.cl) (a3 := .slice (some ⟨gB, 0, none⟩) R.L.length kB) hl
      have HN2 := Lib.hid (hHeld.store (.int .u64 (R.tail : Int)) (some ⟨gA, 0, none⟩) R.rd kA R.cl (some ⟨gB, 0, none⟩) R.L.length kB)
      have hk := st4_kept w6 (w.heap.size + 1) (.int .u64 (R.tail : Int)) (.slice (some ⟨gA, 0, none⟩) R.rd kA) (.bool R.cl) (.slice (some ⟨gB, 0, none⟩) R.L.length kB)
      have HO2 := Lib.hid (SeqAt.of_owns (owns_kept HOA.out hk (fun r cur hv _ (e : r = w.heap.size + 1) => by have := (HOA.out.lt r hv).1; omega)))
      have HS2 := Lib.hid (SeqS.of_owns (owns_kept HOB.out hk (fun r cur hv _ (e : r = w.heap.size + 1) => by have := (HOB.out.lt r hv).1; omega)))
      clear hk hc hb HOA HOB hHeld
      go_wp2_with fail
      refine hK.out _ _ HN2.out (fun _ => ?_)
      clear hK K
      try simp only [Act.put, List.setIfInBounds_toArray, List.set_cons_zero, List.set_cons_succ]
      refine wpAnyH_done (by kernel_rfl) ?_ _
      go_wp2
      refine bodyPost_ret (v := .agg #[.int .u64 (R.tail : Int), .slice (some ⟨gA, 0, none⟩) R.rd kA, .bool R.cl, .slice (some ⟨gB, 0, none⟩) R.L.length kB]) (by simp [results, Try.results16, go_sem, q0, q1, q2, q3]) rfl ?_
      exact ⟨_, kA, _, kB, rfl, HO2.out, HS2.out, HN2.out.1⟩
    · rw [if_pos (by rfl)]
      go_wp2_with fail
      have hN := StS.alloc hHeld (.cells #[] 78)
      have LE2 := Lib.hid (Lies.made w3 78 #[])
      (replace LE1 := Lib.hid (Lies.alloc LE1.out (.cells #[] 78)))
      have hbz := hHeld.lt
      refine hK.out _ _ hN (fun _ => ?_)
      clear hK K hHeld
      try simp only [Act.put, List.setIfInBounds_toArray, List.set_cons_zero, List.set_cons_succ]
      generalize w3.alloc (.cells #[] 78) = w4 at *
      generalize w3.heap.size = b2 at *
      have hHeld := hN
      clear hN
      refine wpAnyH_ready (rs := [5]) (by kernel_rfl) (by simp) ?_
      refine AllReadyH.cons rfl (fun K hK => ?_) AllReadyH.nil
      refine step_copy rfl (.tmp 5) (.tmp 7) 33 rfl 32 i0 (.int .u64 0) 1 8 Try.underlying33 hi0 hz0 hz1 hz2 rfl (by omega) _ rfl LE1.out ⟨b9, o9, none⟩ R.rd ch (cellsH (R.h8.take R.rd)) rfl HSLL.out (hd_newsS H.out hHeld.1) (cellsH_one _) (by omega) (by omega) (by omega) ?_
      intro gA kA w5 hoA hkA
      have hN := StS.copy hHeld hkA (by omega)
      (replace LE2 := Lib.hid (Lies.kept LE2.out hkA (fun (e : b2 = b1) => by subst e; exact absurd (LE2.out.same LE1.out).1 (by decide))))
      have HOA := Lib.hid hoA
      refine hK.out _ _ hN (fun _ => ?_)
      clear hK K hHeld hoA hkA LE1
      try simp only [Act.put, List.setIfInBounds_toArray, List.set_cons_zero, List.set_cons_succ]
      have hHeld := hN
      clear hN
      refine wpAnyH_ready (rs := [12]) (by kernel_rfl) (by simp) ?_
      refine AllReadyH.cons rfl (fun K hK => ?_) AllReadyH.nil
      refine step_copy rfl (.tmp 11) (.tmp 14) 34 rfl 78 j0 (.agg #[.int .u64 0, .int .u64 0, .int .i64 0]) 3 24 Try.underlying34 hj0 hy0 hy1 hy2 rfl (by omega) _ rfl LE2.out ⟨b8, o8, none⟩ R.L.length cs (rowsOf slF R.L) rfl HSRL.out (sl_newsS HS.out hHeld.1) (slF_one _) (by omega) (by omega) (by omega) ?_
      intro gB kB w6 hoB hkB
      have hN := StS.copy hHeld hkB (by omega)
      (replace HOA := Lib.hid (owns_kept HOA.out hkB (fun r cur _ hl (e : r = b2) => by subst e; exact absurd (hl.same LE2.out).1 (by decide))))
      have HOB := Lib.hid hoB
      refine hK.out _ _ hN (fun _ => ?_)
      clear hK K hHeld hoB hkB LE2
      try simp only [Act.put, List.setIfInBounds_toArray, List.set_cons_zero, List.set_cons_succ]
      have hHeld := hN
      clear hN
      refine wpAnyH_ready (rs := [13]) (by kernel_rfl) (by simp) ?_
      refine AllReadyH.cons rfl (fun K hK => ?_) AllReadyH.nil
      rw [if_pos (by rfl)]
      go_wp2_with fail
      refine hK.out _ _ hHeld (fun _ => ?_)
      clear hK K
      try simp only [Act.put, List.setIfInBounds_toArray, List.set_cons_zero, List.set_cons_succ]
      refine wpAnyH_ready (rs := [14]) (by kernel_rfl) (by simp) ?_
      refine AllReadyH.cons rfl (fun K hK => ?_) AllReadyH.nil
      rw [if_pos (by rfl)]
      obtain ⟨hb, hc, z, hz, hl⟩ := id hHeld
      obtain ⟨z0, z1, z11, z12, z2, z3, z31, z32, rfl⟩ := hz
      have d0 := hl.cell 0
      have d1 := hl.cell 1
      have d2 := hl.cell 2
      have d3 := hl.cell 3
      simp only [List.getElem?_toArray, List.getElem?_cons_zero, List.getElem?_cons_succ] at d0 d1 d2 d3
      have f0 := hl.free 0
      have f1 := hl.free 1
      have f2 := hl.free 2
      have f3 := hl.free 3
      obtain ⟨q0, q1, q2, q3⟩ := st4_cells (w := w6) (a0 := .int .u64 (R.tail : Int)) (a1 := .slice (some ⟨gA, 0, none⟩) R.rd kA) (a2 := .bool R.cl) (a3 := .slice (some ⟨gB, 0, none⟩) R.L.length kB) hl
      have HN2 := Lib.hid (hHeld.store (.int .u64 (R.tail : Int)) (some ⟨gA, 0, none⟩) R.rd kA R.cl (some ⟨gB, 0, none⟩) R.L.length kB)
      have hk := st4_kept w6 (w.heap.size + 1) (.int .u64 (R.tail : Int)) (.slice (some ⟨gA, 0, none⟩) R.rd kA) (.bool R.cl) (.slice (some ⟨gB, 0, none⟩) R.L.length kB)
      have HO2 := Lib.hid (SeqAt.of_owns (owns_kept HOA.out hk (fun r cur hv _ (e : r = w.heap.size + 1) => by have := (HOA.out.lt r hv).1; omega)))
      have HS2 := Lib.hid (SeqS.of_owns (owns_kept HOB.out hk (fun r cur hv _ (e : r = w.heap.size + 1) => by have := (HOB.out.lt r hv).1; omega)))
      clear hk hc hb HOA HOB hHeld
      go_wp2_with fail
      refine hK.out _ _ HN2.out (fun _ => ?_)
      clear hK K
      try simp only [Act.put, List.setIfInBounds_toArray, List.set_cons_zero, List.set_cons_succ]
      refine wpAnyH_done (by kernel_rfl) ?_ _
      go_wp2
      refine bodyPost_ret (v := .agg #[.int .u64 (R.tail : Int), .slice (some ⟨gA, 0, none⟩) R.rd kA, .bool R.cl, .slice (some ⟨gB, 0, none⟩) R.L.length kB]) (by simp [results, Try.results16, go_sem, q0, q1, q2, q3]) rfl ?_
      exact ⟨_, kA, _, kB, rfl, HO2.out, HS2.out, HN2.out.1⟩
  · rw [if_pos (by rfl)]
    go_wp2_with fail
    have hN := StS.alloc hHeld (.cells #[] 78)
    have LE2 := Lib.hid (Lies.made w2 78 #[])
    skip
    have hbz := hHeld.lt
    refine hK.out _ _ hN (fun _ => ?_)
    clear hK K hHeld
    try simp only [Act.put, List.setIfInBounds_toArray, List.set_cons_zero, List.set_cons_succ]
    generalize w2.alloc (.cells #[] 78) = w3 at *
    generalize w2.heap.size = b2 at *
    have hHeld := hN
    clear hN
    refine wpAnyH_ready (rs := [2]) (by kernel_rfl) (by simp) ?_
    refine AllReadyH.cons rfl (fun K hK => ?_) AllReadyH.nil
    rw [if_pos (by rfl)]
    go_wp2_with fail
    have hN := StS.alloc hHeld (.cells #[] 32)
    have LE1 := Lib.hid (Lies.made w3 32 #[])
    (replace LE2 := Lib.hid (Lies.alloc LE2.out (.cells #[] 32)))
    have hbz := hHeld.lt
    refine hK.out _ _ hN (fun _ => ?_)
    clear hK K hHeld
    try simp only [Act.put, List.setIfInBounds_toArray, List.set_cons_zero, List.set_cons_succ]
    generalize w3.alloc (.cells #[] 32) = w4 at *
    generalize w3.heap.size = b1 at *
    have hHeld := hN
    clear hN
    refine wpAnyH_ready (rs := [5]) (by kernel_rfl) (by simp) ?_
    refine AllReadyH.cons rfl (fun K hK => ?_) AllReadyH.nil
    refine step_copy rfl (.tmp 5) (.tmp 7) 33 rfl 32 i0 (.int .u64 0) 1 8 Try.underlying33 hi0 hz0 hz1 hz2 rfl (by omega) _ rfl LE1.out ⟨b9, o9, none⟩ R.rd ch (cellsH (R.h8.take R.rd)) rfl HSLL.out (hd_newsS H.out hHeld.1) (cellsH_one _) (by omega) (by omega) (by omega) ?_
    intro gA kA w5 hoA hkA
    have hN := StS.copy hHeld hkA (by omega)
    (replace LE2 := Lib.hid (Lies.kept LE2.out hkA (fun (e : b2 = b1) => by subst e; exact absurd (LE2.out.same LE1.out).1 (by decide))))
    have HOA := Lib.hid hoA
    refine hK.out _ _ hN (fun _ => ?_)
    clear hK K hHeld hoA hkA LE1
    try simp only [Act.put, List.setIfInBounds_toArray, List.set_cons_zero, List.set_cons_succ]
    have hHeld := hN
    clear hN
    refine wpAnyH_ready (rs := [12]) (by kernel_rfl) (by simp) ?_
    refine AllReadyH.cons rfl (fun K hK => ?_) AllReadyH.nil
    refine step_copy rfl (.tmp 11) (.tmp 14) 34 rfl 78 j0 (.agg #[.int .u64 0, .int .u64 0, .int .i64 0]) 3 24 Try.underlying34 hj0 hy0 hy1 hy2 rfl (by omega) _ rfl LE2.out ⟨b8, o8, none⟩ R.L.length cs (rowsOf slF R.L) rfl HSRL.out (sl_newsS HS.out hHeld.1) (slF_one _) (by omega) (by omega) (by omega) ?_
    intro gB kB w6 hoB hkB
    have hN := StS.copy hHeld hkB (by omega)
    (replace HOA := Lib.hid (owns_kept HOA.out hkB (fun r cur _ hl (e : r = b2) => by subst e; exact absurd (hl.same LE2.out).1 (by decide))))
    have HOB := Lib.hid hoB
    refine hK.out _ _ hN (fun _ => ?_)
    clear hK K hHeld hoB hkB LE2
    try simp only [Act.put, List.setIfInBounds_toArray, List.set_cons_zero, List.set_cons_succ]
    have hHeld := hN
    clear hN
    refine wpAnyH_ready (rs := [13]) (by kernel_rfl) (by simp) ?_
    refine AllReadyH.cons rfl (fun K hK => ?_) AllReadyH.nil
    rw [if_pos (by rfl)]
    go_wp2_with fail
    refine hK.out _ _ hHeld (fun _ => ?_)
    clear hK K
    try simp only [Act.put, List.setIfInBounds_toArray, List.set_cons_zero, List.set_cons_succ]
    refine wpAnyH_ready (rs := [14]) (by kernel_rfl) (by simp) ?_
    refine AllReadyH.cons rfl (fun K hK => ?_) AllReadyH.nil
    rw [if_pos (by rfl)]
    obtain ⟨hb, hc, z, hz, hl⟩ := id hHeld
    obtain ⟨z0, z1, z11, z12, z2, z3, z31, z32, rfl⟩ := hz
    have d0 := hl.cell 0
    have d1 := hl.cell 1
    have d2 := hl.cell 2
    have d3 := hl.cell 3
    simp only [List.getElem?_toArray, List.getElem?_cons_zero, List.getElem?_cons_succ] at d0 d1 d2 d3
    have f0 := hl.free 0
    have f1 := hl.free 1
    have f2 := hl.free 2
    have f3 := hl.free 3
    obtain ⟨q0, q1, q2, q3⟩ := st4_cells (w := w6) (a0 := .int .u64 (R.tail : Int)) (a1 := .slice (some ⟨gA, 0, none⟩) R.rd kA) (a2 := .bool R.cl) (a3 := .slice (some ⟨gB, 0, none⟩) R.L.length kB) hl
    have HN2 := Lib.hid (hHeld.store (.int .u64 (R.tail : Int)) (some ⟨gA, 0, none⟩) R.rd kA R.cl (some ⟨gB, 0, none⟩) R.L.length kB)
    have hk := st4_kept w6 (w.heap.size + 1) (.int .u64 (R.tail : Int)) (.slice (some ⟨gA, 0, none⟩) R.rd kA) (.bool R.cl) (.slice (some ⟨gB, 0, none⟩) R.L.length kB)
    have HO2 := Lib.hid (SeqAt.of_owns (owns_kept HOA.out hk (fun r cur hv _ (e : r = w.heap.size + 1) => by have := (HOA.out.lt r hv).1; omega)))
    have HS2 := Lib.hid (SeqS.of_owns (owns_kept HOB.out hk (fun r cur hv _ (e : r = w.heap.size + 1) => by have := (HOB.out.lt r hv).1; omega)))
    clear hk hc hb HOA HOB hHeld
    go_wp2_with fail
    refine hK.out _ _ HN2.out (fun _ => ?_)
    clear hK K
    try simp only [Act.put, List.setIfInBounds_toArray, List.set_cons_zero, List.set_cons_succ]
    refine wpAnyH_done (by kernel_rfl) ?_ _
    go_wp2
    refine bodyPost_ret (v := .agg #[.int .u64 (R.tail : Int), .slice (some ⟨gA, 0, none⟩) R.rd kA, .bool R.cl, .slice (some ⟨gB, 0, none⟩) R.L.length kB]) (by simp [results, Try.results16, go_sem, q0, q1, q2, q3]) rfl ?_
    exact ⟨_, kA, _, kB, rfl, HO2.out, HS2.out, HN2.out.1⟩
end
end Go.Proofs.Ytahojmioonpodaa
