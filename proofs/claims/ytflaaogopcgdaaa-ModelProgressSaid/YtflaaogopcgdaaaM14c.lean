/-
  The document's log: made, and what is left.
-/
import Derived.Test.YtflaaogopcgdaaaM14b
import Derived.Test.YtflaaogopcgdaaaOwn
import Derived.Deep.RegionHeld3
namespace Go.Proofs.Ytflaaogopcgdaaa
open Go.RowKit
set_option linter.unusedVariables false
set_option linter.unusedSimpArgs false
theorem seq_drop {w : World} {A : Option Addr} {n c : Nat} {xs : List Value} (h : SeqAt w (.slice A n c) xs) (k : Nat) (hk : k ≤ n) : SeqAt w (.slice (if c = k then A else A.map (fun x => x.add k)) (n - k) (c - k)) (xs.drop k) := by
  obtain ⟨A', c', e, h1, h2, h3⟩ := h
  simp only [Value.slice.injEq] at e
  obtain ⟨rfl, rfl, rfl⟩ := e
  refine ⟨_, c - k, by rw [List.length_drop], by rw [List.length_drop]; omega, by omega, fun i u hu => ?_⟩
  rw [List.getElem?_drop] at hu
  obtain ⟨b, off, rfl, hc⟩ := h3 _ u hu
  have hl := (List.getElem?_eq_some_iff.1 hu).1
  refine ⟨b, off + k, ?_, by rw [Nat.add_assoc]; exact hc⟩
  rw [if_neg (by omega)]
  simp only [Option.map_some]
  rw [addr_plus]
section
variable {w : World} {M : Md} {L : List Int} {AL AG : Option Addr} {cL cG : Nat}
set_option maxHeartbeats 4000000 in
theorem r14Rest (j : Int) (hM : MdOk M) (hall : AllOk M L) (hS : SeqAt w (.slice AL L.length cL) (vals L)) (hG : SeqAt w (.slice AG M.G.length cG) (cellsI M.G)) (hLL : L.length ≤ 1000) :
    Calls Try.prog 20 #[.agg #[.int .i64 (M.cap : Int), .slice AL L.length cL, .slice AG M.G.length cG, .bool M.cl], .int .i64 j] w fun e w' =>
      ∃ A c, e = .returned (.slice A (leftM M j).length c) ∧ SeqAt w' (.slice A (leftM M j).length c) (vals (leftM M j)) ∧ Below w.heap.size w w' := by
  have hb1 := (Below.refl w.heap.size w).alloc (Nat.le_refl _) (.cells (m4V M.cap AL L.length cL AG M.G.length cG M.cl) 34)
  have l0 := Lies.made w 34 (m4V M.cap AL L.length cL AG M.G.length cG M.cl)
  have c1 := (l0.cell 1).trans (show _ = some (Value.slice AL L.length cL) from rfl)
  have c2 := (l0.cell 2).trans (show _ = some (Value.slice AG M.G.length cG) from rfl)
  have hlt := l0.lt
  have HB1 := Lib.hid hb1
  cases hr : readsM M j
  · have HL : Hid (leftM M j = []) := by show _ = _; unfold leftM; rw [hr, if_neg (by decide)]
    have hn := of_decide_eq_false hr
    clear hM hall hS hG hb1 hr l0
    by_cases j0 : j < 0
    · clear hn
      go_enter Try.func20, Try.ntmps20
      go_wp2
      go_ret
      exact ⟨none, 0, by rw [HL.out]; rfl, by rw [HL.out]; exact (OwnsOff.nil _ 0 0).seq, HB1.out⟩
    · have jr : (M.G.length : Int) ≤ j := by omega
      clear hn
      go_enter Try.func20, Try.ntmps20
      go_wp2
      go_ret
      exact ⟨none, 0, by rw [HL.out]; rfl, by rw [HL.out]; exact (OwnsOff.nil _ 0 0).seq, HB1.out⟩
  · obtain ⟨g1, g2⟩ := got_get hr
    obtain ⟨t1, _, _⟩ := got_all hall hM hr
    have hLe : leftM M j = L.drop (gotM M j) := by
      obtain ⟨b1, b2⟩ := hM.2.2.2.2.2.1 _ (List.mem_of_getElem? g1)
      unfold leftM restM
      rw [hr, if_pos rfl, ← hall.2, List.drop_drop]; congr 1; omega
    have h8 := hM.2.2.2.1
    obtain ⟨m, rfl⟩ : ∃ m : Nat, j = m := ⟨j.toNat, by have := of_decide_eq_true hr; omega⟩
    rw [Int.toNat_natCast] at g1 g2
    have hm : (m : Int) < (M.G.length : Int) := by omega
    obtain ⟨bG, oG, rfl, _, dk⟩ := hG.get hb1 (cellsI_get g1)
    have hsd := seq_drop (hS.later_ hb1) (gotM M m) t1
    rw [vals_drop, ← hLe] at hsd
    have hln : (leftM M m).length = L.length - gotM M m := by rw [hLe, List.length_drop]
    obtain ⟨N, hNN⟩ : ∃ N, gotM M m = N := ⟨_, rfl⟩
    rw [hNN] at dk t1 hsd hln
    obtain ⟨A5, hA5⟩ : ∃ A5, (if cL = N then AL else AL.map (fun x => x.add N)) = A5 := ⟨_, rfl⟩
    rw [hA5] at hsd
    obtain ⟨_, _, e6, hc6, hc7, _⟩ := hS
    rw [vals_length] at e6 hc6
    simp only [Value.slice.injEq, true_and] at e6
    obtain ⟨rfl, rfl⟩ := e6
    unfold maxLen at hc7
    have HSD := Lib.hid hsd
    have HLN := Lib.hid hln
    clear hM hall hG hb1 hr l0 g1 hNN hLe hsd hln
    go_enter Try.func20, Try.ntmps20
    go_wp2_with fail
    go_quiet (fail)
    go_wp2
    go_ret
    exact ⟨A5, cL - N, by rw [HLN.out]; rfl, by rw [HLN.out]; exact HSD.out, below_drewN HB1.out _⟩
end
def Nw4 (w y : World) (k cap rd : Int) : Prop := Below w.heap.size w y ∧ Lies y w.heap.size 23 #[.int .i64 k, .int .i64 cap, .int .i64 rd] ∧ ∃ z : Array Value, z.size = 4 ∧ Lies y (w.heap.size + 1) 34 z
theorem Nw4.alloc {w y : World} {k cap rd : Int} (h : Nw4 w y k cap rd) (o : Obj) : Nw4 w (y.alloc o) k cap rd := by
  obtain ⟨a, b, z, c, d⟩ := h
  exact ⟨a.alloc a.size o, b.alloc o, z, c, d.alloc o⟩
theorem Nw4.store {w y : World} {k cap rd : Int} (h : Nw4 w y k cap rd) (a0 a1 a2 a3 : Value) : Nw4 w (stf y (w.heap.size + 1) a0 a1 a2 a3) k cap rd := by
  obtain ⟨a, b, z, c, d⟩ := h
  have hk := stf_kept y (w.heap.size + 1) a0 a1 a2 a3
  exact ⟨a.trans (hk.below a.size (fun j hj (e : j = w.heap.size + 1) => by omega)), b.kept hk (fun (e : w.heap.size = w.heap.size + 1) => by omega), _, rfl, stf_lies d c⟩
set_option maxHeartbeats 4000000 in
set_option maxRecDepth 100000 in
theorem r14New (k : Int) (cap rd : Nat) (w : World) (h4 : rd ≤ 8) :
    Calls Try.prog 12 #[.agg #[.int .i64 k, .int .i64 (cap : Int), .int .i64 (rd : Int)]] w fun e w' =>
      ∃ AG, e = .returned (.agg #[.int .i64 (cap : Int), .slice none 0 0, .slice AG rd rd, .bool false]) ∧ SeqAt w' (.slice AG rd rd) (cellsI (newM cap rd).G) ∧ NewAt w w' none AG ∧ Below w.heap.size w w' := by
  have hb0 := (Below.refl w.heap.size w).alloc (Nat.le_refl _) (.cells #[.int .i64 k, .int .i64 (cap : Int), .int .i64 (rd : Int)] 23)
  have hb1 := hb0.alloc (by simp) (.cells m4Z 34)
  have l0 := (Lies.made w 23 #[.int .i64 k, .int .i64 (cap : Int), .int .i64 (rd : Int)]).alloc (.cells m4Z 34)
  have l1 := Lies.made (w.alloc (.cells #[.int .i64 k, .int .i64 (cap : Int), .int .i64 (rd : Int)] 23)) 34 m4Z
  rw [World.size_alloc] at l1
  have S0 : Hid (Nw4 w ((w.alloc (.cells #[.int .i64 k, .int .i64 (cap : Int), .int .i64 (rd : Int)] 23)).alloc (.cells m4Z 34)).drew k cap rd) := ⟨below_drewN hb1 1, Lies.drew l0, m4Z, rfl, Lies.drew l1⟩
  have hmk := run_make_rowS (P := Try.prog) 32 3 (.int .i64 0) 1 8 Try.underlying32 Try.infoI64 .i64 .i64 rd (by omega) (by omega)
  have HCI : Hid (cellsI (newM cap rd).G = List.replicate rd (.int .i64 0)) := by show _ = _; unfold newM cellsI; simp
  clear hb0 hb1 l0 l1
  go_enter Try.func12, Try.ntmps12
  go_wp2_with fail
  refine wp_region_held_drew (S := fun y => Nw4 w y k cap rd) (by kernel_rfl) S0.out (fun hHeld => ?_)
  try simp only [Act.put, List.setIfInBounds_toArray, List.set_cons_zero, List.set_cons_succ]
  clear S0
  generalize ((w.alloc (.cells #[.int .i64 k, .int .i64 (cap : Int), .int .i64 (rd : Int)] 23)).alloc (.cells m4Z 34)).drew = w1 at *
  refine wpAnyH_take (i := 0) (v := (.pointer (some ⟨w.heap.size, 1, none⟩))) rfl (by kernel_rfl) (by kernel_rfl) (by kernel_rfl) (fun _ _ _ h => h) (Or.inl ⟨by rfl, fun w h => by (simp only [List.getElem_toArray, List.getElem_cons_succ, List.getElem_cons_zero]; clear h; go_simp)⟩) (by assumption) ?_
  simp only [Act.put, List.getElem_toArray, List.getElem_cons_succ, List.getElem_cons_zero, List.setIfInBounds_toArray, List.set_cons_zero, List.set_cons_succ]
  refine wpAnyH_take (i := 1) (v := (.int .i64 (cap : Int))) rfl (by kernel_rfl) (by kernel_rfl) (by kernel_rfl) (fun _ _ _ h => h) (Or.inl ⟨by rfl, fun w h => by (simp only [List.getElem_toArray, List.getElem_cons_succ, List.getElem_cons_zero]; have h1 := h.2.1.cell 1; simp at h1; clear h; go_simp)⟩) (by assumption) ?_
  simp only [Act.put, List.getElem_toArray, List.getElem_cons_succ, List.getElem_cons_zero, List.setIfInBounds_toArray, List.set_cons_zero, List.set_cons_succ]
  refine wpAnyH_take (i := 2) (v := (.pointer (some ⟨w.heap.size, 2, none⟩))) rfl (by kernel_rfl) (by kernel_rfl) (by kernel_rfl) (fun _ _ _ h => h) (Or.inl ⟨by rfl, fun w h => by (simp only [List.getElem_toArray, List.getElem_cons_succ, List.getElem_cons_zero]; clear h; go_simp)⟩) (by assumption) ?_
  simp only [Act.put, List.getElem_toArray, List.getElem_cons_succ, List.getElem_cons_zero, List.setIfInBounds_toArray, List.set_cons_zero, List.set_cons_succ]
  refine wpAnyH_take (i := 3) (v := (.int .i64 (rd : Int))) rfl (by kernel_rfl) (by kernel_rfl) (by kernel_rfl) (fun _ _ _ h => h) (Or.inl ⟨by rfl, fun w h => by (simp only [List.getElem_toArray, List.getElem_cons_succ, List.getElem_cons_zero]; have h1 := h.2.1.cell 2; simp at h1; clear h; go_simp)⟩) (by assumption) ?_
  simp only [Act.put, List.getElem_toArray, List.getElem_cons_succ, List.getElem_cons_zero, List.setIfInBounds_toArray, List.set_cons_zero, List.set_cons_succ]
  refine wpAnyH_ready (rs := [4]) (by kernel_rfl) (by simp) ?_
  refine AllReadyH.cons rfl (fun K hK => ?_) AllReadyH.nil
  rw [if_pos (by rfl)]
  go_wp2_with fail
  have ho := owned_made w1 3 (.int .i64 0) rfl rd (by unfold maxLen; omega)
  have hN := hHeld.alloc (.cells (madeCells #[.int .i64 0] rd) 3)
  have hwz := hHeld.2.2
  obtain ⟨z9, _, hlz⟩ := hwz
  have hwz := hlz.lt
  refine hK.out _ _ hN (fun _ => ?_)
  clear hK K hHeld hlz
  try simp only [Act.put, List.setIfInBounds_toArray, List.set_cons_zero, List.set_cons_succ]
  have hHeld := hN
  clear hN
  generalize w1.alloc (.cells (madeCells #[.int .i64 0] rd) 3) = w3 at *
  generalize w1.heap.size = hq at *
  refine wpAnyH_take (i := 5) (v := (.agg #[.int .i64 (cap : Int), .slice none 0 0, .slice (some ⟨hq, 0, none⟩) rd rd, .bool false])) rfl (by kernel_rfl) (by kernel_rfl) (by kernel_rfl) (fun _ _ _ h => h) (Or.inl ⟨by rfl, fun w h => by (simp only [List.getElem_toArray, List.getElem_cons_succ, List.getElem_cons_zero]; clear h; go_simp)⟩) (by assumption) ?_
  simp only [Act.put, List.getElem_toArray, List.getElem_cons_succ, List.getElem_cons_zero, List.setIfInBounds_toArray, List.set_cons_zero, List.set_cons_succ]
  refine wpAnyH_ready (rs := [6]) (by kernel_rfl) (by simp) ?_
  refine AllReadyH.cons rfl (fun K hK => ?_) AllReadyH.nil
  rw [if_pos (by rfl)]
  obtain ⟨hb, hc, z, hz, hl⟩ := id hHeld
  obtain ⟨z0, z1, z2, z3, rfl⟩ := four_ hz
  have d0 := hl.cell 0
  have d1 := hl.cell 1
  have d2 := hl.cell 2
  have d3 := hl.cell 3
  simp only [List.getElem?_toArray, List.getElem?_cons_zero, List.getElem?_cons_succ] at d0 d1 d2 d3
  have f0 := hl.free 0
  have f1 := hl.free 1
  have f2 := hl.free 2
  have f3 := hl.free 3
  have hlt := hl.lt
  obtain ⟨q0, q1, q2, q3⟩ := stf_cells (w := w3) (a0 := .int .i64 (cap : Int)) (a1 := .slice none 0 0) (a2 := .slice (some ⟨hq, 0, none⟩) rd rd) (a3 := .bool false) hl rfl
  have hN := hHeld.store (.int .i64 (cap : Int)) (.slice none 0 0) (.slice (some ⟨hq, 0, none⟩) rd rd) (.bool false)
  have hk := stf_kept w3 (w.heap.size + 1) (.int .i64 (cap : Int)) (.slice none 0 0) (.slice (some ⟨hq, 0, none⟩) rd rd) (.bool false)
  have hqz := (ho.lt hq rfl).2
  have ho4 := owns_kept ho hk (fun r cur e _ (e2 : r = w.heap.size + 1) => by simp only [Value.ownBlock, Option.some.injEq] at e; omega)
  have HO4 := Lib.hid ho4
  have HKZ := hk.size
  clear ho ho4 hk
  go_wp2_with fail
  refine hK.out _ _ hN (fun _ => ?_)
  clear hK K hHeld hb hc hl hz
  try simp only [Act.put, List.setIfInBounds_toArray, List.set_cons_zero, List.set_cons_succ]
  refine wpAnyH_done (by kernel_rfl) ?_ _
  go_wp2
  refine bodyPost_ret (v := .agg #[.int .i64 (cap : Int), .slice none 0 0, .slice (some ⟨hq, 0, none⟩) rd rd, .bool false]) (by simp [results, Try.results12, go_sem, q0, q1, q2, q3]) rfl ?_
  exact ⟨some ⟨hq, 0, none⟩, rfl, by rw [HCI.out]; exact SeqAt.of_owns HO4.out, .inr (fun b o e => by simp only [Option.some.injEq, Addr.mk.injEq] at e; obtain ⟨rfl, _⟩ := e; exact ⟨by omega, Nat.lt_of_lt_of_le hqz HKZ⟩), hN.1⟩
end Go.Proofs.Ytflaaogopcgdaaa
