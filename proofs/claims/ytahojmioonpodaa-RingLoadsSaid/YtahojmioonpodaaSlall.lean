import Derived.Test.YtahojmioonpodaaSlref5
namespace Go.Proofs.Ytahojmioonpodaa
open Go.RowKit
set_option linter.unusedVariables false
set_option linter.unusedSimpArgs false
theorem SlAt.keptS {w w' : World} {g : Nat} {T : TypeId} {pre post : List Value} {r : Nat} {L : List Sl} {S : Nat → Prop} (h : SlAt w g T pre post r L) (k : Kept S w w') (hn : ¬ S g) : SlAt w' g T pre post r L := h.kept k hn
theorem take_fill {α : Type} {L : List α} {k : Nat} {x z : α} (h : L[k]? = some x) : (L.take k ++ List.replicate (L.length - k) z).set k x = L.take (k + 1) ++ List.replicate (L.length - (k + 1)) z := by
  have hk : k < L.length := (List.getElem?_eq_some_iff.1 h).1
  have hl : (L.take k).length = k := by rw [List.length_take]; omega
  rw [List.set_append_right _ _ (by omega), hl, Nat.sub_self, show L.length - k = L.length - (k + 1) + 1 by omega, List.replicate_succ, List.set_cons_zero, List.take_add_one, h, List.append_assoc]; rfl
set_option maxHeartbeats 1000000 in
set_option maxRecDepth 100000 in
theorem slotsAll {w : World} {g o : Nat} {T : TypeId} {pre post : List Value} {r : Nat} {L : List Sl} (h : SlAt w g T pre post r L) (ho : pre.length = o) :
    Calls Try.prog 47 #[.pointer (some ⟨g, o, none⟩)] w fun e w' => ∃ v, e = .returned v ∧ w'.ownsRow w.heap.size 78 3 v L.length (rowsOf slF L) ∧ Below w.heap.size w w' := by
  subst ho
  have h1 := h.heads.1
  have hl := h.ok.2.1
  have hmk := run_make_rowS (P := Try.prog) 34 78 (.agg #[.int .u64 0, .int .u64 0, .int .i64 0]) 3 24 Try.underlying34 Try.infoSlot .i64 .i64 L.length (by omega) (by omega) w
  have hz : (#[.int .u64 0, .int .u64 0, .int .i64 0] : Array Value).toList = slF ⟨0, 0, 0⟩ := rfl
  have ho0 := owned_rows slF_length (by decide) w 78 ⟨0, 0, 0⟩ _ hz L.length (by unfold maxLen; omega)
  have hb0 := (Below.refl w.heap.size w).alloc (Nat.le_refl _) (.cells (madeCells #[.int .u64 0, .int .u64 0, .int .i64 0] (L.length * 3)) 78)
  have hc0 : (Value.agg #[.int .u64 0, .int .u64 0, .int .i64 0]).cells = #[.int .u64 0, .int .u64 0, .int .i64 0] := rfl
  rw [hc0] at hmk
  have H := Lib.hid h
  have HO := Lib.hid ho0
  have hlt := h.lt
  clear h ho0 hz hc0
  go_enter Try.func47, Try.ntmps47
  go_wp2
  generalize w.alloc (.cells (madeCells #[.int .u64 0, .int .u64 0, .int .i64 0] (L.length * 3)) 78) = w0 at *
  clear hmk
  go_loopw [14] (fun u wr => ∃ k : Nat, k ≤ L.length ∧ u = .int .i64 k ∧ wr.ownsRow w.heap.size 78 3 (.slice (some ⟨w.heap.size, 0, none⟩) L.length L.length) L.length (rowsOf slF (L.take k ++ List.replicate (L.length - k) ⟨0, 0, 0⟩)) ∧ Below w.heap.size w wr)
    (fun u _ => L.length - (intOf u).toNat)
  case atStart => exact ⟨0, by omega, rfl, HO.out, hb0⟩
  case round =>
    clear HO hb0
    obtain ⟨k, hk, rfl, ho, hb⟩ := hrel
    by_cases hk2 : k < L.length
    · have hd3 : (k : Int) < (L.length : Int) := by omega
      have hd64 : (k : Int) < 64 := by omega
      obtain ⟨x, hx⟩ : ∃ x, L[k]? = some x := ⟨_, List.getElem?_eq_getElem hk2⟩
      obtain ⟨c0, c1, c2⟩ := (H.out.later hb).cells hx
      have hfl : (L.take k ++ List.replicate (L.length - k) (⟨0, 0, 0⟩ : Sl)).length = L.length := by rw [List.length_append, List.length_take, List.length_replicate]; omega
      have hy : (L.take k ++ List.replicate (L.length - k) (⟨0, 0, 0⟩ : Sl))[k]? = some ⟨0, 0, 0⟩ := by
        rw [List.getElem?_append_right (by rw [List.length_take]; omega), List.length_take, List.getElem?_replicate, if_pos (by omega)]
      obtain ⟨bq, oq, heq, _, gq⟩ := SeqS.at_ slF_length (by decide) (SeqS.of_owns ho) hy
      simp only [Option.some.injEq, Addr.mk.injEq, and_true] at heq
      obtain ⟨rfl, rfl⟩ := heq
      have x0 := gq 0 _ (by decide) rfl
      have x1 := gq 1 _ (by decide) rfl
      have x2 := gq 2 _ (by decide) rfl
      have y0 := ho.frozenAt (k * 3)
      have y1 := ho.frozenAt (k * 3 + 1)
      have y2 := ho.frozenAt (k * 3 + 2)
      rw [Nat.zero_add] at x0 x1 x2
      rw [Nat.add_zero] at x0
      have hop := own_put3 ho x (by rw [hfl]; exact hk2)
      rw [take_fill hx] at hop
      have hbp := below_put3 hb (Nat.le_refl _) (k * 3) (k * 3 + 1) (k * 3 + 2) (.int .u64 (x.s : Int)) (.int .u64 (x.v : Int)) (.int .i64 x.l)
      have HOP := Lib.hid hop
      have HBP := Lib.hid hbp
      clear hop hbp gq hy hfl hx ho hb
      go_wp2
      go_roundw
      case rel => exact ⟨k + 1, by omega, by go_num, HOP.out, HBP.out⟩
      case measure => simp [intOf]; omega
    · obtain rfl : k = L.length := by omega
      rw [List.take_of_length_le (Nat.le_refl _), Nat.sub_self, List.replicate_zero, List.append_nil] at ho
      have HO := Lib.hid ho
      clear ho
      go_wp2
      go_ret
      exact ⟨_, rfl, HO.out, hb⟩
end Go.Proofs.Ytahojmioonpodaa
