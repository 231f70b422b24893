import Derived.Test.YtahojmioonpodaaSlload
namespace Go.Proofs.Ytahojmioonpodaa
open Go.RowKit
set_option linter.unusedVariables false
set_option linter.unusedSimpArgs false
/-- Can places stand so, all of them? -/
def loadB (p r : Nat) (L : List Sl) : Bool := decide (L.length = p) && (List.range p).all fun i => standsB p r i (L.getD i ⟨0, 0, 0⟩)
/-- What a Load leaves. -/
def LoadPost (w : World) (p r : Nat) (L : List Sl) (e : Ending) (w' : World) : Prop :=
  if loadB p r L = true then e = .returned (.tuple #[.pointer (some ⟨w.heap.size, 0, none⟩), .int .i64 0]) ∧ SlAt w' w.heap.size 81 [] [] r L else e = .returned (.tuple #[.pointer none, .int .i64 3])
theorem slotsLoadNone (p r : Int) (v : Value) (w : World) (h : ¬ (1 ≤ p ∧ p ≤ 64 ∧ 1 ≤ r ∧ r ≤ 8)) :
    Calls Try.prog 41 #[.int .i64 p, .int .i64 r, v] w fun e w' => e = .returned (.tuple #[.pointer none, .int .i64 1]) ∧ w = w' := by
  have HN := Lib.hid (slotsNewNo p r w h)
  clear h
  go_enter Try.func41, Try.ntmps41
  go_wp2_with fail
  refine HN.out.mono ?_
  rintro e w' ⟨rfl, rfl⟩
  go_wp2
  go_ret2
  exact ⟨rfl, rfl⟩
set_option maxHeartbeats 2000000 in
set_option maxRecDepth 100000 in
theorem slotsLoad (p r : Nat) (v : Value) (n : Nat) (L : List Sl) (w : World) (h1 : 1 ≤ p) (h2 : p ≤ 64) (h3 : 1 ≤ r) (h4 : r ≤ 8) (hs : SeqS w 3 v n (rowsOf slF L)) (hin : ∀ x ∈ L, slIn x) :
    Calls Try.prog 41 #[.int .i64 p, .int .i64 r, v] w fun e w' => Below w.heap.size w w' ∧
      LoadPost w p r L e w' := by
  obtain ⟨A, c, rfl, hc1, hc2, _⟩ := hs.form
  have hn := hs.len_ slF_length (by decide)
  subst hn
  unfold maxLen at hc2
  have HN := Lib.hid (slotsNew p r w h1 h2 h3 h4)
  have H := Lib.hid hs
  have HI := Lib.hid hin
  clear hs hin
  by_cases hlp : L.length = p
  · subst hlp
    have e0 : ((L.length : Int) != (L.length : Int)) = false := by simp
    go_enter Try.func41, Try.ntmps41
    go_wp2_with fail
    refine HN.out.mono ?_
    rintro e w1 ⟨rfl, hs1, hb1⟩
    have HS1 := Lib.hid hs1
    clear hs1 HN
    go_wp2
    go_loopw [27] (fun u wr => ∃ k : Nat, k ≤ L.length ∧ u = .int .i64 k ∧ SlAt wr w.heap.size 81 [] [] r (L.take k ++ (newS L.length).drop k) ∧ Hid (∀ i, i < k → standsB L.length r i (L.getD i ⟨0, 0, 0⟩) = true) ∧ Below w.heap.size w wr) (fun u _ => L.length - (intOf u).toNat)
    case atStart => exact ⟨0, by omega, rfl, HS1.out, (fun i hi => by omega), hb1⟩
    case round =>
      clear HS1 hb1
      obtain ⟨k, hk, rfl, hs, hok, hb⟩ := hrel
      by_cases hlt : k < L.length
      · have hki : (k : Int) < (L.length : Int) := by omega
        obtain ⟨x, hx⟩ : ∃ x, L[k]? = some x := ⟨_, List.getElem?_eq_getElem hlt⟩
        have hxi := HI.out x (List.mem_of_getElem? hx)
        have hgd : L.getD k ⟨0, 0, 0⟩ = x := by rw [List.getD_eq_getElem?_getD, hx]; rfl
        obtain ⟨b, off, rfl, hbl, gx⟩ := SeqS.at_ slF_length (by decide) (H.out.later hb) hx
        have x0 := gx 0 _ (by decide) rfl
        have x1 := gx 1 _ (by decide) rfl
        have x2 := gx 2 _ (by decide) rfl
        rw [Nat.add_zero] at x0
        have hlen : (L.take k ++ (newS L.length).drop k).length = L.length := by rw [List.length_append, List.length_take, List.length_drop, newS_length]; omega
        have hbA := hb.alloc hb.size (.cells #[.int .u64 (x.s : Int), .int .u64 (x.v : Int), .int .i64 x.l] 78)
        have hbB : Below wr.heap.size wr (wr.alloc (.cells #[.int .u64 (x.s : Int), .int .u64 (x.v : Int), .int .i64 x.l] 78)) := (Below.refl _ _).alloc (Nat.le_refl _) _
        have li := Lies.made wr 78 #[.int .u64 (x.s : Int), .int .u64 (x.v : Int), .int .i64 x.l]
        have hsA := hs.later hbB
        have hst := slotsStands k x hsA rfl (by omega) hxi
        rw [hlen] at hst
        have HST := Lib.hid hst
        have HSA := Lib.hid hsA
        have LI := Lib.hid li
        have HB := Lib.hid hbA
        have HLEN := Lib.hid hlen
        have HX := Lib.hid hx
        have HGD := Lib.hid hgd
        clear hs hsA hst li hbA hbB gx hx hb hgd hlen
        by_cases hq : standsB L.length r k x = true
        · have hst := HST.out
          rw [hq] at hst
          have HST := Lib.hid hst
          clear hst
          go_wp2_with fail
          refine HST.out.mono ?_
          rintro e w2 ⟨rfl, hb2⟩
          have hs2 := HSA.out.later hb2
          have l2 := LI.out.below hb2 (by simp)
          have hbw := HB.out.trans (hb2.mono HB.out.size)
          have d0 := (l2.cell 0).trans (show _ = some (Value.int .u64 (x.s : Int)) from rfl)
          have d1 := (l2.cell 1).trans (show _ = some (Value.int .u64 (x.v : Int)) from rfl)
          have d2 := (l2.cell 2).trans (show _ = some (Value.int .i64 x.l) from rfl)
          have hyk : k < (L.take k ++ (newS L.length).drop k).length := by rw [HLEN.out]; exact hlt
          obtain ⟨y, hy⟩ : ∃ y, (L.take k ++ (newS L.length).drop k)[k]? = some y := ⟨_, List.getElem?_eq_getElem hyk⟩
          obtain ⟨c0, c1, c2⟩ := hs2.cells hy
          have f0 := hs2.free (2 + k * 3)
          have f1 := hs2.free (2 + k * 3 + 1)
          have f2 := hs2.free (2 + k * 3 + 2)
          have hp3 := hs2.put3 hy (stands_ok hxi h4 hq)
          have hset : (L.take k ++ (newS L.length).drop k).set k x = L.take (k + 1) ++ (newS L.length).drop (k + 1) := by
            have hl2 : (L.take k).length = k := by rw [List.length_take]; omega
            rw [List.set_append_right _ _ (by omega), hl2, Nat.sub_self, List.take_add_one, HX.out, List.append_assoc]
            congr 1
            rw [List.drop_eq_getElem_cons (by rw [newS_length]; exact hlt), List.set_cons_zero]; rfl
          rw [hset] at hp3
          simp only [List.length_nil, Nat.zero_add] at c0 c1 c2 hp3
          have hok2 : Hid (∀ i, i < k + 1 → standsB L.length r i (L.getD i ⟨0, 0, 0⟩) = true) := fun i hi => by
            by_cases e : i = k
            · subst e; rw [HGD.out]; exact hq
            · exact hok.out i (by omega)
          have hbn := below_put3 hbw (Nat.le_refl _) (2 + k * 3) (2 + k * 3 + 1) (2 + k * 3 + 2) (.int .u64 (x.s : Int)) (.int .u64 (x.v : Int)) (.int .i64 x.l)
          have HP3 := Lib.hid hp3
          have HBN := Lib.hid hbn
          have hk64 : (k : Int) < 64 := by omega
          clear hs2 l2 hbw hy hp3 hbn hset HSA LI HB hb2 hq HST
          go_wp2
          go_region
          all_goals
            go_wp2
            go_roundw
            case rel => exact ⟨k + 1, by omega, by go_num, HP3.out, hok2, below_drewN HBN.out 1⟩
            case measure => simp [intOf]; omega
        · have hq : standsB L.length r k x = false := by simpa using hq
          have hst := HST.out
          rw [hq] at hst
          have HST := Lib.hid hst
          have HF : Hid (loadB L.length r L = false) := by
            show _ = _
            unfold loadB
            rw [Bool.and_eq_false_iff]; right
            rw [List.all_eq_false]
            exact ⟨k, List.mem_range.2 hlt, by rw [HGD.out, hq]; simp⟩
          clear hst hq
          go_wp2_with fail
          refine HST.out.mono ?_
          rintro e w2 ⟨rfl, hb2⟩
          have hbw := HB.out.trans (hb2.mono HB.out.size)
          clear HB hb2
          go_wp2
          go_ret2
          exact ⟨hbw, by unfold LoadPost; rw [HF.out, if_neg (by decide)]; rfl⟩
      · obtain rfl : k = L.length := by omega
        rw [List.take_of_length_le (Nat.le_refl _), List.drop_of_length_le (by rw [newS_length]; exact Nat.le_refl _), List.append_nil] at hs
        have HS := Lib.hid hs
        have HF : Hid (loadB L.length r L = true) := by
          show _ = _
          unfold loadB
          rw [Bool.and_eq_true]
          exact ⟨by simp, by rw [List.all_eq_true]; exact fun i hi => hok.out i (List.mem_range.1 hi)⟩
        clear hs
        go_wp2
        go_ret2
        exact ⟨hb, by unfold LoadPost; rw [HF.out, if_pos rfl]; exact ⟨rfl, HS.out⟩⟩
  · have e0 : ((L.length : Int) != (p : Int)) = true := by rw [bne_iff_ne]; omega
    have HF : Hid (loadB p r L = false) := by
      show _ = _
      unfold loadB; rw [decide_eq_false hlp, Bool.false_and]
    clear hlp
    go_enter Try.func41, Try.ntmps41
    go_wp2_with fail
    refine HN.out.mono ?_
    rintro e w1 ⟨rfl, _, hb1⟩
    go_wp2
    go_ret2
    exact ⟨hb1, by unfold LoadPost; rw [HF.out, if_neg (by decide)]; rfl⟩
end Go.Proofs.Ytahojmioonpodaa
