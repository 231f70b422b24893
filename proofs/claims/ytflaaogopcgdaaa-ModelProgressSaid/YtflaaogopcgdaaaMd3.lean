/-
  The bounded log: made, closed, and what is left.
-/
import Derived.Test.YtflaaogopcgdaaaMd2
import Derived.Test.YtflaaogopcgdaaaRing5
import Derived.Test.YtflaaogopcgdaaaOwn
import Derived.Deep.RegionHeld3
namespace Go.Proofs.Ytflaaogopcgdaaa
open Go.RowKit
set_option linter.unusedVariables false
set_option linter.unusedSimpArgs false
def closeM (M : Md) : Md := { M with cl := true }
def leftM (M : Md) (j : Int) : List Int := if readsM M j = true then restM M j else []
def newM (cap rd : Nat) : Md := ⟨cap, false, 0, [], List.replicate rd 0⟩
section
variable {w w' : World} {B g gb : Nat} {vb : Option Nat} {M : Md}
set_option maxHeartbeats 1000000 in
theorem mdClose (h : MdAt w B g gb vb M) :
    Calls Try.prog 17 #[.pointer (some ⟨g, 0, none⟩)] w fun e w' => e = .returned (.int .i64 0) ∧ MdStep w w' B g gb vb (closeM M) := by
  obtain ⟨hok, a2, a3, a4, a5, a6, A, c, cg, hl, ho, hg, rfl⟩ := h
  have hkp := Kept.put w g 1 (.bool true)
  have hl2 := hl.put 1 (.bool true)
  have ho2 := ho.kept hkp (fun r e (hr : r = g) => by subst hr; exact a5 e)
  have hg2 := owns_kept hg hkp (fun r cur e hl (hr : r = g) => by
    simp only [Value.ownBlock, Option.some.injEq] at e
    omega)
  have hst : MdStep w (w.setCell ⟨g, 1, none⟩ (.bool true)) B g gb (Value.slice A M.L.length c).ownBlock (closeM M) :=
    ⟨_, ⟨hok, a2, a3, a4, a5, a6, A, c, cg, hl2, ho2, hg2, rfl⟩, hkp.mono (fun i _ (e : i = g) => .inl e), .inl rfl⟩
  have HST := Lib.hid hst
  have c1 := (hl.cell 1).trans (show _ = some (Value.bool M.cl) from rfl)
  have f1 := hl.free 1
  have hlt := hl.lt
  clear hst hkp hl2 ho2 hg2 hl ho hg hok a5 a6
  go_enter Try.func17, Try.ntmps17
  go_wp2
  go_ret
  exact ⟨rfl, HST.out⟩
set_option maxHeartbeats 1000000 in
theorem mdLeft (j : Int) (h : MdAt w B g gb vb M) :
    Calls Try.prog 19 #[.pointer (some ⟨g, 0, none⟩), .int .i64 j] w fun e w' => ∃ A c, e = .returned (.slice A (leftM M j).length c) ∧ w'.ownsRow w.heap.size 36 1 (.slice A (leftM M j).length c) (leftM M j).length (vals (leftM M j)) ∧ Below w.heap.size w w' := by
  have HRD := Lib.hid (mdReads j h)
  cases hr : readsM M j
  · have HR := Lib.hid hr
    have HL : Hid (leftM M j = []) := by show _ = _; unfold leftM; rw [hr, if_neg (by decide)]
    clear h hr
    go_enter Try.func19, Try.ntmps19
    go_wp2_with fail
    refine HRD.out.mono ?_
    rintro e w1 ⟨rfl, rfl⟩
    rw [HR.out]
    go_wp2
    go_ret
    exact ⟨none, 0, by rw [HL.out]; rfl, by rw [HL.out]; exact World.ownsRow_nil _ _ _ _, Below.refl _ _⟩
  · have HR := Lib.hid hr
    have HRS := Lib.hid (mdRest j h hr)
    have HL : Hid (leftM M j = restM M j) := by show _ = _; unfold leftM; rw [hr, if_pos rfl]
    have hll : (restM M j).length ≤ 64 := by
      obtain ⟨o1, o2, o3, o4, o5, _⟩ := h.1
      unfold restM; rw [List.length_drop]; omega
    have hvl := vals_length (restM M j)
    generalize restM M j = l at *
    have HLL := Lib.hid hvl
    clear h hr hvl
    go_enter Try.func19, Try.ntmps19
    go_wp2_with fail
    refine HRD.out.mono ?_
    rintro e w1 ⟨rfl, rfl⟩
    rw [HR.out]
    go_wp2_with fail
    refine HRS.out.mono ?_
    rintro e w2 ⟨A, c, rfl, hs, h0, n, rfl⟩
    obtain ⟨A', c', e', _, _, hx⟩ := hs
    rw [HLL.out] at e'
    simp only [Value.slice.injEq, true_and] at e'
    obtain ⟨rfl, rfl⟩ := e'
    have HX := Lib.hid hx
    have H0 := Lib.hid h0
    clear hx h0
    go_wp2_with (at_builtin; refine append_arg _ rfl (.const (.slice none 0 0)) (.tmp 15) 31 rfl w1.heap.size 36 _ 8 Try.underlying31 Try.infoU64 rfl (.slice none 0 0) 0 [] rfl (World.ownsRow_nil _ _ _ _) A l.length c rfl (vals l) HLL.out (fun e => H0.out e) HX.out (fun u hu => by obtain ⟨_, _, rfl⟩ := List.mem_map.1 hu; rfl) (by unfold maxLen; omega) (by omega) (by simp) ?_)
    intro v' w3 ho3 hb3 _
    have hs3 := SeqAt.of_owns ho3
    obtain ⟨A', c', rfl, _⟩ := hs3
    rw [HLL.out] at ho3
    have HS3 := Lib.hid ho3
    have HB3 : Hid (Below w1.heap.size w1 w3) := (below_drewN (Below.refl _ _) n).trans hb3
    rw [HLL.out]
    clear ho3 hb3
    go_wp2
    go_ret
    exact ⟨A', c', by rw [HL.out]; rfl, by rw [HL.out]; exact HS3.out, HB3.out⟩
end
theorem owned_base {w : World} {B B' : Nat} {e : TypeId} {sz n : Nat} {v : Value} {xs : List Value} (h : w.ownsRow B e sz v n xs) (hb : B' ≤ B) : w.ownsRow B' e sz v n xs :=
  ⟨h.1, h.2.imp id (fun ⟨g, cap, cur, e, h1, h2⟩ => ⟨g, cap, cur, e, Nat.le_trans hb h1, h2⟩)⟩
theorem newM_ok {cap rd : Nat} (h1 : 1 ≤ cap) (h2 : cap ≤ 64) (h3 : 1 ≤ rd) (h4 : rd ≤ 8) : MdOk (newM cap rd) := by
  unfold newM
  refine ⟨h1, h2, by simpa using h3, by simpa using h4, by simp, fun x hx => ?_, by simp⟩
  simp only at hx ⊢
  have := List.eq_of_mem_replicate hx
  simp; omega
set_option maxHeartbeats 1000000 in
theorem mdNewNo (k c r : Int) (w : World) (h : mayB k c r = false) :
    Calls Try.prog 10 #[.agg #[.int .i64 k, .int .i64 c, .int .i64 r]] w fun e w' => e = .returned (.tuple #[.pointer none, .int .i64 1]) ∧ Below w.heap.size w w' := by
  have hb := (Below.refl w.heap.size w).alloc (Nat.le_refl _) (.cells #[.int .i64 k, .int .i64 c, .int .i64 r] 23)
  have HN := Lib.hid (fun w => rgNewNo k c r w h)
  have HB := Lib.hid hb
  clear h hb
  go_enter Try.func10, Try.ntmps10
  go_wp2_with fail
  refine (HN.out _).mono ?_
  rintro e w2 ⟨rfl, hb2⟩
  have hb2 := HB.out.trans (hb2.mono HB.out.size)
  go_wp2
  go_ret2
  exact ⟨rfl, hb2⟩
set_option maxHeartbeats 2000000 in
theorem mdNew (k : Int) (cap rd : Nat) (w : World) (h1 : 1 ≤ cap) (h2 : cap ≤ 64) (h3 : 1 ≤ rd) (h4 : rd ≤ 8) (hk : k = 1 ∧ rd = 1 ∨ k = 2) :
    Calls Try.prog 10 #[.agg #[.int .i64 k, .int .i64 (cap : Int), .int .i64 (rd : Int)]] w fun e w' => ∃ g gb, e = .returned (.tuple #[.pointer (some ⟨g, 0, none⟩), .int .i64 0]) ∧ MdAt w' w.heap.size g gb none (newM cap rd) ∧ Below w.heap.size w w' := by
  have hb := (Below.refl w.heap.size w).alloc (Nat.le_refl _) (.cells #[.int .i64 k, .int .i64 (cap : Int), .int .i64 (rd : Int)] 23)
  have LO := Lib.hid (Lies.made w 23 #[.int .i64 k, .int .i64 (cap : Int), .int .i64 (rd : Int)])
  have HN := Lib.hid (fun w => rgNew k cap rd w h1 h2 h3 h4 hk)
  have HB := Lib.hid hb
  have hmk := run_make_rowS (P := Try.prog) 31 36 (.int .u64 0) 1 8 Try.underlying31 Try.infoU64 .i64 .i64 rd (by omega) (by omega)
  clear hb hk
  go_enter Try.func10, Try.ntmps10
  go_wp2_with fail
  refine (HN.out _).mono ?_
  rintro e w2 ⟨g0, rfl, _, _, hb2⟩
  have lo2 := LO.out.below hb2 LO.out.lt
  have hb2 := HB.out.trans (hb2.mono HB.out.size)
  have S0 : Hid (Below w.heap.size w w2.drew ∧ Lies w2.drew w.heap.size 23 #[.int .i64 k, .int .i64 (cap : Int), .int .i64 (rd : Int)]) := ⟨below_drewN hb2 1, Lies.drew lo2⟩
  clear LO HB HN lo2 hb2
  go_wp2_with fail
  refine wp_region_held_drew (S := fun y => Below w.heap.size w y ∧ Lies y w.heap.size 23 #[.int .i64 k, .int .i64 (cap : Int), .int .i64 (rd : Int)]) (by kernel_rfl) S0.out (fun hHeld => ?_)
  try simp only [Act.put, List.setIfInBounds_toArray, List.set_cons_zero, List.set_cons_succ]
  clear S0
  generalize w2.drew = w1 at *
  refine wpAnyH_take (i := 0) (v := (.pointer (some ⟨w.heap.size, 1, none⟩))) rfl (by kernel_rfl) (by kernel_rfl) (by kernel_rfl) (fun _ _ _ h => h) (Or.inl ⟨by rfl, fun w h => by (simp only [List.getElem_toArray, List.getElem_cons_succ, List.getElem_cons_zero]; clear h; go_simp)⟩) (by assumption) ?_
  simp only [Act.put, List.getElem_toArray, List.getElem_cons_succ, List.getElem_cons_zero, List.setIfInBounds_toArray, List.set_cons_zero, List.set_cons_succ]
  refine wpAnyH_take (i := 1) (v := (.int .i64 (cap : Int))) rfl (by kernel_rfl) (by kernel_rfl) (by kernel_rfl) (fun _ _ _ h => h) (Or.inl ⟨by rfl, fun w h => by (simp only [List.getElem_toArray, List.getElem_cons_succ, List.getElem_cons_zero]; have h1 := h.2.cell 1; simp at h1; clear h; go_simp)⟩) (by assumption) ?_
  simp only [Act.put, List.getElem_toArray, List.getElem_cons_succ, List.getElem_cons_zero, List.setIfInBounds_toArray, List.set_cons_zero, List.set_cons_succ]
  refine wpAnyH_take (i := 2) (v := (.pointer (some ⟨w.heap.size, 2, none⟩))) rfl (by kernel_rfl) (by kernel_rfl) (by kernel_rfl) (fun _ _ _ h => h) (Or.inl ⟨by rfl, fun w h => by (simp only [List.getElem_toArray, List.getElem_cons_succ, List.getElem_cons_zero]; clear h; go_simp)⟩) (by assumption) ?_
  simp only [Act.put, List.getElem_toArray, List.getElem_cons_succ, List.getElem_cons_zero, List.setIfInBounds_toArray, List.set_cons_zero, List.set_cons_succ]
  refine wpAnyH_take (i := 3) (v := (.int .i64 (rd : Int))) rfl (by kernel_rfl) (by kernel_rfl) (by kernel_rfl) (fun _ _ _ h => h) (Or.inl ⟨by rfl, fun w h => by (simp only [List.getElem_toArray, List.getElem_cons_succ, List.getElem_cons_zero]; have h1 := h.2.cell 2; simp at h1; clear h; go_simp)⟩) (by assumption) ?_
  simp only [Act.put, List.getElem_toArray, List.getElem_cons_succ, List.getElem_cons_zero, List.setIfInBounds_toArray, List.set_cons_zero, List.set_cons_succ]
  refine wpAnyH_ready (rs := [4]) (by kernel_rfl) (by simp) ?_
  refine AllReadyH.cons rfl (fun K hK => ?_) AllReadyH.nil
  rw [if_pos (by rfl)]
  go_wp2_with fail
  have ho := owned_made w1 36 (.int .u64 0) rfl rd (by unfold maxLen; omega)
  have hbA := (Below.refl w1.heap.size w1).alloc (Nat.le_refl _) (.cells (madeCells #[.int .u64 0] rd) 36)
  have hN : Below w.heap.size w (w1.alloc (.cells (madeCells #[.int .u64 0] rd) 36)) ∧ Lies (w1.alloc (.cells (madeCells #[.int .u64 0] rd) 36)) w.heap.size 23 #[.int .i64 k, .int .i64 (cap : Int), .int .i64 (rd : Int)] := ⟨hHeld.1.trans (hbA.mono hHeld.1.size), hHeld.2.alloc _⟩
  have hwz := hHeld.1.size
  refine hK.out _ _ hN (fun _ => ?_)
  clear hK K hHeld hbA
  try simp only [Act.put, List.setIfInBounds_toArray, List.set_cons_zero, List.set_cons_succ]
  have hHeld := hN
  clear hN
  have hgt : w1.heap.size < (w1.alloc (.cells (madeCells #[.int .u64 0] rd) 36)).heap.size := by simp
  generalize w1.alloc (.cells (madeCells #[.int .u64 0] rd) 36) = w3 at *
  generalize w1.heap.size = hq at *
  refine wpAnyH_take (i := 5) (v := (.agg #[.int .i64 (cap : Int), .bool false, .int .u64 0, .slice none 0 0, .slice (some ⟨hq, 0, none⟩) rd rd])) rfl (by kernel_rfl) (by kernel_rfl) (by kernel_rfl) (fun _ _ _ h => h) (Or.inl ⟨by rfl, fun w h => by (simp only [List.getElem_toArray, List.getElem_cons_succ, List.getElem_cons_zero]; clear h; go_simp)⟩) (by assumption) ?_
  simp only [Act.put, List.getElem_toArray, List.getElem_cons_succ, List.getElem_cons_zero, List.setIfInBounds_toArray, List.set_cons_zero, List.set_cons_succ]
  refine wpAnyH_ready (rs := [6]) (by kernel_rfl) (by simp) ?_
  refine AllReadyH.cons rfl (fun K hK => ?_) AllReadyH.nil
  rw [if_pos (by rfl)]
  go_wp2_with fail
  have hl4 := Lies.made w3 68 #[.int .i64 (cap : Int), .bool false, .int .u64 0, .slice none 0 0, .slice (some ⟨hq, 0, none⟩) rd rd]
  have hbA := (Below.refl w3.heap.size w3).alloc (Nat.le_refl _) (.cells #[.int .i64 (cap : Int), .bool false, .int .u64 0, .slice none 0 0, .slice (some ⟨hq, 0, none⟩) rd rd] 68)
  have ho4 := owned_below ho hbA
  have hN := And.intro (hHeld.1.trans (hbA.mono hHeld.1.size)) (hHeld.2.alloc (.cells #[.int .i64 (cap : Int), .bool false, .int .u64 0, .slice none 0 0, .slice (some ⟨hq, 0, none⟩) rd rd] 68))
  have hw3 := hHeld.1.size
  refine hK.out _ _ hN (fun _ => ?_)
  clear hK K hHeld hbA ho
  try simp only [Act.put, List.setIfInBounds_toArray, List.set_cons_zero, List.set_cons_succ]
  have hHeld := hN
  clear hN
  have hst : MdAt (w3.alloc (.cells #[.int .i64 (cap : Int), .bool false, .int .u64 0, .slice none 0 0, .slice (some ⟨hq, 0, none⟩) rd rd] 68)) w.heap.size w3.heap.size hq none (newM cap rd) := by
    have e1 : (newM cap rd).G.length = rd := by unfold newM; simp
    refine ⟨newM_ok h1 h2 h3 h4, hw3, hwz, by omega, by simp, by simp, none, 0, rd, ?_, OwnsOff.nil _ _ _, ?_, rfl⟩
    · unfold mdV; rw [e1]; exact hl4
    · rw [e1]
      have e2 : cells64 (newM cap rd).G = List.replicate rd (.int .u64 0) := by unfold newM cells64; simp
      rw [e2]
      exact owned_base ho4 hwz
  have HST := Lib.hid hst
  clear hst hl4 ho4
  generalize w3.alloc (.cells #[.int .i64 (cap : Int), .bool false, .int .u64 0, .slice none 0 0, .slice (some ⟨hq, 0, none⟩) rd rd] 68) = w4 at *
  generalize w3.heap.size = g at *
  refine wpAnyH_take (i := 7) (v := (.pointer (some ⟨g, 0, none⟩))) rfl (by kernel_rfl) (by kernel_rfl) (by kernel_rfl) (fun _ _ _ h => h) (Or.inl ⟨by rfl, fun w h => by (simp only [List.getElem_toArray, List.getElem_cons_succ, List.getElem_cons_zero]; clear h; go_simp)⟩) (by assumption) ?_
  simp only [Act.put, List.getElem_toArray, List.getElem_cons_succ, List.getElem_cons_zero, List.setIfInBounds_toArray, List.set_cons_zero, List.set_cons_succ]
  refine wpAnyH_take (i := 8) (v := (.int .i64 0)) rfl (by kernel_rfl) (by kernel_rfl) (by kernel_rfl) (fun _ _ _ h => h) (Or.inl ⟨by rfl, fun w h => by (simp only [List.getElem_toArray, List.getElem_cons_succ, List.getElem_cons_zero]; clear h; go_simp)⟩) (by assumption) ?_
  simp only [Act.put, List.getElem_toArray, List.getElem_cons_succ, List.getElem_cons_zero, List.setIfInBounds_toArray, List.set_cons_zero, List.set_cons_succ]
  refine wpAnyH_done (by kernel_rfl) ?_ _
  go_wp2
  go_ret2
  exact ⟨g, hq, rfl, HST.out, hHeld.1⟩
end Go.Proofs.Ytflaaogopcgdaaa
