/-
  The document's log.
-/
import Derived.Test.YtflaaogopcgdaaaLaw3
namespace Go.Proofs.Ytflaaogopcgdaaa
open Go.RowKit
set_option linter.unusedVariables false
set_option linter.unusedSimpArgs false
abbrev stf (w : World) (b : Nat) (a0 a1 a2 a3 : Value) : World := (((w.setCell ⟨b, 0, none⟩ a0).setCell ⟨b, 1, none⟩ a1).setCell ⟨b, 2, none⟩ a2).setCell ⟨b, 3, none⟩ a3
theorem four_ {z : Array Value} (h : z.size = 4) : ∃ z0 z1 z2 z3, z = #[z0, z1, z2, z3] := by
  obtain ⟨l⟩ := z
  match l, h with
  | [a, b, c, d], _ => exact ⟨a, b, c, d, rfl⟩
theorem stf_lies {w : World} {b : Nat} {T : TypeId} {z : Array Value} {a0 a1 a2 a3 : Value} (h : Lies w b T z) (hz : z.size = 4) : Lies (stf w b a0 a1 a2 a3) b T #[a0, a1, a2, a3] := by
  obtain ⟨z0, z1, z2, z3, rfl⟩ := four_ hz
  exact (((h.put 0 a0).put 1 a1).put 2 a2).put 3 a3
theorem stf_kept (w : World) (b : Nat) (a0 a1 a2 a3 : Value) : Kept (oneRow b) w (stf w b a0 a1 a2 a3) :=
  (((Kept.put w b 0 a0).trans (Kept.put _ b 1 a1) (fun _ _ h => h)).trans (Kept.put _ b 2 a2) (fun _ _ h => h)).trans (Kept.put _ b 3 a3) (fun _ _ h => h)
theorem stf_cells {w : World} {b : Nat} {T : TypeId} {z : Array Value} {a0 a1 a2 a3 : Value} (h : Lies w b T z) (hz : z.size = 4) :
    (stf w b a0 a1 a2 a3).cell? ⟨b, 0, none⟩ = some a0 ∧ (stf w b a0 a1 a2 a3).cell? ⟨b, 1, none⟩ = some a1 ∧ (stf w b a0 a1 a2 a3).cell? ⟨b, 2, none⟩ = some a2 ∧ (stf w b a0 a1 a2 a3).cell? ⟨b, 3, none⟩ = some a3 := by
  have lq := stf_lies (a0 := a0) (a1 := a1) (a2 := a2) (a3 := a3) h hz
  exact ⟨lq.cell 0, lq.cell 1, lq.cell 2, lq.cell 3⟩
theorem stf_below {w wa : World} {b : Nat} (a0 a1 a2 a3 : Value) (h : Below w.heap.size w wa) (hb : w.heap.size ≤ b) : Below w.heap.size w (stf wa b a0 a1 a2 a3) :=
  h.trans ((stf_kept _ _ _ _ _ _).below h.size (fun j hj (e : j = b) => by omega))
abbrev m4V (cap : Int) (AL : Option Addr) (nl cl : Nat) (AG : Option Addr) (ng cg : Nat) (k : Bool) : Array Value := #[.int .i64 cap, .slice AL nl cl, .slice AG ng cg, .bool k]
abbrev m4Z : Array Value := #[.int .i64 0, .slice none 0 0, .slice none 0 0, .bool false]
theorem m14_start (w : World) (V : Array Value) :
    Hid (Lies ((w.alloc (.cells V 34)).alloc (.cells m4Z 34)) w.heap.size 34 V) ∧
    Hid (Lies ((w.alloc (.cells V 34)).alloc (.cells m4Z 34)) (w.heap.size + 1) 34 m4Z) ∧
    Below w.heap.size w ((w.alloc (.cells V 34)).alloc (.cells m4Z 34)) := by
  have hb0 := (Below.refl w.heap.size w).alloc (Nat.le_refl _) (.cells V 34)
  have hb1 := hb0.alloc (by simp) (.cells m4Z 34)
  have l0 := (Lies.made w 34 V).alloc (.cells m4Z 34)
  have l1 := Lies.made (w.alloc (.cells V 34)) 34 m4Z
  rw [World.size_alloc] at l1
  exact ⟨l0, l1, hb1⟩
/-- A list as it was, or a new one. -/
def NewAt (w w' : World) (A A' : Option Addr) : Prop := A' = A ∨ ∀ b o, A' = some ⟨b, o, none⟩ → w.heap.size ≤ b ∧ b < w'.heap.size
def putL (M : Md) (l : List Int) (v : Int) : List Int := if mputE M = 0 then l ++ [v] else l
theorem cellsI_length (l : List Nat) : (cellsI l).length = l.length := by simp [cellsI]
section
variable {w : World} {M : Md} {L : List Int} {AL AG : Option Addr} {cL cG : Nat}
set_option maxHeartbeats 4000000 in
set_option maxRecDepth 100000 in
theorem r14Put (v : Int) (hM : MdOk M) (hall : AllOk M L) (hp : M.p = leastG M.G) (hS : SeqAt w (.slice AL L.length cL) (vals L)) (hG : SeqAt w (.slice AG M.G.length cG) (cellsI M.G)) (hA : AL = none → L.length = 0 ∧ cL = 0) (hLL : L.length ≤ 1000) :
    Calls Try.prog 14 #[.agg #[.int .i64 (M.cap : Int), .slice AL L.length cL, .slice AG M.G.length cG, .bool M.cl], .int .u64 v] w fun e w' =>
      ∃ A' c', e = .returned (.tuple #[.int .u64 (mputV M : Nat), .int .i64 (mputE M : Nat), .agg #[.int .i64 (M.cap : Int), .slice A' (putL M L v).length c', .slice AG M.G.length cG, .bool M.cl]]) ∧ SeqAt w' (.slice A' (putL M L v).length c') (vals (putL M L v)) ∧ (A' = none → (putL M L v).length = 0 ∧ c' = 0) ∧
        NewAt w w' AL A' ∧ Below w.heap.size w w' := by
  obtain ⟨HL0, HL1, hb1⟩ := m14_start w (m4V M.cap AL L.length cL AG M.G.length cG M.cl)
  have HB1 := Lib.hid hb1
  have HS := Lib.hid hS
  have HA := Lib.hid hA
  by_cases hcl : M.cl = true
  · have hE : mputE M = 10 := by unfold mputE; rw [if_pos hcl]
    have HV : Hid (mputV M = 0) := by show _ = _; unfold mputV; rw [hE, if_neg (by decide)]
    have HP : Hid (putL M L v = L) := by show _ = _; unfold putL; rw [hE, if_neg (by decide)]
    have HE := Lib.hid hE
    rw [hcl] at HL0 HL1 HB1 ⊢
    clear hE hM hall hp hS hG hA hb1 hcl
    go_enter Try.func14, Try.ntmps14
    go_wp2
    generalize (w.alloc (.cells (m4V M.cap AL L.length cL AG M.G.length cG true) 34)).alloc (.cells m4Z 34) = w1 at *
    have c0 := HL0.out.cell 0
    have c1 := HL0.out.cell 1
    have c2 := HL0.out.cell 2
    have c3 := HL0.out.cell 3
    simp only [List.getElem?_toArray, List.getElem?_cons_zero, List.getElem?_cons_succ] at c0 c1 c2 c3
    have d0 := HL1.out.cell 0
    have d1 := HL1.out.cell 1
    have d2 := HL1.out.cell 2
    have d3 := HL1.out.cell 3
    simp only [List.getElem?_toArray, List.getElem?_cons_zero, List.getElem?_cons_succ] at d0 d1 d2 d3
    have f0 := HL1.out.free 0
    have f1 := HL1.out.free 1
    have f2 := HL1.out.free 2
    have f3 := HL1.out.free 3
    have hlt1 := HL1.out.lt
    obtain ⟨q0, q1, q2, q3⟩ := stf_cells (w := w1) (a0 := .int .i64 (M.cap : Int)) (a1 := (.slice AL L.length cL)) (a2 := (.slice AG M.G.length cG)) (a3 := .bool true) HL1.out rfl
    have HBE := Lib.hid (stf_below (b := w.heap.size + 1) (.int .i64 (M.cap : Int)) (.slice AL L.length cL) (.slice AG M.G.length cG) (.bool true) HB1.out (by omega))
    have HKE := Lib.hid (stf_kept w1 (w.heap.size + 1) (.int .i64 (M.cap : Int)) (.slice AL L.length cL) (.slice AG M.G.length cG) (.bool true))
    go_region
    all_goals
      go_wp2
      refine bodyPost_ret (v := .tuple #[.int .u64 0, .int .i64 10, .agg #[.int .i64 (M.cap : Int), (.slice AL L.length cL), (.slice AG M.G.length cG), .bool true]]) (by simp [results, Try.results14, go_sem, q0, q1, q2, q3]) rfl ?_
      exact (⟨AL, cL, by rw [HE.out, HV.out, HP.out]; rfl, by rw [HP.out]; exact HS.out.later_ (below_drewN HBE.out 1), by rw [HP.out]; exact HA.out, .inl rfl, below_drewN HBE.out 1⟩)
  · have hcl : M.cl = false := by simpa using hcl
    have hgl := hM.2.2.1
    obtain ⟨y0, hy0⟩ : ∃ x, M.G[0]? = some x := ⟨_, List.getElem?_eq_getElem (by omega)⟩
    obtain ⟨bG, oG, rfl, _, _⟩ := hG.get (Below.refl _ _) (cellsI_get hy0)
    have HG := Lib.hid hG
    have HMK := Lib.hid hM
    have HAL := Lib.hid hall
    have HPL := Lib.hid hp
    have HCL := Lib.hid hcl
    rw [hcl] at HL0 HL1 HB1 ⊢
    clear hM hall hp hS hG hA hb1 hcl hy0
    go_enter Try.func14, Try.ntmps14
    go_wp2
    generalize (w.alloc (.cells (m4V M.cap AL L.length cL (some ⟨bG, oG, none⟩) M.G.length cG false) 34)).alloc (.cells m4Z 34) = w1 at *
    go_loopw [7] (fun u wr => ∃ k : Nat, k ≤ M.G.length ∧ u = .int .i64 k ∧ Hid (∀ j x, j < k → M.G[j]? = some x → L.length - x < M.cap) ∧ Below w1.heap.size w1 wr) (fun u _ => M.G.length - (intOf u).toNat)
    case atStart => exact ⟨0, by omega, rfl, fun j x hj => by omega, Below.refl _ _⟩
    case round =>
      obtain ⟨k, hk, rfl, hlow, hbr⟩ := hrel
      have HL0 := Lib.hid (HL0.out.below hbr HL0.out.lt)
      have HL1 := Lib.hid (HL1.out.below hbr HL1.out.lt)
      have HB1 := Lib.hid (HB1.out.trans (hbr.mono HB1.out.size))
      have c0 := HL0.out.cell 0
      have c1 := HL0.out.cell 1
      have c2 := HL0.out.cell 2
      have c3 := HL0.out.cell 3
      simp only [List.getElem?_toArray, List.getElem?_cons_zero, List.getElem?_cons_succ] at c0 c1 c2 c3
      have d0 := HL1.out.cell 0
      have d1 := HL1.out.cell 1
      have d2 := HL1.out.cell 2
      have d3 := HL1.out.cell 3
      simp only [List.getElem?_toArray, List.getElem?_cons_zero, List.getElem?_cons_succ] at d0 d1 d2 d3
      have f0 := HL1.out.free 0
      have f1 := HL1.out.free 1
      have f2 := HL1.out.free 2
      have f3 := HL1.out.free 3
      have hlt1 := HL1.out.lt
      by_cases hlt : k < M.G.length
      · have hki : (k : Int) < (M.G.length : Int) := by omega
        obtain ⟨x, hx⟩ : ∃ x, M.G[k]? = some x := ⟨_, List.getElem?_eq_getElem hlt⟩
        obtain ⟨o1, o2, o3, o4, o5, o6, o7⟩ := HMK.out
        obtain ⟨m1, m2⟩ := o6 x (List.mem_of_getElem? hx)
        have hal := HAL.out.1
        obtain ⟨b2, off2, e2, _, dk⟩ := HG.out.get HB1.out (cellsI_get hx)
        simp only [Option.some.injEq, Addr.mk.injEq, and_true] at e2
        obtain ⟨rfl, rfl⟩ := e2
        have hxl : x ≤ L.length := by omega
        have HX := Lib.hid hx
        clear hx o1 o3 o6 o7
        by_cases hf : M.cap ≤ L.length - x
        · have hE : mputE M = 8 := by unfold mputE; rw [HCL.out, if_neg (by decide), if_pos (by omega)]
          have HV : Hid (mputV M = 0) := by show _ = _; unfold mputV; rw [hE, if_neg (by decide)]
          have HP : Hid (putL M L v = L) := by show _ = _; unfold putL; rw [hE, if_neg (by decide)]
          have HE := Lib.hid hE
          have hfi : (M.cap : Int) ≤ (L.length : Int) - (x : Int) := by omega
          clear hE m1 m2 hal o5 hlow
          go_wp2_with fail
          go_quiet (fail)
          go_wp2_with fail
          have HL0 : Hid (Lies (wr.drewN nq) w.heap.size 34 (m4V M.cap AL L.length cL (some ⟨bG, oG, none⟩) M.G.length cG false)) := HL0
          have HL1 : Hid (Lies (wr.drewN nq) (w.heap.size + 1) 34 m4Z) := HL1
          have HB1 : Hid (Below w.heap.size w (wr.drewN nq)) := below_drewN HB1.out nq
          clear c0 c1 c2 c3 d0 d1 d2 d3 f0 f1 f2 f3 hlt1 dk
          generalize wr.drewN nq = w2 at *
          have c0 := HL0.out.cell 0
          have c1 := HL0.out.cell 1
          have c2 := HL0.out.cell 2
          have c3 := HL0.out.cell 3
          simp only [List.getElem?_toArray, List.getElem?_cons_zero, List.getElem?_cons_succ] at c0 c1 c2 c3
          have d0 := HL1.out.cell 0
          have d1 := HL1.out.cell 1
          have d2 := HL1.out.cell 2
          have d3 := HL1.out.cell 3
          simp only [List.getElem?_toArray, List.getElem?_cons_zero, List.getElem?_cons_succ] at d0 d1 d2 d3
          have f0 := HL1.out.free 0
          have f1 := HL1.out.free 1
          have f2 := HL1.out.free 2
          have f3 := HL1.out.free 3
          have hlt1 := HL1.out.lt
          obtain ⟨q0, q1, q2, q3⟩ := stf_cells (w := w2) (a0 := .int .i64 (M.cap : Int)) (a1 := (.slice AL L.length cL)) (a2 := (.slice (some ⟨bG, oG, none⟩) M.G.length cG)) (a3 := .bool false) HL1.out rfl
          have HBE := Lib.hid (stf_below (b := w.heap.size + 1) (.int .i64 (M.cap : Int)) (.slice AL L.length cL) (.slice (some ⟨bG, oG, none⟩) M.G.length cG) (.bool false) HB1.out (by omega))
          have HKE := Lib.hid (stf_kept w2 (w.heap.size + 1) (.int .i64 (M.cap : Int)) (.slice AL L.length cL) (.slice (some ⟨bG, oG, none⟩) M.G.length cG) (.bool false))
          go_region
          all_goals
            go_wp2
            refine bodyPost_ret (v := .tuple #[.int .u64 0, .int .i64 8, .agg #[.int .i64 (M.cap : Int), (.slice AL L.length cL), (.slice (some ⟨bG, oG, none⟩) M.G.length cG), .bool false]]) (by simp [results, Try.results14, go_sem, q0, q1, q2, q3]) rfl ?_
            exact (⟨AL, cL, by rw [HE.out, HV.out, HP.out]; rfl, by rw [HP.out]; exact HS.out.later_ (below_drewN HBE.out 1), by rw [HP.out]; exact HA.out, .inl rfl, below_drewN HBE.out 1⟩)
        · have hfi : ¬ (M.cap : Int) ≤ (L.length : Int) - (x : Int) := by omega
          have hlow2 : Hid (∀ j y, j < k + 1 → M.G[j]? = some y → L.length - y < M.cap) := fun j y hj hy => by
            by_cases hjk : j < k
            · exact hlow.out j y hjk hy
            · obtain rfl : j = k := by omega
              rw [HX.out] at hy
              injection hy with hy
              omega
          clear m1 m2 hal o5 hlow
          go_wp2_with fail
          go_quiet (fail)
          go_wp2
          go_roundw
          case rel => exact ⟨k + 1, by omega, by go_num, hlow2, below_drewN hbr _⟩
          case measure => simp [intOf]; omega
      · obtain rfl : k = M.G.length := by omega
        have hE : mputE M = 0 := by
          obtain ⟨o1, o2, o3, o4, o5, o6, o7⟩ := HMK.out
          have hin := leastG_in o3
          obtain ⟨j, hj⟩ := List.mem_iff_getElem?.1 hin
          have := hlow.out j _ (List.getElem?_eq_some_iff.1 hj).1 hj
          have := HAL.out.1
          have := HPL.out
          unfold mputE; rw [HCL.out, if_neg (by decide), if_neg (by omega)]
        have hV : mputV M = L.length := by unfold mputV; rw [hE, if_pos rfl]; exact HAL.out.1
        have HP : Hid (putL M L v = L ++ [v]) := by show _ = _; unfold putL; rw [hE, if_pos rfl]
        have HE := Lib.hid hE
        have HV := Lib.hid hV
        clear hE hV hlow hbr
        have hwz : w.heap.size + 2 ≤ wr.heap.size := HL1.out.lt
        have hoE := owned_empty (w := wr) (B := wr.heap.size) 36 1 (Nat.le_refl _)
        have hbA := (Below.refl wr.heap.size wr).alloc (Nat.le_refl _) (.cells #[] 36)
        have HS2 := HS.out.later_ (HB1.out.trans (hbA.mono HB1.out.size))
        obtain ⟨A'', c'', e'', _, _, hget⟩ := HS2
        rw [vals_length] at e''
        simp only [Value.slice.injEq, true_and] at e''
        obtain ⟨rfl, rfl⟩ := e''
        have HGET := Lib.hid hget
        have HOE := Lib.hid hoE
        have HLL := Lib.hid (vals_length L)
        have L0A := Lib.hid (HL0.out.alloc (.cells #[] 36))
        have L1A := Lib.hid (HL1.out.alloc (.cells #[] 36))
        have HBA := Lib.hid (HB1.out.trans (hbA.mono HB1.out.size))
        have ca1 := (L0A.out.cell 1).trans (show _ = some (Value.slice AL L.length cL) from rfl)
        clear hoE hbA hget
        go_wp2_with (at_builtin; refine append_arg _ rfl (.tmp 31) (.tmp 33) 31 rfl wr.heap.size 36 _ 8 Try.underlying31 Try.infoU64 rfl _ 0 [] rfl HOE.out AL L.length cL rfl (vals L) HLL.out (fun e => HA.out e) HGET.out (fun u hu => by obtain ⟨_, _, rfl⟩ := List.mem_map.1 hu; rfl) (by unfold maxLen; omega) (by omega) (by simp) ?_)
        intro v' w3 ho3 hb3 _
        have l0 := L0A.out.below hb3 (by omega)
        have l1 := L1A.out.below hb3 (by omega)
        have hw3 := Nat.le_trans (show wr.heap.size ≤ (wr.alloc (.cells #[] 36)).heap.size by simp) hb3.size
        have HB3 := Lib.hid (HBA.out.trans (hb3.mono (by omega)))
        have HO3 := Lib.hid ho3
        have L03 := Lib.hid l0
        have L13 := Lib.hid l1
        clear ho3 hb3 l0 l1 L0A L1A HBA ca1 HGET HOE c0 c1 c2 c3 d0 d1 d2 d3 f0 f1 f2 f3 hlt1
        go_wp2_with (at_builtin; refine append_one _ (.int .u64 v) rfl (.tmp 34) (.tmp 36) 31 rfl wr.heap.size 36 _ 8 Try.underlying31 Try.infoU64 rfl rfl _ _ _ rfl HO3.out rfl (by unfold maxLen; omega) (by omega) hw3 ?_)
        intro v'' w4 ho4 hb4 _
        rw [vals_push] at ho4
        obtain ⟨hq, cq, rfl, hqb, hql, _⟩ := ownsRow_open ho4 (by omega)
        have l0 := L03.out.below hb4 (by omega)
        have l1 := L13.out.below hb4 (by omega)
        have hb := HB3.out.trans (hb4.mono (by omega))
        have k2 : Kept (oneRow w.heap.size) w4 (w4.setCell ⟨w.heap.size, 1, none⟩ (.slice (some ⟨hq, 0, none⟩) (L.length + 1) cq)) := Kept.put _ _ _ _
        have g1f := l0.free 1
        have g1c := (l0.cell 1).trans (show _ = some (Value.slice AL L.length cL) from rfl)
        have hw4 := l0.lt
        have HL0 : Hid (Lies (w4.setCell ⟨w.heap.size, 1, none⟩ (.slice (some ⟨hq, 0, none⟩) (L.length + 1) cq)) w.heap.size 34 (m4V M.cap (some ⟨hq, 0, none⟩) (L.length + 1) cq (some ⟨bG, oG, none⟩) M.G.length cG false)) := l0.put 1 _
        have HL1 := Lib.hid (l1.kept k2 (fun (e : w.heap.size + 1 = w.heap.size) => by omega))
        have HB1 := Lib.hid (hb.trans (k2.below hb.size (fun j hj (e : j = w.heap.size) => by omega)))
        have HO := Lib.hid (owns_kept ho4 k2 (fun r cur e _ (e2 : r = w.heap.size) => by
          simp only [Value.ownBlock, Option.some.injEq] at e
          omega))
        have hw1 : IntKind.u64.wrap ((L.length : Int) + 1 - 1) = (L.length : Int) := by rw [IntKind.wrap_u64]; omega
        have hw2 : IntKind.u64.wrap (L.length : Int) = (L.length : Int) := by rw [IntKind.wrap_u64]; omega
        have hqz : hq < (w4.setCell ⟨w.heap.size, 1, none⟩ (.slice (some ⟨hq, 0, none⟩) (L.length + 1) cq)).heap.size := (HO.out.lt hq rfl).2
        clear L03 L13 HB3 ho4 hb4 l0 l1 hb k2 HO3 hql
        go_wp2_with fail
        clear g1f g1c hw4
        generalize w4.setCell ⟨w.heap.size, 1, none⟩ (.slice (some ⟨hq, 0, none⟩) (L.length + 1) cq) = w5 at *
        have c0 := HL0.out.cell 0
        have c1 := HL0.out.cell 1
        have c2 := HL0.out.cell 2
        have c3 := HL0.out.cell 3
        simp only [List.getElem?_toArray, List.getElem?_cons_zero, List.getElem?_cons_succ] at c0 c1 c2 c3
        have d0 := HL1.out.cell 0
        have d1 := HL1.out.cell 1
        have d2 := HL1.out.cell 2
        have d3 := HL1.out.cell 3
        simp only [List.getElem?_toArray, List.getElem?_cons_zero, List.getElem?_cons_succ] at d0 d1 d2 d3
        have f0 := HL1.out.free 0
        have f1 := HL1.out.free 1
        have f2 := HL1.out.free 2
        have f3 := HL1.out.free 3
        have hlt1 := HL1.out.lt
        have hl1 : (L ++ [v]).length = L.length + 1 := by simp
        have HL5 := Lib.hid hl1
        clear hl1
        obtain ⟨q0, q1, q2, q3⟩ := stf_cells (w := w5) (a0 := .int .i64 (M.cap : Int)) (a1 := (.slice (some ⟨hq, 0, none⟩) (L.length + 1) cq)) (a2 := (.slice (some ⟨bG, oG, none⟩) M.G.length cG)) (a3 := .bool false) HL1.out rfl
        have HBE := Lib.hid (stf_below (b := w.heap.size + 1) (.int .i64 (M.cap : Int)) (.slice (some ⟨hq, 0, none⟩) (L.length + 1) cq) (.slice (some ⟨bG, oG, none⟩) M.G.length cG) (.bool false) HB1.out (by omega))
        have HKE := Lib.hid (stf_kept w5 (w.heap.size + 1) (.int .i64 (M.cap : Int)) (.slice (some ⟨hq, 0, none⟩) (L.length + 1) cq) (.slice (some ⟨bG, oG, none⟩) M.G.length cG) (.bool false))
        go_region
        all_goals
          go_wp2
          refine bodyPost_ret (v := .tuple #[.int .u64 (L.length : Int), .int .i64 0, .agg #[.int .i64 (M.cap : Int), (.slice (some ⟨hq, 0, none⟩) (L.length + 1) cq), (.slice (some ⟨bG, oG, none⟩) M.G.length cG), .bool false]]) (by simp [results, Try.results14, go_sem, q0, q1, q2, q3]) rfl ?_
          exact (⟨some ⟨hq, 0, none⟩, cq, by rw [HE.out, HV.out, HP.out, HL5.out]; rfl, by rw [HP.out, HL5.out]; exact SeqAt.of_owns (owns_drew (owns_kept HO.out HKE.out (fun r cur e _ (e2 : r = w.heap.size + 1) => by simp only [Value.ownBlock, Option.some.injEq] at e; omega))), (fun e => by cases e), .inr (fun b o e => by simp only [Option.some.injEq, Addr.mk.injEq] at e; obtain ⟨rfl, _⟩ := e; exact ⟨by omega, Nat.lt_of_lt_of_le hqz HKE.out.size⟩), below_drewN HBE.out 1⟩)
end
end Go.Proofs.Ytflaaogopcgdaaa
