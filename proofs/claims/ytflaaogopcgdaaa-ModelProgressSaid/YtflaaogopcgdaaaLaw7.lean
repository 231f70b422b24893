import Derived.Test.YtflaaogopcgdaaaLmath4
namespace Go.Proofs.Ytflaaogopcgdaaa
open Go.RowKit
set_option linter.unusedVariables false
set_option linter.unusedSimpArgs false
/-- A pending operation as cells. -/
abbrev pdC (p : Pd) : Array Value := #[.int .i64 (p.k : Int), .int .i64 p.j, .int .u64 (p.t : Int), .int .u64 (p.v : Int)]
abbrev pd0 : Pd := ⟨0, 0, 0, 0⟩
abbrev pdZ : Array Value := #[.int .i64 0, .int .i64 0, .int .u64 0, .int .u64 0]
/-- A ring in block g5 and a log, both made since wA. -/
def LnS (wA w : World) (q g gb : Nat) (vb : Option Nat) (R : Rg) (M : Md) : Prop := RgAt w q 83 [] [] R ∧ MdAt w wA.heap.size g gb vb M ∧ wA.heap.size ≤ q ∧ Below wA.heap.size wA w
section
variable {wA w w' : World} {q g gb : Nat} {vb : Option Nat} {R R' : Rg} {M M' : Md}
theorem LnS.later (h : LnS wA w q g gb vb R M) (k : Below w.heap.size w w') : LnS wA w' q g gb vb R M := ⟨h.1.later k, h.2.1.later k, h.2.2.1, h.2.2.2.trans (k.mono h.2.2.2.size)⟩
theorem RgAt.lies (h : RgAt w q 83 [] [] R) : ∃ cs, Lies w q 83 cs := by
  obtain ⟨_, L, _, _, h3⟩ := h
  exact ⟨_, h3⟩
theorem LnS.ring (h : LnS wA w q g gb vb R M) (hr : RgAt w' q 83 [] [] R') (hk : Kept (oneRow q) w w') : LnS wA w' q g gb vb R' M := by
  obtain ⟨cs, hl⟩ := RgAt.lies h.1
  obtain ⟨p1, p2, p3⟩ := h.2.1.apart hl (by decide) (by decide)
  exact ⟨hr, h.2.1.kept hk (fun (e : g = q) => p1 e.symm) (fun (e : gb = q) => p2 e.symm) (fun r e (e2 : r = q) => p3 (by rw [e, e2])), h.2.2.1, h.2.2.2.trans (hk.below h.2.2.2.size (fun i hi (e : i = q) => by have := h.2.2.1; omega))⟩
theorem LnS.log (h : LnS wA w q g gb vb R M) (hs : MdStep w w' wA.heap.size g gb vb M') : ∃ vb', LnS wA w' q g gb vb' R M' := by
  obtain ⟨cs, hl⟩ := RgAt.lies h.1
  obtain ⟨p1, p2, p3⟩ := h.2.1.apart hl (by decide) (by decide)
  have hb := hs.below h.2.1 h.2.2.2
  obtain ⟨vb', m1, hk, hv⟩ := hs
  refine ⟨vb', h.1.kept hk (fun hr => ?_), m1, h.2.2.1, hb⟩
  rcases hr with hr | hr | hr
  · exact p1 hr
  · exact p2 hr
  · exact p3 hr
end
theorem pub_tail (R : Rg) (t v : Nat) : (pubR R t v).tail = R.tail := by unfold pubR; split <;> rfl
theorem rel_tail (R : Rg) (j : Int) (t : Nat) : (relR R j t).tail = R.tail := by unfold relR; split <;> rfl
theorem LnS.far {wA w w' : World} {q g gb b : Nat} {vb : Option Nat} {R : Rg} {M : Md} {T : TypeId} {cs : Array Value} (h : LnS wA w q g gb vb R M) (hl : Lies w b T cs) (h1 : T ≠ 36) (h2 : T ≠ 68) (h3 : T ≠ 83) (hk : Kept (oneRow b) w w') (hb : wA.heap.size ≤ b) : LnS wA w' q g gb vb R M := by
  obtain ⟨cs, hr⟩ := RgAt.lies h.1
  obtain ⟨p1, p2, p3⟩ := h.2.1.apart hl h1 h2
  have hqb : q ≠ b := by rintro rfl; exact h3 (hl.same hr).1
  exact ⟨h.1.kept hk (fun (e : q = b) => hqb e), h.2.1.kept hk (fun (e : g = b) => p1 e.symm) (fun (e : gb = b) => p2 e.symm) (fun r e (e2 : r = b) => p3 (by rw [e, e2])), h.2.2.1, h.2.2.2.trans (hk.below h.2.2.2.size (fun i hi (e : i = b) => by omega))⟩
set_option maxHeartbeats 4000000 in
set_option maxRecDepth 100000 in
/-- A client goes on with an operation. -/
theorem lnFurther {wA w : World} {q g gb : Nat} {vb : Option Nat} {R : Rg} {M : Md} {all : List Int} (p : Pd) (h : LnS wA w q g gb vb R M) (hl : Lin R M all) (ht : R.tail ≤ 1000) (hp : PdOk R all p) (hk : p.k ≠ 0) (hv : p.v < 18446744073709551616) :
    Calls Try.prog 24 #[.pointer (some ⟨q, 0, none⟩), .agg (pdC p)] w fun e w' => ∃ R' p', e = .returned (.tuple #[.agg (pdC p'), .bool true]) ∧ LnS wA w' q g gb vb R' M ∧ Lin R' M all ∧ R'.tail = R.tail ∧ (p' = p ∨ p' = pd0) ∧ (∀ x, PdNe x p → PdOk R all x → PdOk R' all x) ∧ PdOk R' all p' ∧ Kept (oneRow q) w w' ∧ (∀ (P : List Pd) (m : Nat), P[m]? = some p → Whole R P → Whole R' (P.set m p')) ∧ ((p.k = 1 ∧ pubE R p.t = 0 ∨ p.k = 2 ∧ relE R p.j p.t = 0) → p' = pd0) := by
  have hb0 := (Below.refl w.heap.size w).alloc (Nat.le_refl _) (.cells (pdC p) 55)
  have hb1 := hb0.alloc (by simp) (.cells pdZ 55)
  have l0 := (Lies.made w 55 (pdC p)).alloc (.cells pdZ 55)
  have l1 := Lies.made (w.alloc (.cells (pdC p) 55)) 55 pdZ
  rw [World.size_alloc] at l1
  have h1 := h.later hb1
  have hqw : q < w.heap.size := h.1.lt
  have hbw : wA.heap.size ≤ w.heap.size := h.2.2.2.size
  have hka : Kept (oneRow q) w ((w.alloc (.cells (pdC p) 55)).alloc (.cells pdZ 55)) := (Kept.of_below hb1).mono (fun _ _ f => f.elim)
  have HL0 := Lib.hid l0
  have HL1 := Lib.hid l1
  have H1 := Lib.hid h1
  have HKA := Lib.hid hka
  clear hb0 hb1 l0 l1 h1 hka h
  rcases hp with hp | ⟨hk1, hs⟩ | ⟨hk2, hs⟩
  · exact absurd hp hk
  · obtain ⟨e1, e2, e3⟩ := hl.publish ht hv hs
    have HC := Lib.hid (rgPublish p.t p.v H1.out.1 rfl (by have := hs.1; omega) (by omega))
    obtain ⟨pk, pj, pt, pv⟩ := p
    obtain rfl : pk = 1 := hk1
    have HLN := Lib.hid hl
    have HPD : Hid (PdOk R all ⟨1, pj, pt, pv⟩) := .inr (.inl ⟨rfl, hs⟩)
    have HWH : Hid (pubE R pt = 0 → ∀ (P : List Pd) (m : Nat), P[m]? = some ⟨1, pj, pt, pv⟩ → Whole R P → Whole (pubR R pt pv) (P.set m pd0)) := fun h0 P m hm hW => hW.publish hl ht hs.1 h0 hm
    have HE2 := Lib.hid e2
    have HE3 := Lib.hid e3
    clear hl hs e2 e3 hk hv
    simp only at HC e1
    go_enter Try.func24, Try.ntmps24
    go_upto_region 1 with (fail)
    generalize (w.alloc (.cells (pdC ⟨1, pj, pt, pv⟩) 55)).alloc (.cells pdZ 55) = w2 at *
    have c0 := HL0.out.cell 0
    have c1 := HL0.out.cell 1
    have c2 := HL0.out.cell 2
    have c3 := HL0.out.cell 3
    simp only [pdC, List.getElem?_toArray, List.getElem?_cons_zero, List.getElem?_cons_succ] at c0 c1 c2 c3
    have d0 := HL1.out.cell 0
    have d1 := HL1.out.cell 1
    have d2 := HL1.out.cell 2
    have d3 := HL1.out.cell 3
    simp only [pdC, List.getElem?_toArray, List.getElem?_cons_zero, List.getElem?_cons_succ] at d0 d1 d2 d3
    have f0 := HL1.out.free 0
    have f1 := HL1.out.free 1
    have f2 := HL1.out.free 2
    have f3 := HL1.out.free 3
    have hlt1 := HL1.out.lt
    go_wp2_with fail
    refine HC.out.mono ?_
    rintro e w3 ⟨rfl, hr3, hk3⟩
    have hs3 := H1.out.ring hr3 hk3
    have HL0 := Lib.hid (HL0.out.kept hk3 (fun (e : w.heap.size = q) => by omega))
    have HL1 := Lib.hid (HL1.out.kept hk3 (fun (e : w.heap.size + 1 = q) => by omega))
    have hk3 := HKA.out.trans hk3 (fun _ _ e => e)
    have hw3 := hk3.size
    clear c0 c1 c2 c3 d0 d1 d2 d3 f0 f1 f2 f3 hlt1 HC
    have c0 := HL0.out.cell 0
    have c1 := HL0.out.cell 1
    have c2 := HL0.out.cell 2
    have c3 := HL0.out.cell 3
    simp only [pdC, List.getElem?_toArray, List.getElem?_cons_zero, List.getElem?_cons_succ] at c0 c1 c2 c3
    have d0 := HL1.out.cell 0
    have d1 := HL1.out.cell 1
    have d2 := HL1.out.cell 2
    have d3 := HL1.out.cell 3
    simp only [pdC, List.getElem?_toArray, List.getElem?_cons_zero, List.getElem?_cons_succ] at d0 d1 d2 d3
    have f0 := HL1.out.free 0
    have f1 := HL1.out.free 1
    have f2 := HL1.out.free 2
    have f3 := HL1.out.free 3
    have hlt1 := HL1.out.lt
    rcases e1 with e1 | e1
    · obtain ⟨m1, m2⟩ := HE3.out e1
      have HW1 := Lib.hid (HWH.out e1)
      have hkE := stf_kept w3 (w.heap.size + 1) (.int .i64 0) (.int .i64 0) (.int .u64 0) (.int .u64 0)
      obtain ⟨q0, q1, q2, q3⟩ := stf_cells (w := w3) (a0 := .int .i64 0) (a1 := .int .i64 0) (a2 := .int .u64 0) (a3 := .int .u64 0) HL1.out rfl
      have hsE := Lib.hid (hs3.far HL1.out (by decide) (by decide) (by decide) hkE (by omega))
      have hkk := Lib.hid (hk3.trans hkE (fun i hi (e : i = w.heap.size + 1) => by omega))
      have M1 := Lib.hid m1
      have M2 := Lib.hid (m2 pj)
      rw [e1]
      clear hs3 hr3 hk3 hkE m1 m2 e1
      go_wp2
      refine bodyPost_ret (v := .tuple #[.agg pdZ, .bool true]) (by simp [results, Try.results24, go_sem, q0, q1, q2, q3]) rfl ?_
      exact ⟨_, pd0, rfl, hsE.out, M1.out, (pub_tail R pt pv), .inr rfl, M2.out, .inl rfl, hkk.out, HW1.out, fun _ => rfl⟩
    · have hRR := HE2.out (by omega)
      have E1 := Lib.hid e1
      rw [hRR] at hs3
      have hkE := stf_kept w3 (w.heap.size + 1) (.int .i64 1) (.int .i64 pj) (.int .u64 (pt : Int)) (.int .u64 (pv : Int))
      obtain ⟨q0, q1, q2, q3⟩ := stf_cells (w := w3) (a0 := .int .i64 1) (a1 := .int .i64 pj) (a2 := .int .u64 (pt : Int)) (a3 := .int .u64 (pv : Int)) HL1.out rfl
      have hsE := Lib.hid (hs3.far HL1.out (by decide) (by decide) (by decide) hkE (by omega))
      have hkk := Lib.hid (hk3.trans hkE (fun i hi (e : i = w.heap.size + 1) => by omega))
      rw [e1]
      clear hs3 hr3 hk3 hkE e1 hRR
      go_wp2
      refine bodyPost_ret (v := .tuple #[.agg (pdC ⟨1, pj, pt, pv⟩), .bool true]) (by simp [results, Try.results24, go_sem, q0, q1, q2, q3]) rfl ?_
      exact ⟨R, ⟨1, pj, pt, pv⟩, rfl, hsE.out, HLN.out, rfl, .inl rfl, fun x _ h => h, HPD.out, hkk.out, fun P m hm hW => (by rw [set_self hm]; exact hW), fun hc => by
        rcases hc with ⟨_, hc⟩ | ⟨hc, _⟩
        · rw [E1.out] at hc; exact absurd hc (by decide)
        · exact absurd hc (by decide)⟩
  · obtain ⟨e1, e2, e3⟩ := hl.release ht hs
    have htl : p.t < R.tail := by
      have := (List.getElem?_eq_some_iff.1 hs.2.2.1).1
      have := hl.2.1
      omega
    have HC := Lib.hid (rgRelease p.j p.t H1.out.1 rfl (by omega))
    obtain ⟨pk, pj, pt, pv⟩ := p
    obtain rfl : pk = 2 := hk2
    have HLN := Lib.hid hl
    have HPD : Hid (PdOk R all ⟨2, pj, pt, pv⟩) := .inr (.inr ⟨rfl, hs⟩)
    have HWH : Hid (relE R pj pt = 0 → ∀ (P : List Pd) (m : Nat), P[m]? = some ⟨2, pj, pt, pv⟩ → Whole R P → Whole (relR R pj pt) (P.set m pd0)) := fun h0 P m hm hW => hW.release hl hs.2.1 hs.1 h0 hm
    have HE2 := Lib.hid e2
    have HE3 := Lib.hid e3
    clear hl hs e2 e3 hk hv
    simp only at HC e1 htl
    go_enter Try.func24, Try.ntmps24
    go_upto_region 1 with (fail)
    generalize (w.alloc (.cells (pdC ⟨2, pj, pt, pv⟩) 55)).alloc (.cells pdZ 55) = w2 at *
    have c0 := HL0.out.cell 0
    have c1 := HL0.out.cell 1
    have c2 := HL0.out.cell 2
    have c3 := HL0.out.cell 3
    simp only [pdC, List.getElem?_toArray, List.getElem?_cons_zero, List.getElem?_cons_succ] at c0 c1 c2 c3
    have d0 := HL1.out.cell 0
    have d1 := HL1.out.cell 1
    have d2 := HL1.out.cell 2
    have d3 := HL1.out.cell 3
    simp only [pdC, List.getElem?_toArray, List.getElem?_cons_zero, List.getElem?_cons_succ] at d0 d1 d2 d3
    have f0 := HL1.out.free 0
    have f1 := HL1.out.free 1
    have f2 := HL1.out.free 2
    have f3 := HL1.out.free 3
    have hlt1 := HL1.out.lt
    go_wp2_with fail
    refine HC.out.mono ?_
    rintro e w3 ⟨rfl, hr3, hk3⟩
    have hs3 := H1.out.ring hr3 hk3
    have HL0 := Lib.hid (HL0.out.kept hk3 (fun (e : w.heap.size = q) => by omega))
    have HL1 := Lib.hid (HL1.out.kept hk3 (fun (e : w.heap.size + 1 = q) => by omega))
    have hk3 := HKA.out.trans hk3 (fun _ _ e => e)
    have hw3 := hk3.size
    clear c0 c1 c2 c3 d0 d1 d2 d3 f0 f1 f2 f3 hlt1 HC
    have c0 := HL0.out.cell 0
    have c1 := HL0.out.cell 1
    have c2 := HL0.out.cell 2
    have c3 := HL0.out.cell 3
    simp only [pdC, List.getElem?_toArray, List.getElem?_cons_zero, List.getElem?_cons_succ] at c0 c1 c2 c3
    have d0 := HL1.out.cell 0
    have d1 := HL1.out.cell 1
    have d2 := HL1.out.cell 2
    have d3 := HL1.out.cell 3
    simp only [pdC, List.getElem?_toArray, List.getElem?_cons_zero, List.getElem?_cons_succ] at d0 d1 d2 d3
    have f0 := HL1.out.free 0
    have f1 := HL1.out.free 1
    have f2 := HL1.out.free 2
    have f3 := HL1.out.free 3
    have hlt1 := HL1.out.lt
    rcases e1 with e1 | e1
    · obtain ⟨m0, m1, m2⟩ := HE3.out e1
      have HW1 := Lib.hid (HWH.out e1)
      have hkE := stf_kept w3 (w.heap.size + 1) (.int .i64 0) (.int .i64 0) (.int .u64 0) (.int .u64 0)
      obtain ⟨q0, q1, q2, q3⟩ := stf_cells (w := w3) (a0 := .int .i64 0) (a1 := .int .i64 0) (a2 := .int .u64 0) (a3 := .int .u64 0) HL1.out rfl
      have hsE := Lib.hid ((hs3.far HL1.out (by decide) (by decide) (by decide) hkE (by omega)).later (below_drewN (Below.refl _ _) 1))
      have hkk := Lib.hid ((hk3.trans hkE (fun i hi (e : i = w.heap.size + 1) => by omega)).trans (Kept.drewN (oneRow q) _ 1) (fun _ _ e => e))
      have M1 := Lib.hid m1
      have M2 := Lib.hid m2
      rw [e1, m0]
      clear hs3 hr3 hk3 hkE m1 m2 e1 m0
      go_wp2_with fail
      go_region
      all_goals
        go_wp2
        refine bodyPost_ret (v := .tuple #[.agg pdZ, .bool true]) (by simp [results, Try.results24, go_sem, q0, q1, q2, q3]) rfl ?_
        exact ⟨_, pd0, rfl, hsE.out, M1.out, (rel_tail R pj pt), .inr rfl, M2.out, .inl rfl, hkk.out, HW1.out, fun _ => rfl⟩
    · have hRR := HE2.out (by omega)
      have E1 := Lib.hid e1
      rw [hRR] at hs3
      have hkE := stf_kept w3 (w.heap.size + 1) (.int .i64 2) (.int .i64 pj) (.int .u64 (pt : Int)) (.int .u64 (pv : Int))
      obtain ⟨q0, q1, q2, q3⟩ := stf_cells (w := w3) (a0 := .int .i64 2) (a1 := .int .i64 pj) (a2 := .int .u64 (pt : Int)) (a3 := .int .u64 (pv : Int)) HL1.out rfl
      have hsE := Lib.hid (hs3.far HL1.out (by decide) (by decide) (by decide) hkE (by omega))
      have hkk := Lib.hid (hk3.trans hkE (fun i hi (e : i = w.heap.size + 1) => by omega))
      rw [e1]
      clear hs3 hr3 hk3 hkE e1 hRR
      go_wp2
      refine bodyPost_ret (v := .tuple #[.agg (pdC ⟨2, pj, pt, pv⟩), .bool true]) (by simp [results, Try.results24, go_sem, q0, q1, q2, q3]) rfl ?_
      exact ⟨R, ⟨2, pj, pt, pv⟩, rfl, hsE.out, HLN.out, rfl, .inl rfl, fun x _ h => h, HPD.out, hkk.out, fun P m hm hW => (by rw [set_self hm]; exact hW), fun hc => by
        rcases hc with ⟨hc, _⟩ | ⟨_, hc⟩
        · exact absurd hc (by decide)
        · rw [E1.out] at hc; exact absurd hc (by decide)⟩
end Go.Proofs.Ytflaaogopcgdaaa
