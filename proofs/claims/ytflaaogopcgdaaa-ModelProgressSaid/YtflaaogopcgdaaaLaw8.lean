import Derived.Test.YtflaaogopcgdaaaLaw7
namespace Go.Proofs.Ytflaaogopcgdaaa
open Go.RowKit
set_option linter.unusedVariables false
set_option linter.unusedSimpArgs false
/-- A client's step. -/
structure Op4 where
  c : Int
  k : Int
  j : Int
  v : Nat
instance : Inhabited Op4 := ⟨⟨0, 0, 0, 0⟩⟩
def op4F (o : Op4) : List Value := [.int .i64 o.c, .int .i64 o.k, .int .i64 o.j, .int .u64 (o.v : Int)]
theorem op4F_length (o : Op4) : (op4F o).length = 4 := rfl
def op4Ok (o : Op4) : Prop := -9223372036854775808 ≤ o.c ∧ o.c ≤ 9223372036854775807 ∧ -9223372036854775808 ≤ o.k ∧ o.k ≤ 9223372036854775807 ∧ -9223372036854775808 ≤ o.j ∧ o.j ≤ 9223372036854775807 ∧ o.v ≤ 18446744073709551615
abbrev op4C (x : Op4) : Array Value := #[.int .i64 x.c, .int .i64 x.k, .int .i64 x.j, .int .u64 (x.v : Int)]
def NatsOk (all : List Int) : Prop := ∀ y ∈ all, 0 ≤ y ∧ y < 18446744073709551616
/-- The blocks of a ring and a log. -/
def lnK (q g gb : Nat) (vb : Option Nat) : Nat → Prop := fun k => k = q ∨ mdS g gb vb k
/-- What a beginning leaves. -/
def BegPost (wA w : World) (q g gb : Nat) (vb : Option Nat) (R : Rg) (all : List Int) (e : Ending) (w' : World) : Prop :=
  ∃ vb' R' M' all' p', e = .returned (.tuple #[.agg (pdC p'), .bool true]) ∧ LnS wA w' q g gb vb' R' M' ∧ Lin R' M' all' ∧ R'.tail ≤ R.tail + 1 ∧ (∀ z, PdOk R all z → PdOk R' all' z) ∧ PdOk R' all' p' ∧ (∀ z, PdOk R all z → PdNe p' z ∧ PdNe z p') ∧ NatsOk all' ∧ p'.v < 18446744073709551616 ∧ Kept (lnK q g gb vb) w w' ∧ VbNext w vb vb' ∧ ∀ (P : List Pd) (m : Nat) (p0 : Pd), P[m]? = some p0 → p0.k = 0 → Whole R P → Whole R' (P.set m p')
theorem Whole.zero {R : Rg} {P : List Pd} (hw : Whole R P) {m : Nat} {p0 : Pd} (hm : P[m]? = some p0) (h0 : p0.k = 0) : Whole R (P.set m pd0) :=
  ⟨fun t ht hu => by
    obtain ⟨p, hp, hk, hpt⟩ := hw.1 t ht hu
    exact ⟨p, mem_set_keep hm hp (fun e2 => by subst e2; omega), hk, hpt⟩, fun j t hr hh hu => by
    obtain ⟨p, hp, hk, hpj, hpt⟩ := hw.2 j t hr hh hu
    exact ⟨p, mem_set_keep hm hp (fun e2 => by subst e2; omega), hk, hpj, hpt⟩⟩
theorem ne_pd0 (z : Pd) : PdNe pd0 z ∧ PdNe z pd0 := ⟨⟨fun e => by have := e.1; simp at this, fun e => by have := e.1; simp at this⟩, ⟨fun e => by have := e.2.1; simp at this, fun e => by have := e.2.1; simp at this⟩⟩
theorem VbNext.mono {w w' : World} {a b : Option Nat} (h : VbNext w' a b) (k : w.heap.size ≤ w'.heap.size) : VbNext w a b := by
  rcases h with h | ⟨i, h1, h2⟩
  · exact .inl h
  · exact .inr ⟨i, h1, Nat.le_trans k h2⟩
section
variable {wA w w' : World} {q g gb : Nat} {vb : Option Nat} {R : Rg} {M : Md}
theorem Lies.log {wA w w' : World} {g gb b : Nat} {vb : Option Nat} {M M' : Md} {T : TypeId} {cs : Array Value} (h : Lies w b T cs) (hm : MdAt w wA.heap.size g gb vb M) (hs : MdStep w w' wA.heap.size g gb vb M') (h1 : T ≠ 36) (h2 : T ≠ 68) : Lies w' b T cs := by
  obtain ⟨p1, p2, p3⟩ := hm.apart h h1 h2
  exact h.step hs p1 p2 p3
theorem MdStep.kept_ {B : Nat} (hs : MdStep w w' B g gb vb M) : Kept (lnK q g gb vb) w w' ∧ ∃ vb', VbNext w vb vb' ∧ MdAt w' B g gb vb' M := by
  obtain ⟨vb', m, hk, hv⟩ := hs
  exact ⟨hk.mono (fun i _ h => .inr h), vb', hv, m⟩
theorem LnS.log_ {M' : Md} (h : LnS wA w q g gb vb R M) (hs : MdStep w w' wA.heap.size g gb vb M') : ∃ vb', LnS wA w' q g gb vb' R M' ∧ Kept (lnK q g gb vb) w w' ∧ VbNext w vb vb' := by
  obtain ⟨cs, hl⟩ := RgAt.lies h.1
  obtain ⟨p1, p2, p3⟩ := h.2.1.apart hl (by decide) (by decide)
  have hb := hs.below h.2.1 h.2.2.2
  obtain ⟨vb', m1, hk, hv⟩ := hs
  refine ⟨vb', ⟨h.1.kept hk (fun hr => ?_), m1, h.2.2.1, hb⟩, hk.mono (fun i _ h => .inr h), hv⟩
  rcases hr with hr | hr | hr
  · exact p1 hr
  · exact p2 hr
  · exact p3 hr
end
set_option maxHeartbeats 8000000 in
set_option maxRecDepth 100000 in
/-- A client begins an operation. -/
theorem lnBegin {wA w : World} {q g gb : Nat} {vb : Option Nat} {R : Rg} {M : Md} {all : List Int} (x : Op4) (h : LnS wA w q g gb vb R M) (hl : Lin R M all) (ht : R.tail ≤ 500) (hn : NatsOk all) (hx : op4Ok x) :
    Calls Try.prog 29 #[.pointer (some ⟨q, 0, none⟩), .pointer (some ⟨g, 0, none⟩), .agg (op4C x)] w (BegPost wA w q g gb vb R all) := by
  have hb0 := (Below.refl w.heap.size w).alloc (Nat.le_refl _) (.cells (op4C x) 71)
  have hb1 := hb0.alloc (by simp) (.cells pdZ 55)
  have l0 := (Lies.made w 71 (op4C x)).alloc (.cells pdZ 55)
  have l1 := Lies.made (w.alloc (.cells (op4C x) 71)) 55 pdZ
  rw [World.size_alloc] at l1
  have h1 := h.later hb1
  have hqw : q < w.heap.size := h.1.lt
  have hbw : wA.heap.size ≤ w.heap.size := h.2.2.2.size
  have hka : Kept (lnK q g gb vb) w ((w.alloc (.cells (op4C x) 71)).alloc (.cells pdZ 55)) := (Kept.of_below hb1).mono (fun _ _ f => f.elim)
  have HL0 := Lib.hid l0
  have HL1 := Lib.hid l1
  have H1 := Lib.hid h1
  have HKA := Lib.hid hka
  have HLN := Lib.hid hl
  have HNN := Lib.hid hn
  have hok := Lib.hid h.2.1.1
  have hxv := hx.2.2.2.2.2.2
  have hMp : M.p + M.L.length ≤ 1000 := by have := hl.2.2.2.2.2.2.1.1; have := hl.2.1; omega
  clear hb0 hb1 l0 l1 h1 hka h hl hn hx
  go_enter Try.func29, Try.ntmps29
  go_upto_region 1 with (fail)
  generalize (w.alloc (.cells (op4C x) 71)).alloc (.cells pdZ 55) = w2 at *
  have x1 := (HL0.out.cell 1).trans (show _ = some (Value.int .i64 x.k) from rfl)
  have x2 := (HL0.out.cell 2).trans (show _ = some (Value.int .i64 x.j) from rfl)
  have x3 := (HL0.out.cell 3).trans (show _ = some (Value.int .u64 (x.v : Int)) from rfl)
  have hl2 := HL1.out.lt
  by_cases k0 : (wrap64 ((IntKind.u64.wrap x.k).tmod 5) == 0) = true
  · have CEV := Lib.hid HLN.out.claimE
    have HC := Lib.hid (rgClaim H1.out.1 rfl (by omega))
    go_wp2_with fail
    refine HC.out.mono ?_
    rintro e w3 ⟨rfl, hr3, hk3⟩
    have hs3 := H1.out.ring hr3 hk3
    have HL0 := Lib.hid (HL0.out.kept hk3 (fun (e : w.heap.size = q) => by omega))
    have HL1 := Lib.hid (HL1.out.kept hk3 (fun (e : w.heap.size + 1 = q) => by omega))
    have hk3 := HKA.out.trans hk3 (fun _ _ (e : _ = q) => .inl e)
    have hw3 := hk3.size
    have hP := mdPut (x.v : Int) hs3.2.1 (by omega)
    rw [← CEV.out.1, ← CEV.out.2] at hP
    have HP := Lib.hid hP
    have HS3 := Lib.hid hs3
    have HK3 := Lib.hid hk3
    clear x1 x2 x3 hl2
    have x3 := (HL0.out.cell 3).trans (show _ = some (Value.int .u64 (x.v : Int)) from rfl)
    have hl3 := HL0.out.lt
    clear HC hr3 hs3 hk3 hP H1 HKA
    go_wp2_with fail
    refine HP.out.mono ?_
    rintro e w4 ⟨rfl, hst⟩
    have HL0 := Lib.hid (HL0.out.log HS3.out.2.1 hst (by decide) (by decide))
    have HL1 := Lib.hid (HL1.out.log HS3.out.2.1 hst (by decide) (by decide))
    obtain ⟨vb', hs4, hk4, hv4⟩ := HS3.out.log_ hst
    have hk4 := HK3.out.trans hk4 (fun _ _ h => h)
    have hw4 := hk4.size
    have HV4 := Lib.hid (VbNext.mono hv4 hw3)
    clear hst HP HS3 HK3 x3 hl3 hv4
    by_cases hE : claimE R = 0
    · have hE0 := hE
      have hV : claimV R = R.tail := by unfold claimV; rw [if_pos hE]
      obtain ⟨m1, m2, m3, m4⟩ := HLN.out.claim (by omega) x.v hE
      have M1 := Lib.hid m1
      have M2 := Lib.hid m2
      have M3 := Lib.hid m3
      have M4 := Lib.hid (fun z hz => m4 z hz)
      have hnn : Hid (NatsOk (all ++ [(x.v : Int)])) := fun y hy => by
        rcases List.mem_append.1 hy with hy | hy
        · exact HNN.out y hy
        · simp at hy; subst hy; omega
      have htl : Hid ((claimR R).tail ≤ R.tail + 1) := by
        show _ ≤ _; unfold claimR; split <;> simp
      rw [hE, hV]
      have HE0 := Lib.hid hE0
      clear hE hE0 hV m1 m2 m3 m4 CEV
      have hkE := stf_kept w4 (w.heap.size + 1) (.int .i64 1) (.int .i64 0) (.int .u64 (R.tail : Int)) (.int .u64 (x.v : Int))
      obtain ⟨q0, q1, q2, q3⟩ := stf_cells (w := w4) (a0 := (.int .i64 1)) (a1 := (.int .i64 0)) (a2 := (.int .u64 (R.tail : Int))) (a3 := (.int .u64 (x.v : Int))) HL1.out rfl
      have hsE := Lib.hid (hs4.far HL1.out (by decide) (by decide) (by decide) hkE (by omega))
      have hkk := Lib.hid (hk4.trans hkE (fun i hi (e : i = w.heap.size + 1) => by omega))
      have y3 := (HL0.out.cell 3).trans (show _ = some (Value.int .u64 (x.v : Int)) from rfl)
      have y2 := (HL0.out.cell 2).trans (show _ = some (Value.int .i64 x.j) from rfl)
      have d0 := HL1.out.cell 0
      have d1 := HL1.out.cell 1
      have d2 := HL1.out.cell 2
      have d3 := HL1.out.cell 3
      simp only [List.getElem?_toArray, List.getElem?_cons_zero, List.getElem?_cons_succ] at d0 d1 d2 d3
      have f0 := HL1.out.free 0
      have f1 := HL1.out.free 1
      have f2 := HL1.out.free 2
      have f3 := HL1.out.free 3
      have hlt1 := HL1.out.lt
      clear hs4 hk4 hkE HL0 HL1
      go_wp2
      refine bodyPost_ret (v := .tuple #[.agg #[(.int .i64 1), (.int .i64 0), (.int .u64 (R.tail : Int)), (.int .u64 (x.v : Int))], .bool true]) (by simp [results, Try.results29, go_sem, q0, q1, q2, q3]) rfl ?_
      exact (⟨vb', _, _, _, ⟨1, 0, R.tail, x.v⟩, rfl, hsE.out, M1.out, htl.out, M2.out, M3.out, M4.out, hnn.out, by simp only; omega, hkk.out, HV4.out, fun P m p0 hm hk hW => Whole.claim hW HE0.out hm hk x.v⟩)
    · have hV : claimV R = 0 := by unfold claimV; rw [if_neg hE]
      have hR : claimR R = R := by unfold claimR; rw [if_neg hE]
      have hM : mputM M (x.v : Int) = M := by unfold mputM; rw [if_neg (by rw [← CEV.out.1]; exact hE)]
      rw [hR, hM] at hs4
      obtain ⟨E, hEE⟩ : ∃ E, claimE R = E := ⟨_, rfl⟩
      rw [hEE] at hE ⊢
      rw [hV]
      have e5 : ((E : Int) != 0) = true := by rw [bne_iff_ne]; omega
      clear hEE hV hR hM CEV
      have hkE := stf_kept w4 (w.heap.size + 1) (.int .i64 0) (.int .i64 0) (.int .u64 0) (.int .u64 0)
      obtain ⟨q0, q1, q2, q3⟩ := stf_cells (w := w4) (a0 := (.int .i64 0)) (a1 := (.int .i64 0)) (a2 := (.int .u64 0)) (a3 := (.int .u64 0)) HL1.out rfl
      have hsE := Lib.hid (hs4.far HL1.out (by decide) (by decide) (by decide) hkE (by omega))
      have hkk := Lib.hid (hk4.trans hkE (fun i hi (e : i = w.heap.size + 1) => by omega))
      have y3 := (HL0.out.cell 3).trans (show _ = some (Value.int .u64 (x.v : Int)) from rfl)
      have y2 := (HL0.out.cell 2).trans (show _ = some (Value.int .i64 x.j) from rfl)
      have d0 := HL1.out.cell 0
      have d1 := HL1.out.cell 1
      have d2 := HL1.out.cell 2
      have d3 := HL1.out.cell 3
      simp only [List.getElem?_toArray, List.getElem?_cons_zero, List.getElem?_cons_succ] at d0 d1 d2 d3
      have f0 := HL1.out.free 0
      have f1 := HL1.out.free 1
      have f2 := HL1.out.free 2
      have f3 := HL1.out.free 3
      have hlt1 := HL1.out.lt
      clear hs4 hk4 hkE HL0 HL1
      go_wp2
      refine bodyPost_ret (v := .tuple #[.agg #[(.int .i64 0), (.int .i64 0), (.int .u64 0), (.int .u64 0)], .bool true]) (by simp [results, Try.results29, go_sem, q0, q1, q2, q3]) rfl ?_
      exact (⟨vb', R, M, all, pd0, rfl, hsE.out, HLN.out, by omega, fun z h => h, .inl rfl, fun z _ => ne_pd0 z, HNN.out, by decide, hkk.out, HV4.out, fun P m p0 hm hk hW => Whole.zero hW hm hk⟩)
  have k0 : (wrap64 ((IntKind.u64.wrap x.k).tmod 5) == 0) = false := by simpa using k0
  by_cases k1 : (wrap64 ((IntKind.u64.wrap x.k).tmod 5) == 1) = true
  · have CEV := Lib.hid HLN.out.claimE
    have HC := Lib.hid (rgClaim H1.out.1 rfl (by omega))
    go_wp2_with fail
    refine HC.out.mono ?_
    rintro e w3 ⟨rfl, hr3, hk3⟩
    have hs3 := H1.out.ring hr3 hk3
    have HL0 := Lib.hid (HL0.out.kept hk3 (fun (e : w.heap.size = q) => by omega))
    have HL1 := Lib.hid (HL1.out.kept hk3 (fun (e : w.heap.size + 1 = q) => by omega))
    have hk3 := HKA.out.trans hk3 (fun _ _ (e : _ = q) => .inl e)
    have hw3 := hk3.size
    have hP := mdPut (x.v : Int) hs3.2.1 (by omega)
    rw [← CEV.out.1, ← CEV.out.2] at hP
    have HP := Lib.hid hP
    have HS3 := Lib.hid hs3
    have HK3 := Lib.hid hk3
    clear x1 x2 x3 hl2
    have x3 := (HL0.out.cell 3).trans (show _ = some (Value.int .u64 (x.v : Int)) from rfl)
    have hl3 := HL0.out.lt
    clear HC hr3 hs3 hk3 hP H1 HKA
    go_wp2_with fail
    refine HP.out.mono ?_
    rintro e w4 ⟨rfl, hst⟩
    have HL0 := Lib.hid (HL0.out.log HS3.out.2.1 hst (by decide) (by decide))
    have HL1 := Lib.hid (HL1.out.log HS3.out.2.1 hst (by decide) (by decide))
    obtain ⟨vb', hs4, hk4, hv4⟩ := HS3.out.log_ hst
    have hk4 := HK3.out.trans hk4 (fun _ _ h => h)
    have hw4 := hk4.size
    have HV4 := Lib.hid (VbNext.mono hv4 hw3)
    clear hst HP HS3 HK3 x3 hl3 hv4
    by_cases hE : claimE R = 0
    · have hE0 := hE
      have hV : claimV R = R.tail := by unfold claimV; rw [if_pos hE]
      obtain ⟨m1, m2, m3, m4⟩ := HLN.out.claim (by omega) x.v hE
      have M1 := Lib.hid m1
      have M2 := Lib.hid m2
      have M3 := Lib.hid m3
      have M4 := Lib.hid (fun z hz => m4 z hz)
      have hnn : Hid (NatsOk (all ++ [(x.v : Int)])) := fun y hy => by
        rcases List.mem_append.1 hy with hy | hy
        · exact HNN.out y hy
        · simp at hy; subst hy; omega
      have htl : Hid ((claimR R).tail ≤ R.tail + 1) := by
        show _ ≤ _; unfold claimR; split <;> simp
      rw [hE, hV]
      have HE0 := Lib.hid hE0
      clear hE hE0 hV m1 m2 m3 m4 CEV
      have hkE := stf_kept w4 (w.heap.size + 1) (.int .i64 1) (.int .i64 0) (.int .u64 (R.tail : Int)) (.int .u64 (x.v : Int))
      obtain ⟨q0, q1, q2, q3⟩ := stf_cells (w := w4) (a0 := (.int .i64 1)) (a1 := (.int .i64 0)) (a2 := (.int .u64 (R.tail : Int))) (a3 := (.int .u64 (x.v : Int))) HL1.out rfl
      have hsE := Lib.hid (hs4.far HL1.out (by decide) (by decide) (by decide) hkE (by omega))
      have hkk := Lib.hid (hk4.trans hkE (fun i hi (e : i = w.heap.size + 1) => by omega))
      have y3 := (HL0.out.cell 3).trans (show _ = some (Value.int .u64 (x.v : Int)) from rfl)
      have y2 := (HL0.out.cell 2).trans (show _ = some (Value.int .i64 x.j) from rfl)
      have d0 := HL1.out.cell 0
      have d1 := HL1.out.cell 1
      have d2 := HL1.out.cell 2
      have d3 := HL1.out.cell 3
      simp only [List.getElem?_toArray, List.getElem?_cons_zero, List.getElem?_cons_succ] at d0 d1 d2 d3
      have f0 := HL1.out.free 0
      have f1 := HL1.out.free 1
      have f2 := HL1.out.free 2
      have f3 := HL1.out.free 3
      have hlt1 := HL1.out.lt
      clear hs4 hk4 hkE HL0 HL1
      go_wp2
      refine bodyPost_ret (v := .tuple #[.agg #[(.int .i64 1), (.int .i64 0), (.int .u64 (R.tail : Int)), (.int .u64 (x.v : Int))], .bool true]) (by simp [results, Try.results29, go_sem, q0, q1, q2, q3]) rfl ?_
      exact (⟨vb', _, _, _, ⟨1, 0, R.tail, x.v⟩, rfl, hsE.out, M1.out, htl.out, M2.out, M3.out, M4.out, hnn.out, by simp only; omega, hkk.out, HV4.out, fun P m p0 hm hk hW => Whole.claim hW HE0.out hm hk x.v⟩)
    · have hV : claimV R = 0 := by unfold claimV; rw [if_neg hE]
      have hR : claimR R = R := by unfold claimR; rw [if_neg hE]
      have hM : mputM M (x.v : Int) = M := by unfold mputM; rw [if_neg (by rw [← CEV.out.1]; exact hE)]
      rw [hR, hM] at hs4
      obtain ⟨E, hEE⟩ : ∃ E, claimE R = E := ⟨_, rfl⟩
      rw [hEE] at hE ⊢
      rw [hV]
      have e5 : ((E : Int) != 0) = true := by rw [bne_iff_ne]; omega
      clear hEE hV hR hM CEV
      have hkE := stf_kept w4 (w.heap.size + 1) (.int .i64 0) (.int .i64 0) (.int .u64 0) (.int .u64 0)
      obtain ⟨q0, q1, q2, q3⟩ := stf_cells (w := w4) (a0 := (.int .i64 0)) (a1 := (.int .i64 0)) (a2 := (.int .u64 0)) (a3 := (.int .u64 0)) HL1.out rfl
      have hsE := Lib.hid (hs4.far HL1.out (by decide) (by decide) (by decide) hkE (by omega))
      have hkk := Lib.hid (hk4.trans hkE (fun i hi (e : i = w.heap.size + 1) => by omega))
      have y3 := (HL0.out.cell 3).trans (show _ = some (Value.int .u64 (x.v : Int)) from rfl)
      have y2 := (HL0.out.cell 2).trans (show _ = some (Value.int .i64 x.j) from rfl)
      have d0 := HL1.out.cell 0
      have d1 := HL1.out.cell 1
      have d2 := HL1.out.cell 2
      have d3 := HL1.out.cell 3
      simp only [List.getElem?_toArray, List.getElem?_cons_zero, List.getElem?_cons_succ] at d0 d1 d2 d3
      have f0 := HL1.out.free 0
      have f1 := HL1.out.free 1
      have f2 := HL1.out.free 2
      have f3 := HL1.out.free 3
      have hlt1 := HL1.out.lt
      clear hs4 hk4 hkE HL0 HL1
      go_wp2
      refine bodyPost_ret (v := .tuple #[.agg #[(.int .i64 0), (.int .i64 0), (.int .u64 0), (.int .u64 0)], .bool true]) (by simp [results, Try.results29, go_sem, q0, q1, q2, q3]) rfl ?_
      exact (⟨vb', R, M, all, pd0, rfl, hsE.out, HLN.out, by omega, fun z h => h, .inl rfl, fun z _ => ne_pd0 z, HNN.out, by decide, hkk.out, HV4.out, fun P m p0 hm hk hW => Whole.zero hW hm hk⟩)
  have k1 : (wrap64 ((IntKind.u64.wrap x.k).tmod 5) == 1) = false := by simpa using k1
  by_cases k2 : (wrap64 ((IntKind.u64.wrap x.k).tmod 5) == 2) = true
  · have CE := Lib.hid (HLN.out.takeE hok.out x.j)
    have HC := Lib.hid (rgTake x.j H1.out.1 rfl)
    go_wp2_with fail
    refine HC.out.mono ?_
    rintro e w3 ⟨rfl, hr3, hk3⟩
    have hs3 := H1.out.ring hr3 hk3
    have HL0 := Lib.hid (HL0.out.kept hk3 (fun (e : w.heap.size = q) => by omega))
    have HL1 := Lib.hid (HL1.out.kept hk3 (fun (e : w.heap.size + 1 = q) => by omega))
    have hk3 := HKA.out.trans hk3 (fun _ _ (e : _ = q) => .inl e)
    have hw3 := hk3.size
    have hP := mdGet x.j hs3.2.1
    rw [← CE.out] at hP
    have HP := Lib.hid hP
    have HS3 := Lib.hid hs3
    have HK3 := Lib.hid hk3
    clear x1 x2 x3 hl2
    have x2 := (HL0.out.cell 2).trans (show _ = some (Value.int .i64 x.j) from rfl)
    have hl3 := HL0.out.lt
    clear HC hr3 hs3 hk3 hP H1 HKA
    go_wp2_with fail
    refine HP.out.mono ?_
    rintro e w4 ⟨rfl, hst⟩
    have HL0 := Lib.hid (HL0.out.log HS3.out.2.1 hst (by decide) (by decide))
    have HL1 := Lib.hid (HL1.out.log HS3.out.2.1 hst (by decide) (by decide))
    obtain ⟨vb', hs4, hk4, hv4⟩ := HS3.out.log_ hst
    have hk4 := HK3.out.trans hk4 (fun _ _ h => h)
    have hw4 := hk4.size
    have HV4 := Lib.hid (VbNext.mono hv4 hw3)
    clear hst HP HS3 HK3 x2 hl3 hv4
    by_cases hE : takeE R x.j = 0
    · obtain ⟨m1, m2, ⟨v, mv, m3⟩, m4⟩ := HLN.out.take hok.out (fun y hy => (HNN.out y hy).1) x.j hE
      have hvv : v < 18446744073709551616 := by
        have hE2 : mgetE M x.j = 0 := by rw [← CE.out]; exact hE
        obtain ⟨_, a2, _⟩ := HLN.out.2.2.2.2.2.2.1.get hok.out hE2
        have := HNN.out _ (List.mem_of_getElem? a2)
        omega
      have M1 := Lib.hid m1
      have M2 := Lib.hid m2
      have M3 := Lib.hid m3
      have M4 := Lib.hid (fun z hz => m4 v z hz)
      have htl : Hid ((takeR R x.j).tail ≤ R.tail + 1) := by
        show _ ≤ _; unfold takeR; split <;> simp
      obtain ⟨tv, htv⟩ : ∃ tv, takeV R x.j = tv := ⟨_, rfl⟩
      have HWT := Lib.hid (fun (P : List Pd) (m : Nat) (p0 : Pd) (hm : P[m]? = some p0) (hk : p0.k = 0) (hW : Whole R P) => Whole.take hW HLN.out.1.ok.1 hE (by have := HLN.out.len; omega) hm hk v)
      rw [hE, mv, htv]
      rw [htv] at M3 M4 HWT
      clear hE mv m1 m2 m3 m4 CE htv
      have hkE := stf_kept w4 (w.heap.size + 1) (.int .i64 2) (.int .i64 x.j) (.int .u64 (tv : Int)) (.int .u64 (v : Int))
      obtain ⟨q0, q1, q2, q3⟩ := stf_cells (w := w4) (a0 := (.int .i64 2)) (a1 := (.int .i64 x.j)) (a2 := (.int .u64 (tv : Int))) (a3 := (.int .u64 (v : Int))) HL1.out rfl
      have hsE := Lib.hid (hs4.far HL1.out (by decide) (by decide) (by decide) hkE (by omega))
      have hkk := Lib.hid (hk4.trans hkE (fun i hi (e : i = w.heap.size + 1) => by omega))
      have y3 := (HL0.out.cell 3).trans (show _ = some (Value.int .u64 (x.v : Int)) from rfl)
      have y2 := (HL0.out.cell 2).trans (show _ = some (Value.int .i64 x.j) from rfl)
      have d0 := HL1.out.cell 0
      have d1 := HL1.out.cell 1
      have d2 := HL1.out.cell 2
      have d3 := HL1.out.cell 3
      simp only [List.getElem?_toArray, List.getElem?_cons_zero, List.getElem?_cons_succ] at d0 d1 d2 d3
      have f0 := HL1.out.free 0
      have f1 := HL1.out.free 1
      have f2 := HL1.out.free 2
      have f3 := HL1.out.free 3
      have hlt1 := HL1.out.lt
      clear hs4 hk4 hkE HL0 HL1
      go_wp2
      refine bodyPost_ret (v := .tuple #[.agg #[(.int .i64 2), (.int .i64 x.j), (.int .u64 (tv : Int)), (.int .u64 (v : Int))], .bool true]) (by simp [results, Try.results29, go_sem, q0, q1, q2, q3]) rfl ?_
      exact (⟨vb', _, _, _, ⟨2, x.j, tv, v⟩, rfl, hsE.out, M1.out, htl.out, M2.out, M3.out, M4.out, HNN.out, hvv, hkk.out, HV4.out, HWT.out⟩)
    · have hV : takeV R x.j = 0 := by unfold takeV; rw [if_neg hE]
      have hR : takeR R x.j = R := by unfold takeR; rw [if_neg hE]
      obtain ⟨hM, _⟩ := get_same (M := M) (j := x.j) (by rw [← CE.out]; exact hE)
      rw [hR, hM] at hs4
      obtain ⟨E, hEE⟩ : ∃ E, takeE R x.j = E := ⟨_, rfl⟩
      rw [hEE] at hE ⊢
      rw [hV]
      have e5 : ((E : Int) != 0) = true := by rw [bne_iff_ne]; omega
      clear hEE hV hR hM CE
      have hkE := stf_kept w4 (w.heap.size + 1) (.int .i64 0) (.int .i64 0) (.int .u64 0) (.int .u64 0)
      obtain ⟨q0, q1, q2, q3⟩ := stf_cells (w := w4) (a0 := (.int .i64 0)) (a1 := (.int .i64 0)) (a2 := (.int .u64 0)) (a3 := (.int .u64 0)) HL1.out rfl
      have hsE := Lib.hid (hs4.far HL1.out (by decide) (by decide) (by decide) hkE (by omega))
      have hkk := Lib.hid (hk4.trans hkE (fun i hi (e : i = w.heap.size + 1) => by omega))
      have y3 := (HL0.out.cell 3).trans (show _ = some (Value.int .u64 (x.v : Int)) from rfl)
      have y2 := (HL0.out.cell 2).trans (show _ = some (Value.int .i64 x.j) from rfl)
      have d0 := HL1.out.cell 0
      have d1 := HL1.out.cell 1
      have d2 := HL1.out.cell 2
      have d3 := HL1.out.cell 3
      simp only [List.getElem?_toArray, List.getElem?_cons_zero, List.getElem?_cons_succ] at d0 d1 d2 d3
      have f0 := HL1.out.free 0
      have f1 := HL1.out.free 1
      have f2 := HL1.out.free 2
      have f3 := HL1.out.free 3
      have hlt1 := HL1.out.lt
      clear hs4 hk4 hkE HL0 HL1
      go_wp2
      refine bodyPost_ret (v := .tuple #[.agg #[(.int .i64 0), (.int .i64 0), (.int .u64 0), (.int .u64 0)], .bool true]) (by simp [results, Try.results29, go_sem, q0, q1, q2, q3]) rfl ?_
      exact (⟨vb', R, M, all, pd0, rfl, hsE.out, HLN.out, by omega, fun z h => h, .inl rfl, fun z _ => ne_pd0 z, HNN.out, by decide, hkk.out, HV4.out, fun P m p0 hm hk hW => Whole.zero hW hm hk⟩)
  have k2 : (wrap64 ((IntKind.u64.wrap x.k).tmod 5) == 2) = false := by simpa using k2
  by_cases k3 : (wrap64 ((IntKind.u64.wrap x.k).tmod 5) == 3) = true
  · have CE := Lib.hid (HLN.out.takeE hok.out x.j)
    have HC := Lib.hid (rgTake x.j H1.out.1 rfl)
    go_wp2_with fail
    refine HC.out.mono ?_
    rintro e w3 ⟨rfl, hr3, hk3⟩
    have hs3 := H1.out.ring hr3 hk3
    have HL0 := Lib.hid (HL0.out.kept hk3 (fun (e : w.heap.size = q) => by omega))
    have HL1 := Lib.hid (HL1.out.kept hk3 (fun (e : w.heap.size + 1 = q) => by omega))
    have hk3 := HKA.out.trans hk3 (fun _ _ (e : _ = q) => .inl e)
    have hw3 := hk3.size
    have hP := mdGet x.j hs3.2.1
    rw [← CE.out] at hP
    have HP := Lib.hid hP
    have HS3 := Lib.hid hs3
    have HK3 := Lib.hid hk3
    clear x1 x2 x3 hl2
    have x2 := (HL0.out.cell 2).trans (show _ = some (Value.int .i64 x.j) from rfl)
    have hl3 := HL0.out.lt
    clear HC hr3 hs3 hk3 hP H1 HKA
    go_wp2_with fail
    refine HP.out.mono ?_
    rintro e w4 ⟨rfl, hst⟩
    have HL0 := Lib.hid (HL0.out.log HS3.out.2.1 hst (by decide) (by decide))
    have HL1 := Lib.hid (HL1.out.log HS3.out.2.1 hst (by decide) (by decide))
    obtain ⟨vb', hs4, hk4, hv4⟩ := HS3.out.log_ hst
    have hk4 := HK3.out.trans hk4 (fun _ _ h => h)
    have hw4 := hk4.size
    have HV4 := Lib.hid (VbNext.mono hv4 hw3)
    clear hst HP HS3 HK3 x2 hl3 hv4
    by_cases hE : takeE R x.j = 0
    · obtain ⟨m1, m2, ⟨v, mv, m3⟩, m4⟩ := HLN.out.take hok.out (fun y hy => (HNN.out y hy).1) x.j hE
      have hvv : v < 18446744073709551616 := by
        have hE2 : mgetE M x.j = 0 := by rw [← CE.out]; exact hE
        obtain ⟨_, a2, _⟩ := HLN.out.2.2.2.2.2.2.1.get hok.out hE2
        have := HNN.out _ (List.mem_of_getElem? a2)
        omega
      have M1 := Lib.hid m1
      have M2 := Lib.hid m2
      have M3 := Lib.hid m3
      have M4 := Lib.hid (fun z hz => m4 v z hz)
      have htl : Hid ((takeR R x.j).tail ≤ R.tail + 1) := by
        show _ ≤ _; unfold takeR; split <;> simp
      obtain ⟨tv, htv⟩ : ∃ tv, takeV R x.j = tv := ⟨_, rfl⟩
      have HWT := Lib.hid (fun (P : List Pd) (m : Nat) (p0 : Pd) (hm : P[m]? = some p0) (hk : p0.k = 0) (hW : Whole R P) => Whole.take hW HLN.out.1.ok.1 hE (by have := HLN.out.len; omega) hm hk v)
      rw [hE, mv, htv]
      rw [htv] at M3 M4 HWT
      clear hE mv m1 m2 m3 m4 CE htv
      have hkE := stf_kept w4 (w.heap.size + 1) (.int .i64 2) (.int .i64 x.j) (.int .u64 (tv : Int)) (.int .u64 (v : Int))
      obtain ⟨q0, q1, q2, q3⟩ := stf_cells (w := w4) (a0 := (.int .i64 2)) (a1 := (.int .i64 x.j)) (a2 := (.int .u64 (tv : Int))) (a3 := (.int .u64 (v : Int))) HL1.out rfl
      have hsE := Lib.hid (hs4.far HL1.out (by decide) (by decide) (by decide) hkE (by omega))
      have hkk := Lib.hid (hk4.trans hkE (fun i hi (e : i = w.heap.size + 1) => by omega))
      have y3 := (HL0.out.cell 3).trans (show _ = some (Value.int .u64 (x.v : Int)) from rfl)
      have y2 := (HL0.out.cell 2).trans (show _ = some (Value.int .i64 x.j) from rfl)
      have d0 := HL1.out.cell 0
      have d1 := HL1.out.cell 1
      have d2 := HL1.out.cell 2
      have d3 := HL1.out.cell 3
      simp only [List.getElem?_toArray, List.getElem?_cons_zero, List.getElem?_cons_succ] at d0 d1 d2 d3
      have f0 := HL1.out.free 0
      have f1 := HL1.out.free 1
      have f2 := HL1.out.free 2
      have f3 := HL1.out.free 3
      have hlt1 := HL1.out.lt
      clear hs4 hk4 hkE HL0 HL1
      go_wp2
      refine bodyPost_ret (v := .tuple #[.agg #[(.int .i64 2), (.int .i64 x.j), (.int .u64 (tv : Int)), (.int .u64 (v : Int))], .bool true]) (by simp [results, Try.results29, go_sem, q0, q1, q2, q3]) rfl ?_
      exact (⟨vb', _, _, _, ⟨2, x.j, tv, v⟩, rfl, hsE.out, M1.out, htl.out, M2.out, M3.out, M4.out, HNN.out, hvv, hkk.out, HV4.out, HWT.out⟩)
    · have hV : takeV R x.j = 0 := by unfold takeV; rw [if_neg hE]
      have hR : takeR R x.j = R := by unfold takeR; rw [if_neg hE]
      obtain ⟨hM, _⟩ := get_same (M := M) (j := x.j) (by rw [← CE.out]; exact hE)
      rw [hR, hM] at hs4
      obtain ⟨E, hEE⟩ : ∃ E, takeE R x.j = E := ⟨_, rfl⟩
      rw [hEE] at hE ⊢
      rw [hV]
      have e5 : ((E : Int) != 0) = true := by rw [bne_iff_ne]; omega
      clear hEE hV hR hM CE
      have hkE := stf_kept w4 (w.heap.size + 1) (.int .i64 0) (.int .i64 0) (.int .u64 0) (.int .u64 0)
      obtain ⟨q0, q1, q2, q3⟩ := stf_cells (w := w4) (a0 := (.int .i64 0)) (a1 := (.int .i64 0)) (a2 := (.int .u64 0)) (a3 := (.int .u64 0)) HL1.out rfl
      have hsE := Lib.hid (hs4.far HL1.out (by decide) (by decide) (by decide) hkE (by omega))
      have hkk := Lib.hid (hk4.trans hkE (fun i hi (e : i = w.heap.size + 1) => by omega))
      have y3 := (HL0.out.cell 3).trans (show _ = some (Value.int .u64 (x.v : Int)) from rfl)
      have y2 := (HL0.out.cell 2).trans (show _ = some (Value.int .i64 x.j) from rfl)
      have d0 := HL1.out.cell 0
      have d1 := HL1.out.cell 1
      have d2 := HL1.out.cell 2
      have d3 := HL1.out.cell 3
      simp only [List.getElem?_toArray, List.getElem?_cons_zero, List.getElem?_cons_succ] at d0 d1 d2 d3
      have f0 := HL1.out.free 0
      have f1 := HL1.out.free 1
      have f2 := HL1.out.free 2
      have f3 := HL1.out.free 3
      have hlt1 := HL1.out.lt
      clear hs4 hk4 hkE HL0 HL1
      go_wp2
      refine bodyPost_ret (v := .tuple #[.agg #[(.int .i64 0), (.int .i64 0), (.int .u64 0), (.int .u64 0)], .bool true]) (by simp [results, Try.results29, go_sem, q0, q1, q2, q3]) rfl ?_
      exact (⟨vb', R, M, all, pd0, rfl, hsE.out, HLN.out, by omega, fun z h => h, .inl rfl, fun z _ => ne_pd0 z, HNN.out, by decide, hkk.out, HV4.out, fun P m p0 hm hk hW => Whole.zero hW hm hk⟩)
  have k3 : (wrap64 ((IntKind.u64.wrap x.k).tmod 5) == 3) = false := by simpa using k3
  have HC := Lib.hid (rgClose H1.out.1 rfl)
  go_wp2_with fail
  refine HC.out.mono ?_
  rintro e w3 ⟨rfl, hr3, hk3⟩
  have hs3 := H1.out.ring hr3 hk3
  have HL0 := Lib.hid (HL0.out.kept hk3 (fun (e : w.heap.size = q) => by omega))
  have HL1 := Lib.hid (HL1.out.kept hk3 (fun (e : w.heap.size + 1 = q) => by omega))
  have hk3 := HKA.out.trans hk3 (fun _ _ (e : _ = q) => .inl e)
  have hw3 := hk3.size
  have HP := Lib.hid (mdClose hs3.2.1)
  have HS3 := Lib.hid hs3
  have HK3 := Lib.hid hk3
  clear HC hr3 hs3 hk3 H1 HKA x1 x2 x3 hl2
  go_wp2_with fail
  refine HP.out.mono ?_
  rintro e w4 ⟨rfl, hst⟩
  have HL0 := Lib.hid (HL0.out.log HS3.out.2.1 hst (by decide) (by decide))
  have HL1 := Lib.hid (HL1.out.log HS3.out.2.1 hst (by decide) (by decide))
  obtain ⟨vb', hs4, hk4, hv4⟩ := HS3.out.log_ hst
  have hk4 := HK3.out.trans hk4 (fun _ _ h => h)
  have hw4 := hk4.size
  have HV4 := Lib.hid (VbNext.mono hv4 hw3)
  obtain ⟨m1, m2⟩ := HLN.out.close
  have M1 := Lib.hid m1
  have M2 := Lib.hid m2
  clear hst HP HS3 HK3 hv4 m1 m2
  have hkE := stf_kept w4 (w.heap.size + 1) (.int .i64 0) (.int .i64 0) (.int .u64 0) (.int .u64 0)
  obtain ⟨q0, q1, q2, q3⟩ := stf_cells (w := w4) (a0 := (.int .i64 0)) (a1 := (.int .i64 0)) (a2 := (.int .u64 0)) (a3 := (.int .u64 0)) HL1.out rfl
  have hsE := Lib.hid (hs4.far HL1.out (by decide) (by decide) (by decide) hkE (by omega))
  have hkk := Lib.hid (hk4.trans hkE (fun i hi (e : i = w.heap.size + 1) => by omega))
  have y3 := (HL0.out.cell 3).trans (show _ = some (Value.int .u64 (x.v : Int)) from rfl)
  have y2 := (HL0.out.cell 2).trans (show _ = some (Value.int .i64 x.j) from rfl)
  have d0 := HL1.out.cell 0
  have d1 := HL1.out.cell 1
  have d2 := HL1.out.cell 2
  have d3 := HL1.out.cell 3
  simp only [List.getElem?_toArray, List.getElem?_cons_zero, List.getElem?_cons_succ] at d0 d1 d2 d3
  have f0 := HL1.out.free 0
  have f1 := HL1.out.free 1
  have f2 := HL1.out.free 2
  have f3 := HL1.out.free 3
  have hlt1 := HL1.out.lt
  clear hs4 hk4 hkE HL0 HL1
  go_wp2
  refine bodyPost_ret (v := .tuple #[.agg #[(.int .i64 0), (.int .i64 0), (.int .u64 0), (.int .u64 0)], .bool true]) (by simp [results, Try.results29, go_sem, q0, q1, q2, q3]) rfl ?_
  exact (⟨vb', _, _, all, pd0, rfl, hsE.out, M1.out, by simp, M2.out, .inl rfl, fun z _ => ne_pd0 z, HNN.out, by decide, hkk.out, HV4.out, fun P m p0 hm hk hW => Whole.zero (R := { R with cl := true }) hW hm hk⟩)
end Go.Proofs.Ytflaaogopcgdaaa
