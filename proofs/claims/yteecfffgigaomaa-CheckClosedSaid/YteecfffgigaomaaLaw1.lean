import Derived.Test.YteecfffgigaomaaAwake2
import Derived.Test.YteecfffgigaomaaPgopen
namespace Go.Proofs.Yteecfffgigaomaa
open Go.RowKit
set_option linter.unusedVariables false
set_option linter.unusedSimpArgs false
/-- A copy, as a program. -/
theorem cp_pg {w w' : World} {p : Pg} {e : Ending} (h : CpPost w p e w') : ∃ A c B d vs, e = .returned (.agg (pgC A c B d p)) ∧ PgAt w' A c B d p ∧ w'.ownsRow w.heap.size 44 1 (.slice B p.ts.length d) p.ts.length vs ∧ Inners w' w.heap.size w'.heap.size p.ts vs ∧ Below w.heap.size w w' := by
  obtain ⟨vr, vt, vs, rfl, hr, ht, hi, hb⟩ := h
  obtain ⟨A, c, rfl⟩ := own_slice hr
  obtain ⟨B, d, rfl⟩ := own_slice ht
  have hvl : vs.length = p.ts.length := by have := ht.1; omega
  refine ⟨A, c, B, d, vs, rfl, ⟨SeqS.of_owns hr, vs, SeqS.of_owns ht, fun i l hl => ?_⟩, ht, hi, hb⟩
  have hil := (List.getElem?_eq_some_iff.1 hl).1
  have hv : vs[i]? = some (vs[i]'(by omega)) := List.getElem?_eq_getElem (by omega)
  obtain ⟨l2, h1, h2, _⟩ := hi i _ hv
  rw [hl] at h1
  injection h1 with h1
  subst h1
  obtain ⟨C, k, hC⟩ := own_slice h2
  rw [hC] at h2 hv
  exact ⟨C, k, hv, SeqS.of_owns h2⟩
set_option maxHeartbeats 8000000 in
set_option maxRecDepth 100000 in
theorem tells_walk (z : Pa) (W : World) (h : PaAt W z) :
    Calls Try.prog 3 #[.agg (pgC z.A z.c z.B z.d z.p)] W fun e w' => e = .returned (.bool true) ∧ Below W.heap.size W w' := by
  obtain ⟨A, c, B, d, p⟩ := z
  obtain ⟨hp, hok⟩ := h
  replace hp : PgAt W A c B d p := hp
  replace hok : pgOk p := hok
  obtain ⟨hc1, hc2⟩ := seq_form hp.1
  obtain ⟨hd1, hd2⟩ := hp.2.form
  have hb0 : Below W.heap.size W (W.alloc (.cells (pgC A c B d p) 25)) := (Below.refl _ _).alloc (Nat.le_refl _) _
  have l0 := Lies.made W 25 (pgC A c B d p)
  have HP := Lib.hid hp
  have HOK := Lib.hid hok
  have HB := Lib.hid hb0
  have HL := Lib.hid l0
  clear hp hok hb0 l0
  go_enter Try.func3, Try.ntmps3
  go_wp2_with fail
  generalize W.alloc (.cells (pgC A c B d p) 25) = w1 at *
  have c0 := (HL.out.cell 0).trans (show _ = some (Value.slice A p.rs.length c) from rfl)
  have c1 := (HL.out.cell 1).trans (show _ = some (Value.slice B p.ts.length d) from rfl)
  have cl := HL.out.lt
  refine (awake_any _).mono ?_
  rintro e w2 ⟨rfl, hbm⟩
  replace HB := Lib.hid (HB.out.trans ((hbm).mono HB.out.size))
  replace HL := Lib.hid (HL.out.below hbm HL.out.lt)
  clear c0 c1 cl
  have c0 := (HL.out.cell 0).trans (show _ = some (Value.slice A p.rs.length c) from rfl)
  have c1 := (HL.out.cell 1).trans (show _ = some (Value.slice B p.ts.length d) from rfl)
  have cl := HL.out.lt
  clear hbm
  go_wp2_with fail
  have HF := Lib.hid (fun w (hw : Below W.heap.size W w) => rfFew p 300 A c B d w (HP.out.later hw) (by omega))
  refine (HF.out _ HB.out).mono ?_
  rintro e wf ⟨rfl, hbm⟩
  clear HF
  replace HB := Lib.hid (HB.out.trans ((hbm).mono HB.out.size))
  replace HL := Lib.hid (HL.out.below hbm HL.out.lt)
  clear c0 c1 cl
  have c0 := (HL.out.cell 0).trans (show _ = some (Value.slice A p.rs.length c) from rfl)
  have c1 := (HL.out.cell 1).trans (show _ = some (Value.slice B p.ts.length d) from rfl)
  have cl := HL.out.lt
  clear hbm
  obtain ⟨fb, hfb⟩ : ∃ fb, fewB p 300 = fb := ⟨_, rfl⟩
  have HFB := Lib.hid hfb
  rw [hfb]
  clear hfb
  cases fb
  case false =>
    clear HFB
    go_wp2_with fail
    refine (awake_any _).mono ?_
    rintro e wz ⟨rfl, hbz⟩
    have hbz := HB.out.trans (hbz.mono HB.out.size)
    go_wp2
    go_ret
    exact ⟨rfl, hbz⟩
  obtain ⟨hf1, hf2, hf3, hf4⟩ := of_decide_eq_true HFB.out
  have HF3 := Lib.hid hf3
  clear hf3 HFB
  have HCP := Lib.hid (fun w (hw : Below W.heap.size W w) => rfCopy p A c B d w (HP.out.later hw) hf1 hf2 (fun l hl => by have := HF3.out l hl; omega))
  go_wp2_with fail
  refine (HCP.out _ HB.out).mono ?_
  intro e w3 hcp
  obtain ⟨A', c', B', d', vs, rfl, hpg, _, _, hbm⟩ := cp_pg hcp
  have HC := Lib.hid (check_any p A' c' B' d' w3 hpg HOK.out)
  clear hcp hpg HCP
  replace HB := Lib.hid (HB.out.trans ((hbm).mono HB.out.size))
  replace HL := Lib.hid (HL.out.below hbm HL.out.lt)
  clear c0 c1 cl
  have c0 := (HL.out.cell 0).trans (show _ = some (Value.slice A p.rs.length c) from rfl)
  have c1 := (HL.out.cell 1).trans (show _ = some (Value.slice B p.ts.length d) from rfl)
  have cl := HL.out.lt
  clear hbm
  go_wp2_with fail
  refine HC.out.mono ?_
  rintro e w4 ⟨rfl, hbm⟩
  clear HC
  replace HB := Lib.hid (HB.out.trans ((hbm).mono HB.out.size))
  replace HL := Lib.hid (HL.out.below hbm HL.out.lt)
  clear c0 c1 cl
  have c0 := (HL.out.cell 0).trans (show _ = some (Value.slice A p.rs.length c) from rfl)
  have c1 := (HL.out.cell 1).trans (show _ = some (Value.slice B p.ts.length d) from rfl)
  have cl := HL.out.lt
  clear hbm
  have HC := Lib.hid (fun w (hw : Below W.heap.size W w) => r11Check p A c B d w (HP.out.later hw) HOK.out)
  go_wp2_with fail
  refine (HC.out _ HB.out).mono ?_
  rintro e w5 ⟨rfl, hbm⟩
  clear HC
  replace HB := Lib.hid (HB.out.trans ((hbm).mono HB.out.size))
  replace HL := Lib.hid (HL.out.below hbm HL.out.lt)
  clear c0 c1 cl
  have c0 := (HL.out.cell 0).trans (show _ = some (Value.slice A p.rs.length c) from rfl)
  have c1 := (HL.out.cell 1).trans (show _ = some (Value.slice B p.ts.length d) from rfl)
  have cl := HL.out.lt
  clear hbm
  have HC := Lib.hid (fun w (hw : Below W.heap.size W w) => ckRight p A c B d w (HP.out.later hw) HOK.out)
  have HR : Hid (rightP p = ((checkR p).2.2 == 0)) := rfl
  generalize (checkR p).1 = r1 at *
  generalize (checkR p).2.1 = r2 at *
  generalize (checkR p).2.2 = r3 at *
  have e1 : (r1 == r1) = true := by simp
  have e2 : (r2 == r2) = true := by simp
  have e3 : ((r3 : Int) == (r3 : Int)) = true := by simp
  go_wp2_with fail
  refine (HC.out _ HB.out).mono ?_
  rintro e w6 ⟨rfl, hbm⟩
  clear HC
  replace HB := Lib.hid (HB.out.trans ((hbm).mono HB.out.size))
  replace HL := Lib.hid (HL.out.below hbm HL.out.lt)
  clear c0 c1 cl
  have c0 := (HL.out.cell 0).trans (show _ = some (Value.slice A p.rs.length c) from rfl)
  have c1 := (HL.out.cell 1).trans (show _ = some (Value.slice B p.ts.length d) from rfl)
  have cl := HL.out.lt
  clear hbm
  go_wp2
  go_ret
  refine ⟨ret_bool ?_, HB.out⟩
  rw [HR.out]
  by_cases e0 : r3 = 0
  · subst e0; rfl
  · have h1 : (r3 == 0) = false := by simpa using e0
    simp [h1, e0]
end Go.Proofs.Yteecfffgigaomaa
