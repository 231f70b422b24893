/-
  The events of a text (layer 15): event.Read.
-/
import Derived.Test.YtndcnflboikodaaDoorEvq
import Derived.Test.YtndcnflboikodaaDoorEvl
namespace Go.Proofs.YtndcnflboikodaaDoor
open Go.RowKit
set_option linter.unusedVariables false
set_option linter.unusedSimpArgs false
theorem Tryd.infoEv : (Tryd.prog.info? 24).map (fun i => (i.zero, i.size, i.bytes)) = some (some (.agg (evC ⟨0, 0, 0, 0, 0⟩)), 5, 40) := by kernel_rfl
/-- The event of a line, if it is one's. -/
noncomputable def lnO (bs : List UInt8) : Option Ev := @dite _ (∃ x, rightE x = true ∧ x.vl ≤ 18446744073709551615 ∧ lineE x = bs) (Classical.propDecidable _) (fun h => some (Classical.choose h)) (fun _ => none)
theorem lnO_some {bs : List UInt8} {x : Ev} (h1 : rightE x = true) (h2 : x.vl ≤ 18446744073709551615) (h3 : lineE x = bs) : lnO bs = some x := by
  unfold lnO
  split
  · rename_i h
    have hc := Classical.choose_spec h
    rw [line_inj hc.1 h1 hc.2.1 h2 (hc.2.2.trans h3.symm)]
  · rename_i h
    exact absurd ⟨x, h1, h2, h3⟩ h
theorem lnO_none {bs : List UInt8} (h : ∀ y, rightE y = true → y.vl ≤ 18446744073709551615 → lineE y ≠ bs) : lnO bs = none := by
  unfold lnO
  split
  · rename_i hx
    obtain ⟨x, h1, h2, h3⟩ := hx
    exact absurd h3 (h x h1 h2)
  · rfl
theorem lnO_get {bs : List UInt8} {x : Ev} (h : lnO bs = some x) : rightE x = true ∧ x.vl ≤ 18446744073709551615 ∧ lineE x = bs := by
  unfold lnO at h
  split at h
  · rename_i hx
    have hc := Classical.choose_spec hx
    injection h with h
    rw [← h]; exact hc
  · cases h
theorem LnIs.lnO {bs : List UInt8} {x : Ev} {ok : Bool} (h : LnIs bs x ok) : lnO bs = if ok = true then some x else none := by
  rcases h with ⟨rfl, h1, h2, h3⟩ | ⟨rfl, _, h⟩
  · exact lnO_some h1 h3 h2
  · exact lnO_none h
/-- A text's first line, and what is behind it. -/
def cutO (bs : List UInt8) : Option (List UInt8 × List UInt8) := if (10 : UInt8) ∈ bs then some (bs.takeWhile (· != 10), (bs.dropWhile (· != 10)).tail) else none
theorem cutO_none {bs : List UInt8} (h : (10 : UInt8) ∉ bs) : cutO bs = none := if_neg h
theorem takeWhile_no {p q : List UInt8} (h : (10 : UInt8) ∉ p) : (p ++ 10 :: q).takeWhile (· != 10) = p ∧ (p ++ 10 :: q).dropWhile (· != 10) = 10 :: q := by
  induction p with
  | nil => simp
  | cons a p ih =>
    have ha : (a != 10) = true := by rw [bne_iff_ne]; intro e; exact h (by simp [e])
    have := ih (fun hm => h (List.mem_cons_of_mem _ hm))
    simp only [List.cons_append, List.takeWhile_cons, List.dropWhile_cons, ha, if_true]
    exact ⟨by rw [this.1], this.2⟩
theorem cutO_some {p q : List UInt8} (h : (10 : UInt8) ∉ p) : cutO (p ++ 10 :: q) = some (p, q) := by
  unfold cutO
  rw [if_pos (by simp), (takeWhile_no h).1, (takeWhile_no h).2]; rfl
/-- What is read of a text: the events, and the line that goes wrong (0: none does). -/
noncomputable def rdF : Nat → List UInt8 → List Ev → List Ev × Nat
  | 0, _, acc => (acc, 0)
  | f + 1, bs, acc => if bs = [] then (acc, 0) else match cutO bs with
    | none => ([], acc.length + 1)
    | some (p, q) => match lnO p with
      | none => ([], acc.length + 1)
      | some x => if acc.length = 65536 then ([], acc.length + 1) else rdF f q (acc ++ [x])
noncomputable def rdE (bs : List UInt8) : List Ev × Nat := rdF (bs.length + 1) bs []
theorem rdF_nil (f : Nat) (acc : List Ev) : rdF f [] acc = (acc, 0) := by
  cases f with
  | zero => rfl
  | succ f => unfold rdF; rw [if_pos rfl]
theorem rdF_open {f : Nat} {bs : List UInt8} {acc : List Ev} (hf : bs.length < f) (hne : bs ≠ []) (h : (10 : UInt8) ∉ bs) : rdF f bs acc = ([], acc.length + 1) := by
  cases f with
  | zero => omega
  | succ f => unfold rdF; rw [if_neg hne, cutO_none h]
theorem rdF_bad {f : Nat} {p q : List UInt8} {acc : List Ev} (hf : (p ++ 10 :: q).length < f) (h : (10 : UInt8) ∉ p) (hb : lnO p = none ∨ acc.length = 65536) : rdF f (p ++ 10 :: q) acc = ([], acc.length + 1) := by
  cases f with
  | zero => omega
  | succ f =>
    unfold rdF
    rw [if_neg (by simp), cutO_some h]
    simp only
    cases hl : lnO p with
    | none => rfl
    | some x =>
      rcases hb with hb | hb
      · rw [hl] at hb; cases hb
      · simp only [hb, if_true]
theorem rdF_step {f : Nat} {p q : List UInt8} {acc : List Ev} {x : Ev} (hf : (p ++ 10 :: q).length < f) (h : (10 : UInt8) ∉ p) (hl : lnO p = some x) (ha : acc.length ≠ 65536) : ∃ g, q.length < g ∧ rdF f (p ++ 10 :: q) acc = rdF g q (acc ++ [x]) := by
  cases f with
  | zero => omega
  | succ f =>
    refine ⟨f, by simp only [List.length_append, List.length_cons] at hf; omega, ?_⟩
    conv => lhs; unfold rdF
    rw [if_neg (by simp), cutO_some h]
    simp only
    rw [hl]
    simp only
    rw [if_neg ha]
def rdN (r : List Ev × Nat) : Nat := if r.2 = 0 then 0 else 3
def RdPost (bs : List UInt8) (w : World) (e : Ending) (w' : World) : Prop :=
  ∃ v, e = .returned (.tuple #[v, .int .i64 (((rdE bs).2 : Nat) : Int), .int .i64 ((rdN (rdE bs) : Nat) : Int)]) ∧ w'.ownsRow w.heap.size 24 5 v (rdE bs).1.length (rowsOf evF (rdE bs).1) ∧ Below w.heap.size w w'
theorem evF_one (x : Ev) : ∀ u ∈ (evC x).toList, u.oneCell' = true := fun u hu => by
  simp at hu
  rcases hu with rfl | rfl | rfl | rfl | rfl <;> rfl
set_option maxHeartbeats 16000000 in
set_option maxRecDepth 100000 in
theorem read15 (bs : List UInt8) (w : World) (h : EvnAt w) (hbs : bs.length ≤ 8796093022000) :
    Calls Tryd.prog 23 #[.string (textB bs)] w (RdPost bs w) := by
  have HB := Lib.hid (Below.refl w.heap.size w)
  have hgl := h.lt
  have HEN := Lib.hid (fun (q : World) (hq : Below w.heap.size w q) => h.later hq hgl)
  have HPO := Lib.hid (show ∀ e w', RdPost bs w e w' = (∃ v, e = .returned (.tuple #[v, .int .i64 (((rdE bs).2 : Nat) : Int), .int .i64 ((rdN (rdE bs) : Nat) : Int)]) ∧ w'.ownsRow w.heap.size 24 5 v (rdE bs).1.length (rowsOf evF (rdE bs).1) ∧ Below w.heap.size w w') from fun _ _ => rfl)
  clear h
  go_enter Tryd.func23, Tryd.ntmps23
  go_wp2_with fail
  go_loopw [0, 5] (fun u v wr => ∃ (f : Nat) (q : List UInt8) (acc : List Ev), u = .string (textB q) ∧ q.length ≤ bs.length ∧ q.length < f ∧ acc.length ≤ 65536 ∧ Hid (rdE bs = rdF f q acc) ∧ Hid (wr.ownsRow w.heap.size 24 5 v acc.length (rowsOf evF acc)) ∧ Hid (Below w.heap.size w wr)) (fun u _ _ => match u with | .string s => s.size | _ => 0)
  case atStart => exact ⟨bs.length + 1, bs, [], rfl, Nat.le_refl _, by omega, by simp, rfl, World.ownsRow_nil _ _ _ _, HB⟩
  case round =>
    clear HB
    obtain ⟨f, q, acc, rfl, hq, hqf, hal, HR, HO, HB⟩ := hrel
    obtain ⟨A9, c9, rfl⟩ := own_sliceD HO.out
    have hz := HB.out.size
    by_cases hne : q = []
    · subst hne
      have hres := HR.out
      rw [rdF_nil] at hres
      have HRES := Lib.hid hres
      have e1 := text_empty
      generalize textB [] = s at *
      clear HR hres hqf hq
      go_wp2
      go_ret3
      rw [HPO.out, HRES.out]
      exact ⟨_, rfl, HO.out, HB.out⟩
    · have e1 := text_nonempty hne
      have hq0 := textB_size q
      have HQS := Lib.hid hq0
      clear hq0
      go_wp2_with fail
      refine (cut15 q 10 wr (by omega)).mono ?_
      rintro e w2 ⟨hcut, hb2⟩
      have HB2 := Lib.hid (HB.out.trans (hb2.mono HB.out.size))
      have HO2 := Lib.hid (owned_below HO.out hb2)
      clear HB HO hb2 hz e1
      rcases hcut with ⟨p, r, hqe, hp, rfl⟩ | ⟨hno, rfl⟩
      · have hpl : p.length ≤ q.length ∧ r.length < q.length := by rw [hqe]; simp; omega
        have hrs := textB_size r
        have HRS := Lib.hid hrs
        clear hrs
        go_wp2_with fail
        refine (readLine15 p w2 (HEN.out _ HB2.out) (by omega)).mono ?_
        rintro e w3 ⟨x, ok, rfl, hln, hb3⟩
        have hbx : Below w3.heap.size w3 (w3.alloc (.cells (evC x) 24)) := (Below.refl _ _).alloc (Nat.le_refl _) _
        have hb4 := hb3.trans (hbx.mono hb3.size)
        have HB3 := Lib.hid (HB2.out.trans (hb4.mono HB2.out.size))
        have HO3 := Lib.hid (owned_below HO2.out hb4)
        have HL3 := Lib.hid (Lies.made w3 24 (evC x))
        have hlo := hln.lnO
        have HLO := Lib.hid hlo
        have HV : Hid (ok = true → x.vl ≤ 18446744073709551615) := fun h => by
          rcases hln with ⟨_, _, _, h3⟩ | ⟨h4, _⟩
          · exact h3
          · rw [h] at h4; cases h4
        clear HB2 HO2 hb3 hbx hb4 hlo hln
        have hqf2 : (p ++ 10 :: r).length < f := by rw [← hqe]; exact hqf
        rw [hqe] at HR
        have HQE := Lib.hid hqe
        clear hqe
        cases ok with
        | false =>
          have hres := HR.out
          rw [rdF_bad hqf2 hp (.inl HLO.out)] at hres
          have HRES := Lib.hid hres
          clear HR hres hqf2 HLO
          go_wp2
          go_ret3
          rw [HPO.out, HRES.out]
          exact ⟨_, rfl, World.ownsRow_nil _ _ _ _, HB3.out⟩
        | true =>
          by_cases ha : acc.length = 65536
          · have hres := HR.out
            rw [rdF_bad hqf2 hp (.inr ha)] at hres
            have HRES := Lib.hid hres
            clear HR hres hqf2 HLO
            have e2 : (acc.length == 65536) = true := by rw [beq_iff_eq]; exact ha
            have e3 : ((acc.length : Int) == 65536) = true := by rw [beq_iff_eq]; omega
            clear ha
            go_wp2
            go_ret3
            rw [HPO.out, HRES.out]
            exact ⟨_, rfl, World.ownsRow_nil _ _ _ _, HB3.out⟩
          · obtain ⟨g, hg, hst⟩ := rdF_step hqf2 hp HLO.out ha
            have HRN := Lib.hid (HR.out.trans hst)
            have e2 : (acc.length == 65536) = false := by rw [beq_eq_false_iff_ne]; exact ha
            have e3 : ((acc.length : Int) == 65536) = false := by rw [beq_eq_false_iff_ne]; omega
            clear HR hst hqf2 HLO hp
            go_upto_region 7 with (fail)
            clear e2 e3
            generalize w3.alloc (.cells (evC x) 24) = w4 at *
            generalize w3.heap.size = n3 at *
            have c0 := (HL3.out.cell 0).trans (show _ = some (Value.int .i64 x.th) from rfl)
            have c1 := (HL3.out.cell 1).trans (show _ = some (Value.int .i64 x.kd) from rfl)
            have c2 := (HL3.out.cell 2).trans (show _ = some (Value.int .i64 x.rg) from rfl)
            have c3 := (HL3.out.cell 3).trans (show _ = some (Value.int .u64 (x.tk : Int)) from rfl)
            have c4 := (HL3.out.cell 4).trans (show _ = some (Value.int .u64 (x.vl : Int)) from rfl)
            have cl := HL3.out.lt
            have hz := HB3.out.size
            go_wp2_with (at_builtin; refine append_oneS _ (evC x) 5 rfl (.tmp 38) (.tmp 40) 36 rfl w.heap.size 24 _ 40 Tryd.underlying36 Tryd.infoEv rfl (by decide) rfl (evF_one x) _ acc.length _ rfl HO3.out rfl (by unfold maxLen; omega) (by omega) hz ?_)
            intro v5 w5 ho hb hgr
            have hrw : rowsOf evF acc ++ (evC x).toList = rowsOf evF (acc ++ [x]) := by rw [rowsOf_append, rowsOf_one]; rfl
            rw [hrw] at ho
            have HO5 : Hid (w5.ownsRow w.heap.size 24 5 v5 (acc ++ [x]).length (rowsOf evF (acc ++ [x]))) := by
              show World.ownsRow _ _ _ _ _ _ _
              rw [List.length_append]; exact ho
            have HB5 := Lib.hid (HB3.out.trans hb)
            clear ho hb hgr hrw HO3 HB3 c0 c1 c2 c3 c4 cl
            go_wp2
            go_roundw
            case rel => exact ⟨g, r, acc ++ [x], rfl, by omega, hg, by simp; omega, HRN, HO5, HB5⟩
            case measure =>
              show (textB r).size < (textB q).size
              rw [HRS.out, HQS.out]; exact hpl.2
      · have hres := HR.out
        rw [rdF_open hqf hne hno] at hres
        have HRES := Lib.hid hres
        clear HR hres hqf
        go_wp2_with fail
        refine (readLine15 q w2 (HEN.out _ HB2.out) (by omega)).mono ?_
        rintro e w3 ⟨x, ok, rfl, hln, hb3⟩
        have hbx : Below w3.heap.size w3 (w3.alloc (.cells (evC x) 24)) := (Below.refl _ _).alloc (Nat.le_refl _) _
        have hb4 := hb3.trans (hbx.mono hb3.size)
        have HB3 := Lib.hid (HB2.out.trans (hb4.mono HB2.out.size))
        clear HB2 HO2 hb3 hbx hb4 hln hno hne
        go_wp2
        go_ret3
        rw [HPO.out, HRES.out]
        exact ⟨_, rfl, World.ownsRow_nil _ _ _ _, HB3.out⟩
end Go.Proofs.YtndcnflboikodaaDoor
