/-
  The document's events of a text (layer 15).
-/
import Derived.Test.YtndcnflboikodaaDoorEvrl
namespace Go.Proofs.YtndcnflboikodaaDoor
open Go.RowKit
set_option linter.unusedVariables false
set_option linter.unusedSimpArgs false
/-- In the course of the document's Read. -/
structure RxS (bs : List UInt8) (at_ k : Nat) (acc : List Ev) : Prop where
  le : at_ ≤ k
  kl : k ≤ bs.length
  piece : (10 : UInt8) ∉ (bs.drop at_).take (k - at_)
  res : ∃ f, (bs.drop at_).length < f ∧ rdE bs = rdF f (bs.drop at_) acc
theorem RxS.start (bs : List UInt8) : RxS bs 0 0 [] := ⟨Nat.le_refl _, by omega, by simp, bs.length + 1, by simp, rfl⟩
theorem RxS.other {bs : List UInt8} {a k : Nat} {acc : List Ev} {c : UInt8} (h : RxS bs a k acc) (hc : bs[k]? = some c) (hne : c ≠ 10) : RxS bs a (k + 1) acc := by
  refine ⟨Nat.le_succ_of_le h.le, (List.getElem?_eq_some_iff.1 hc).1, ?_, h.res⟩
  rw [piece_next h.le hc, List.mem_append, List.mem_singleton]
  rintro (hm | hm)
  · exact h.piece hm
  · exact hne hm.symm
theorem RxS.cut {bs : List UInt8} {a k : Nat} {acc : List Ev} (h : RxS bs a k acc) (hc : bs[k]? = some 10) : bs.drop a = (bs.drop a).take (k - a) ++ 10 :: bs.drop (k + 1) := by
  have hkl := (List.getElem?_eq_some_iff.1 hc).1
  have h1 := List.take_append_drop (k - a) (bs.drop a)
  rw [List.drop_drop, show a + (k - a) = k by have := h.le; omega, List.drop_eq_getElem_cons hkl, (List.getElem?_eq_some_iff.1 hc).2] at h1
  exact h1.symm
theorem RxS.line {bs : List UInt8} {a k : Nat} {acc : List Ev} {x : Ev} (h : RxS bs a k acc) (hc : bs[k]? = some 10) (hx : lnO ((bs.drop a).take (k - a)) = some x) (ha : acc.length ≠ 65536) : RxS bs (k + 1) (k + 1) (acc ++ [x]) := by
  obtain ⟨f, hf, hr⟩ := h.res
  rw [h.cut hc] at hr hf
  obtain ⟨g, hg, hs⟩ := rdF_step hf h.piece hx ha
  exact ⟨Nat.le_refl _, (List.getElem?_eq_some_iff.1 hc).1, by simp, g, hg, hr.trans hs⟩
theorem RxS.bad {bs : List UInt8} {a k : Nat} {acc : List Ev} (h : RxS bs a k acc) (hc : bs[k]? = some 10) (hb : lnO ((bs.drop a).take (k - a)) = none ∨ acc.length = 65536) : rdE bs = ([], acc.length + 1) := by
  obtain ⟨f, hf, hr⟩ := h.res
  rw [h.cut hc] at hr hf
  rw [hr, rdF_bad hf h.piece hb]
theorem RxS.open_ {bs : List UInt8} {a : Nat} {acc : List Ev} (h : RxS bs a bs.length acc) (hl : a < bs.length) : rdE bs = ([], acc.length + 1) := by
  obtain ⟨f, hf, hr⟩ := h.res
  have hp := h.piece
  rw [List.take_of_length_le (by simp)] at hp
  rw [hr, rdF_open hf (by intro e; have := congrArg List.length e; simp at this; omega) hp]
theorem RxS.done {bs : List UInt8} {a : Nat} {acc : List Ev} (h : RxS bs a bs.length acc) (hl : ¬ a < bs.length) : rdE bs = (acc, 0) := by
  obtain ⟨f, hf, hr⟩ := h.res
  rw [hr, List.drop_of_length_le (by omega), rdF_nil]
def RxPost (bs : List UInt8) (w : World) (e : Ending) (w' : World) : Prop :=
  ∃ v, e = .returned (.tuple #[v, .int .i64 (((rdE bs).2 : Nat) : Int)]) ∧ w'.ownsRow w.heap.size 24 5 v (rdE bs).1.length (rowsOf evF (rdE bs).1) ∧ Below w.heap.size w w'
set_option maxHeartbeats 16000000 in
set_option maxRecDepth 100000 in
theorem rfRead15 (bs : List UInt8) (w : World) (hbs : bs.length ≤ 8796093022000) :
    Calls Tryd.prog 24 #[.string (textB bs)] w (RxPost bs w) := by
  have HB := Lib.hid (Below.refl w.heap.size w)
  have HSZ : Hid ((textB bs).size = bs.length) := textB_size bs
  have HPO := Lib.hid (show ∀ e w', RxPost bs w e w' = (∃ v, e = .returned (.tuple #[v, .int .i64 (((rdE bs).2 : Nat) : Int)]) ∧ w'.ownsRow w.heap.size 24 5 v (rdE bs).1.length (rowsOf evF (rdE bs).1) ∧ Below w.heap.size w w') from fun _ _ => rfl)
  have HST := Lib.hid (RxS.start bs)
  go_enter Tryd.func24, Tryd.ntmps24
  go_wp2_with fail
  go_loopw [4, 5, 6] (fun v a i wr => ∃ (at_ k : Nat) (acc : List Ev), a = .int .i64 at_ ∧ i = .int .i64 k ∧ k ≤ bs.length ∧ at_ ≤ k ∧ acc.length ≤ 65536 ∧ Hid (RxS bs at_ k acc) ∧ Hid (wr.ownsRow w.heap.size 24 5 v acc.length (rowsOf evF acc)) ∧ Hid (Below w.heap.size w wr)) (fun _ _ i _ => bs.length - (intOf i).toNat)
  case atStart => exact ⟨0, 0, [], rfl, rfl, by omega, by omega, by simp, HST, World.ownsRow_nil _ _ _ _, HB⟩
  case round =>
    clear HB HST
    obtain ⟨at_, k, acc, rfl, rfl, hk, hak, hal, HR, HO, HB⟩ := hrel
    obtain ⟨A9, c9, rfl⟩ := own_sliceD HO.out
    have hz := HB.out.size
    by_cases hkl : k < bs.length
    · obtain ⟨c2, hc2⟩ : ∃ c2, bs[k]? = some c2 := ⟨_, List.getElem?_eq_getElem (by omega)⟩
      have hki2 : (k : Int) < ((textB bs).size : Int) := by rw [HSZ.out]; omega
      have hx0 := text_get hc2 (by rw [HSZ.out]; omega)
      by_cases h10 : c2 = 10
      · subst h10
        have HLN := Lib.hid (fun x => HR.out.line (x := x) hc2)
        have HBD := Lib.hid (HR.out.bad hc2)
        have HMID := Lib.hid (cut_mid bs at_ k)
        have hpl : ((bs.drop at_).take (k - at_)).length ≤ bs.length := by simp; omega
        obtain ⟨p, hp⟩ : ∃ p, (bs.drop at_).take (k - at_) = p := ⟨_, rfl⟩
        rw [hp] at HMID HLN HBD hpl
        have hx0 : ((textB bs)[k]'(by rw [HSZ.out]; omega)).toNat = 10 := hx0
        clear hc2 hp HR
        go_wp2_with fail
        rw [HMID.out]
        refine (rfReadLine15 p wr (by omega)).mono ?_
        rintro e w3 ⟨x, ok, rfl, hln, hb3⟩
        have hbx : Below w3.heap.size w3 (w3.alloc (.cells (evC x) 24)) := (Below.refl _ _).alloc (Nat.le_refl _) _
        have hb4 := hb3.trans (hbx.mono hb3.size)
        have HB3 := Lib.hid (HB.out.trans (hb4.mono HB.out.size))
        have HO3 := Lib.hid (owned_below HO.out hb4)
        have HL3 := Lib.hid (Lies.made w3 24 (evC x))
        have hlo := hln.lnO
        have HLO := Lib.hid hlo
        clear HB HO hb3 hbx hb4 hlo hln hx0
        cases ok with
        | false =>
          have HRES := Lib.hid (HBD.out (.inl HLO.out))
          clear HLO HBD HLN
          go_wp2
          go_ret2
          rw [HPO.out, HRES.out]
          exact ⟨_, rfl, World.ownsRow_nil _ _ _ _, HB3.out⟩
        | true =>
          by_cases ha : acc.length = 65536
          · have HRES := Lib.hid (HBD.out (.inr ha))
            have e2 : decide (65536 ≤ acc.length) = true := decide_eq_true (by omega)
            have e3 : decide ((65536 : Int) ≤ (acc.length : Int)) = true := decide_eq_true (by omega)
            clear HLO HBD HLN ha
            go_wp2
            go_ret2
            rw [HPO.out, HRES.out]
            exact ⟨_, rfl, World.ownsRow_nil _ _ _ _, HB3.out⟩
          · have HR2 := Lib.hid (HLN.out x HLO.out ha)
            have e2 : decide (65536 ≤ acc.length) = false := decide_eq_false (by omega)
            have e3 : decide ((65536 : Int) ≤ (acc.length : Int)) = false := decide_eq_false (by omega)
            clear HLO HBD HLN
            go_upto_region 10 with (fail)
            clear e2 e3
            generalize w3.alloc (.cells (evC x) 24) = w4 at *
            generalize w3.heap.size = n3 at *
            have c0 := (HL3.out.cell 0).trans (show _ = some (Value.int .i64 x.th) from rfl)
            have c1 := (HL3.out.cell 1).trans (show _ = some (Value.int .i64 x.kd) from rfl)
            have c2 := (HL3.out.cell 2).trans (show _ = some (Value.int .i64 x.rg) from rfl)
            have c3 := (HL3.out.cell 3).trans (show _ = some (Value.int .u64 (x.tk : Int)) from rfl)
            have c4 := (HL3.out.cell 4).trans (show _ = some (Value.int .u64 (x.vl : Int)) from rfl)
            have cl := HL3.out.lt
            have hz := HB3.out.size
            go_wp2_with (at_builtin; refine append_oneS _ (evC x) 5 rfl (.tmp 37) (.tmp 39) 36 rfl w.heap.size 24 _ 40 Tryd.underlying36 Tryd.infoEv rfl (by decide) rfl (evF_one x) _ acc.length _ rfl HO3.out rfl (by unfold maxLen; omega) (by omega) hz ?_)
            intro v5 w5 ho hb hgr
            have hrw : rowsOf evF acc ++ (evC x).toList = rowsOf evF (acc ++ [x]) := by rw [rowsOf_append, rowsOf_one]; rfl
            rw [hrw] at ho
            have HO5 : Hid (w5.ownsRow w.heap.size 24 5 v5 (acc ++ [x]).length (rowsOf evF (acc ++ [x]))) := by
              show World.ownsRow _ _ _ _ _ _ _
              rw [List.length_append]; exact ho
            have HB5 := Lib.hid (HB3.out.trans hb)
            obtain ⟨A9, c9, rfl⟩ := own_sliceD ho
            clear ho hb hgr hrw HO3 HB3 c0 c1 c2 c3 c4 cl
            go_wp2
            go_roundw
            case rel => exact ⟨k + 1, k + 1, acc ++ [x], by go_num, by go_num, by omega, by omega, by simp; omega, HR2, HO5, HB5⟩
            case measure => simp [intOf]; omega
      · have HR2 := Lib.hid (HR.out.other hc2 h10)
        obtain ⟨x, hx⟩ : ∃ x, c2.toNat = x := ⟨_, rfl⟩
        have hxne : x ≠ 10 := fun e => h10 (UInt8.toNat_inj.1 (by rw [hx, e]; rfl))
        rw [hx] at hx0
        have e2 : ((x : Int) == (10 : Int)) = false := by rw [beq_eq_false_iff_ne]; omega
        have e3 : (x == 10) = false := by rw [beq_eq_false_iff_ne]; exact hxne
        have e4 : ((x : Int) != (10 : Int)) = true := by rw [bne_iff_ne]; omega
        clear hc2 h10 hx hxne HR
        go_wp2
        go_roundw
        case rel => exact ⟨at_, k + 1, acc, rfl, by go_num, by omega, by omega, hal, HR2, HO, HB⟩
        case measure => simp [intOf]; omega
    · obtain rfl : k = bs.length := by omega
      by_cases hlt : at_ < bs.length
      · have HRES := Lib.hid (HR.out.open_ hlt)
        have hki : ¬ ((bs.length : Int) < ((textB bs).size : Int)) := by rw [HSZ.out]; omega
        have e1 : decide ((at_ : Int) < ((textB bs).size : Int)) = true := decide_eq_true (by rw [HSZ.out]; omega)
        have e2 : decide (at_ < (textB bs).size) = true := decide_eq_true (by rw [HSZ.out]; omega)
        clear HR hkl hlt
        go_wp2
        go_ret2
        rw [HPO.out, HRES.out]
        exact ⟨_, rfl, World.ownsRow_nil _ _ _ _, HB.out⟩
      · have HRES := Lib.hid (HR.out.done hlt)
        have hki : ¬ ((bs.length : Int) < ((textB bs).size : Int)) := by rw [HSZ.out]; omega
        have e1 : decide ((at_ : Int) < ((textB bs).size : Int)) = false := decide_eq_false (by rw [HSZ.out]; omega)
        have e2 : decide (at_ < (textB bs).size) = false := decide_eq_false (by rw [HSZ.out]; omega)
        clear HR hkl hlt
        go_wp2
        go_ret2
        rw [HPO.out, HRES.out]
        exact ⟨_, rfl, HO.out, HB.out⟩
end Go.Proofs.YtndcnflboikodaaDoor
