/-
  check.Ends, check.Touches.
-/
import Derived.Test.YteecfffgigaomaaReach2
namespace Go.Proofs.Yteecfffgigaomaa
open Go.RowKit
set_option linter.unusedVariables false
set_option linter.unusedSimpArgs false
noncomputable def endsAt (l : List In) (a : Nat) : Bool := rchB l a && ((l.getD a default).op == 25)
noncomputable def endsB (l : List In) : Bool := (List.range l.length).any (endsAt l) || rchB l l.length
theorem endsB_some {l : List In} {a : Nat} (h : a < l.length) (h2 : endsAt l a = true) : endsB l = true := by
  unfold endsB
  rw [List.any_eq_true.2 ⟨a, List.mem_range.2 h, h2⟩]; rfl
theorem endsB_none {l : List In} (h : ∀ a, a < l.length → endsAt l a = false) : endsB l = rchB l l.length := by
  unfold endsB
  have : (List.range l.length).any (endsAt l) = false := by
    rw [List.any_eq_false]
    exact fun a ha => by rw [h a (List.mem_range.1 ha)]; decide
  rw [this, Bool.false_or]
theorem endsAt_get {l : List In} {a : Nat} {x : In} (h : l[a]? = some x) : endsAt l a = (rchB l a && (x.op == 25)) := by
  unfold endsAt; rw [List.getD_eq_getElem?_getD, h]; rfl
def EndPost (w : World) (p : Pg) (t : Int) (e : Ending) (w' : World) : Prop :=
  ∃ b, e = .returned (.tuple #[.bool b, .int .i64 (namesE p t : Nat)]) ∧ Below w.heap.size w w' ∧ (namesE p t ≠ 0 → b = false) ∧ (namesE p t = 0 → ∀ l, p.ts[t.toNat]? = some l → b = endsB l)
set_option maxHeartbeats 8000000 in
set_option maxRecDepth 100000 in
theorem ckEnds (p : Pg) (A : Option Addr) (c : Nat) (B : Option Addr) (d : Nat) (t : Int) (w : World) (h : PgAt w A c B d p) (hok : pgOk p) (ht : i64 t) :
    Calls Try.prog 16 #[.agg (pgC A c B d p), .int .i64 t] w (EndPost w p t) := by
  obtain ⟨hd1, hd2⟩ := h.2.form
  have hb0 : Below w.heap.size w (w.alloc (.cells (pgC A c B d p) 25)) := (Below.refl _ _).alloc (Nat.le_refl _) _
  have l0 := Lies.made w 25 (pgC A c B d p)
  have HC := Lib.hid (ckReach p A c B d t _ (h.later hb0) hok ht)
  have HH := Lib.hid h
  have HB0 := Lib.hid hb0
  have HL0 := Lib.hid l0
  clear h hok hb0 l0
  go_enter Try.func16, Try.ntmps16
  go_wp2_with fail
  generalize w.alloc (.cells (pgC A c B d p) 25) = w1 at *
  refine HC.out.mono ?_
  rintro e w2 ⟨v, rfl, hb2, hv1, hv2⟩
  have HL2 := Lib.hid (HL0.out.below hb2 HL0.out.lt)
  have HB2 := Lib.hid (HB0.out.trans (hb2.mono HB0.out.size))
  have hw1 := HB0.out.size
  clear HC HB0 HL0 hb2
  by_cases hE : namesE p t = 0
  case neg =>
    have hv := hv1 hE
    subst hv
    obtain ⟨E, hEE⟩ : ∃ E, namesE p t = E := ⟨_, rfl⟩
    have HE := Lib.hid hEE
    have e1 : ((E : Int) != 0) = true := by rw [bne_iff_ne]; omega
    rw [hEE] at hE ⊢
    clear hEE hv1 hv2
    go_wp2
    go_ret2
    exact ⟨false, by rw [HE.out]; rfl, HB2.out, fun _ => rfl, fun h => absurd h (by rw [HE.out]; exact hE)⟩
  obtain ⟨hr, ht0, ht1⟩ := names_zero hE
  obtain ⟨_, _, hall⟩ := rightP_all hr
  obtain ⟨tn, rfl⟩ : ∃ tn : Nat, t = tn := ⟨t.toNat, by omega⟩
  obtain ⟨l, hl⟩ : ∃ l, p.ts[tn]? = some l := ⟨_, List.getElem?_eq_getElem (by omega)⟩
  obtain ⟨h256, hokl, _⟩ := hall l (List.mem_of_getElem? hl)
  have hown := hv2 hE l (by rw [Int.toNat_natCast]; exact hl)
  obtain ⟨g8, cap8, rfl, hg8, hg8l, hcap8, hcm8, _⟩ := ownsRow_open hown (by omega)
  unfold maxLen at hcm8
  obtain ⟨b, off, B2, d2, rfl, g0w, hil⟩ := HH.out.2.at_ hl
  have g0 := (HB2.out.cell (p := ⟨b, off + tn, none⟩) (World.block_lt_of_cell? w _ g0w)).trans g0w
  obtain ⟨hc3, hc4⟩ := seq_form hil
  have HIL := Lib.hid hil
  have HO := Lib.hid hown
  have HE := Lib.hid hE
  have HLL := Lib.hid (show ∀ q, p.ts[(tn : Int).toNat]? = some q → q = l from fun q hq => by rw [Int.toNat_natCast, hl] at hq; injection hq with hq; exact hq.symm)
  rw [hE]
  have c1 := (HL2.out.cell 1).trans (show _ = some (Value.slice (some ⟨b, off, none⟩) p.ts.length d) from rfl)
  have c2 := HL2.out.lt
  clear hE hr hall hil hokl hl hown hv1 hv2 g0w
  go_wp2_with fail
  clear c1 c2 g0 HL2
  go_loopw [27] (fun u wr => ∃ i : Nat, i ≤ l.length ∧ u = .int .i64 i ∧ Hid (∀ a, a < i → endsAt l a = false) ∧ Hid (Below w2.heap.size w2 wr)) (fun u _ => l.length - (intOf u).toNat)
  case atStart => exact ⟨0, by omega, rfl, fun a ha => by omega, Below.refl _ _⟩
  case round =>
    obtain ⟨i, hi, rfl, hq, hb⟩ := hrel
    have HOR := Lib.hid (owned_below HO.out hb.out)
    have HBR := Lib.hid (HB2.out.trans (hb.out.mono HB2.out.size))
    by_cases hlt : i < l.length
    · have hii : (i : Int) < (l.length : Int) := by omega
      obtain ⟨x, hx⟩ : ∃ x, l[i]? = some x := ⟨_, List.getElem?_eq_getElem hlt⟩
      obtain ⟨b3, off3, rfl, _, hg⟩ := InsAt.at_ (HIL.out.later HBR.out) hx
      have y0 := hg 0 _ (by decide) rfl
      have y1 := hg 1 _ (by decide) rfl
      have y2 := hg 2 _ (by decide) rfl
      have y3 := hg 3 _ (by decide) rfl
      have y4 := hg 4 _ (by decide) rfl
      have y5 := hg 5 _ (by decide) rfl
      rw [Nat.add_zero] at y0
      have HEA := Lib.hid (endsAt_get hx)
      have hbx : Below wr.heap.size wr (wr.alloc (.cells (inC x) 48)) := (Below.refl _ _).alloc (Nat.le_refl _) _
      have q8 := owns_cell (owned_below HOR.out hbx) (boolC_get (rchL_get (l := l) (a := i) hi))
      have q8l := World.block_lt_of_cell? _ _ q8
      have HB3 := Lib.hid (hb.out.trans (hbx.mono hb.out.size))
      have HBR3 := Lib.hid (HBR.out.trans (hbx.mono HBR.out.size))
      have lx := Lies.made wr 48 (inC x)
      obtain ⟨rb, hrb⟩ : ∃ rb, rchB l i = rb := ⟨_, rfl⟩
      obtain ⟨ob, hob⟩ : ∃ ob, (x.op == 25) = ob := ⟨_, rfl⟩
      rw [hrb, hob] at HEA
      rw [hrb] at q8
      have HLX := Lib.hid lx
      have HI2 : Hid (i ≤ l.length) := hi
      clear hg hx hbx hrb lx hb HOR HBR
      go_upto_region 8 with (fail)
      generalize wr.alloc (.cells (inC x) 48) = w5 at *
      clear y0 y1 y2 y3 y4 y5
      have x0 := (HLX.out.cell 0).trans (show _ = some (Value.int .i64 x.op) from rfl)
      have hxl := HLX.out.lt
      by_cases hboth : rb = true ∧ ob = true
      · obtain ⟨rfl, rfl⟩ := hboth
        have HB := Lib.hid (endsB_some hlt (HEA.out))
        clear HEA
        go_wp2
        go_ret2
        exact ⟨true, by rw [HE.out]; rfl, HBR3.out, fun h => absurd HE.out h, fun _ q hq2 => by rw [HLL.out q hq2, HB.out]⟩
      · have HQN : Hid (∀ a, a < i + 1 → endsAt l a = false) := fun a ha => by
          by_cases e : a = i
          · subst e
            rw [HEA.out]
            cases rb <;> cases ob <;> simp at hboth ⊢
          · exact hq.out a (by omega)
        have hcs : rb = false ∨ (rb = true ∧ ob = false) := by cases rb <;> cases ob <;> simp at hboth ⊢
        clear hboth hq HEA
        rcases hcs with rfl | ⟨rfl, rfl⟩
        all_goals
          go_wp2
          go_roundw
          case rel => exact ⟨i + 1, by omega, by go_num, HQN, HB3⟩
          case measure => simp [intOf]; omega
    · obtain rfl : i = l.length := by omega
      have HB := Lib.hid (endsB_none hq.out)
      have q8 := owns_cell HOR.out (boolC_get (rchL_get (l := l) (a := l.length) (Nat.le_refl _)))
      have q8l := World.block_lt_of_cell? _ _ q8
      obtain ⟨rb, hrb⟩ : ∃ rb, rchB l l.length = rb := ⟨_, rfl⟩
      rw [hrb] at q8 HB
      clear hrb hq
      go_wp2
      go_ret2
      exact ⟨rb, by rw [HE.out]; rfl, HBR.out, fun h => absurd HE.out h, fun _ q hq2 => by rw [HLL.out q hq2, HB.out]⟩
end Go.Proofs.Yteecfffgigaomaa
