/-
  A source of a program's parts (layer 9): code.source's byte, number and count.
-/
import Derived.Test.YtebgcehcnenjiaaDoorCpr
namespace Go.Proofs.YtebgcehcnenjiaaDoor
open Go.RowKit
set_option linter.unusedVariables false
set_option linter.unusedSimpArgs false
/-- A source: its reader, its place, and whether one part failed. -/
def InAt (w : World) (G g : Nat) (s : ByteArray) (i : Nat) (f : Bool) : Prop := Lies w G 79 #[.pointer (some ⟨g, 0, none⟩), .bool f] ∧ RdAt w g s i
def twoRows (g G : Nat) : Nat → Prop := fun k => k = g ∨ k = G
def byV (s : ByteArray) (i : Nat) : Nat := if h : i < s.size then (s[i]'h).toNat else 0
def byI (s : ByteArray) (i : Nat) : Nat := if i < s.size then i + 1 else i
def byF (s : ByteArray) (i : Nat) (f : Bool) : Bool := f || decide (s.size ≤ i)
theorem InAt.ne {w : World} {G g : Nat} {s : ByteArray} {i : Nat} {f : Bool} (h : InAt w G g s i f) : G ≠ g := fun e => by
  subst e
  exact absurd (h.1.same h.2.1).1 (by decide)
theorem RdAt.lt' {w : World} {g : Nat} {s : ByteArray} {i : Nat} (h : RdAt w g s i) : g < w.heap.size := h.1.lt
/-- The flag stored. -/
theorem InAt.flag {w : World} {G g : Nat} {s : ByteArray} {i : Nat} {f f' : Bool} (h : InAt w G g s i f) : InAt (w.setCell ⟨G, 1, none⟩ (.bool f')) G g s i f' ∧ Kept (twoRows g G) w (w.setCell ⟨G, 1, none⟩ (.bool f')) :=
  ⟨⟨h.1.put 1 (.bool f'), h.2.1.far (p := ⟨G, 1, none⟩) (fun e => h.ne e.symm) _, h.2.2⟩, (Kept.put w G 1 (.bool f')).mono (fun _ _ e => .inr e)⟩
/-- Behind a reader's call. -/
theorem InAt.read {w w' : World} {G g : Nat} {s : ByteArray} {i j : Nat} {f : Bool} (h : InAt w G g s i f) (hr : RdAt w' g s j) (hk : Kept (oneRow g) w w') : InAt w' G g s j f ∧ Kept (twoRows g G) w w' :=
  ⟨⟨h.1.kept hk (fun e => h.ne e), hr⟩, hk.mono (fun _ _ e => .inl e)⟩
set_option maxHeartbeats 4000000 in
theorem srcByte (G g : Nat) (s : ByteArray) (i : Nat) (f : Bool) (w : World) (h : InAt w G g s i f) : Calls Tryd.prog 51 #[.pointer (some ⟨G, 0, none⟩)] w fun e w' =>
    e = .returned (.int .i64 (byV s i : Nat)) ∧ InAt w' G g s (byI s i) (byF s i f) ∧ Kept (twoRows g G) w w' := by
  have c0 := (h.1.cell 0).trans (show _ = some (Value.pointer (some ⟨g, 0, none⟩)) from rfl)
  have cl := h.1.lt
  by_cases hi : i < s.size
  · have HC := Lib.hid (octetByteOk g s i w h.2 hi)
    have HV : Hid (byV s i = (s[i]'hi).toNat) := by show _ = _; unfold byV; rw [dif_pos hi]
    have HI : Hid (byI s i = i + 1) := by show _ = _; unfold byI; rw [if_pos hi]
    have HF : Hid (byF s i f = f) := by show _ = _; unfold byF; rw [decide_eq_false (by omega), Bool.or_false]
    have hb : (s[i]'hi).toNat < 256 := (s[i]'hi).toNat_lt
    have HH := Lib.hid h
    generalize (s[i]'hi).toNat = b at *
    clear h hi
    go_enter Tryd.func51, Tryd.ntmps51
    go_wp2_with fail
    refine HC.out.mono ?_
    rintro e w2 ⟨rfl, hr, hk⟩
    have h2 := HH.out.read hr hk
    have hfl := (h2.1.flag (f' := f)).1
    have hfk := (h2.1.flag (f' := f)).2
    have d1 := (h2.1.1.cell 1).trans (show _ = some (Value.bool f) from rfl)
    have f1 := h2.1.1.free 1
    have dl := h2.1.1.lt
    have HFL := Lib.hid hfl
    have HK := Lib.hid (h2.2.trans hfk (fun _ _ e => e))
    clear h2 hfl hfk hr hk HC c0 cl HH
    have n1 : IntKind.i64.wrap (b : Int) = (b : Int) := IntWalk.i64_in _ (by omega)
    cases f
    all_goals
      go_wp2
      go_ret
      exact ⟨by rw [HV.out]; rfl, by rw [HI.out, HF.out]; exact HFL.out, HK.out⟩
  · have hie : i = s.size := by have := h.2.2.1; omega
    subst hie
    have HC := Lib.hid (octetByteEnd g s w h.2)
    have HV : Hid (byV s s.size = 0) := by show _ = _; unfold byV; rw [dif_neg hi]
    have HI : Hid (byI s s.size = s.size) := by show _ = _; unfold byI; rw [if_neg hi]
    have HF : Hid (byF s s.size f = true) := by show _ = _; unfold byF; rw [decide_eq_true (Nat.le_refl _), Bool.or_true]
    have HH := Lib.hid h
    clear h hi
    go_enter Tryd.func51, Tryd.ntmps51
    go_wp2_with fail
    refine HC.out.mono ?_
    rintro e w2 ⟨rfl, n, rfl⟩
    have h2 : InAt (w.drewN n) G g s s.size f := HH.out
    have hfl := (h2.flag (f' := true)).1
    have hfk := (h2.flag (f' := true)).2
    have d1 := (h2.1.cell 1).trans (show _ = some (Value.bool f) from rfl)
    have f1 := h2.1.free 1
    have dl := h2.1.lt
    have HFL := Lib.hid hfl
    have HK := Lib.hid (((Kept.of_below (below_drewN (Below.refl w.heap.size w) n)).mono (T := twoRows g G) (fun _ _ (e : False) => e.elim)).trans hfk (fun _ _ e => e))
    clear h2 hfl hfk HC c0 cl HH
    cases f
    all_goals
      go_wp2
      go_ret
      exact ⟨by rw [HV.out]; rfl, by rw [HI.out, HF.out]; exact HFL.out, HK.out⟩
def nuV (s : ByteArray) (i : Nat) : Nat := (rd (restOf s i)).1
def nuI (s : ByteArray) (i : Nat) : Nat := i + (rd (restOf s i)).2.2
def nuF (s : ByteArray) (i : Nat) (f : Bool) : Bool := f || ((rd (restOf s i)).2.1 != 0)
set_option maxHeartbeats 4000000 in
theorem srcNumber (G g : Nat) (s : ByteArray) (i : Nat) (f : Bool) (w : World) (h : InAt w G g s i f) : Calls Tryd.prog 54 #[.pointer (some ⟨G, 0, none⟩)] w fun e w' =>
    e = .returned (.int .u64 (nuV s i : Nat)) ∧ InAt w' G g s (nuI s i) (nuF s i f) ∧ Kept (twoRows g G) w w' := by
  have c0 := (h.1.cell 0).trans (show _ = some (Value.pointer (some ⟨g, 0, none⟩)) from rfl)
  have cl := h.1.lt
  have hc := varintRead g s i w h.2
  have HV : Hid (nuV s i = (rd (restOf s i)).1) := rfl
  have HI : Hid (nuI s i = i + (rd (restOf s i)).2.2) := rfl
  have HF : Hid (nuF s i f = (f || ((rd (restOf s i)).2.1 != 0))) := rfl
  have HH := Lib.hid h
  generalize (rd (restOf s i)).1 = v at *
  generalize (rd (restOf s i)).2.2 = j at *
  generalize (rd (restOf s i)).2.1 = er at *
  have HC := Lib.hid hc
  clear h hc
  go_enter Tryd.func54, Tryd.ntmps54
  go_wp2_with fail
  refine HC.out.mono ?_
  rintro e w2 ⟨rfl, hr, hk⟩
  have h2 := HH.out.read hr hk
  obtain ⟨eb, heb⟩ : ∃ eb, (er != 0) = eb := ⟨_, rfl⟩
  have heb2 : ((er : Int) != 0) = eb := by
    rw [← heb, Bool.eq_iff_iff, bne_iff_ne, bne_iff_ne]; omega
  rw [heb] at HF
  have hfl := (h2.1.flag (f' := f || eb)).1
  have hfk := (h2.1.flag (f' := f || eb)).2
  have d1 := (h2.1.1.cell 1).trans (show _ = some (Value.bool f) from rfl)
  have f1 := h2.1.1.free 1
  have dl := h2.1.1.lt
  have HFL := Lib.hid hfl
  have HK := Lib.hid (h2.2.trans hfk (fun _ _ e => e))
  clear h2 hfl hfk hr hk HC c0 cl HH heb
  cases f <;> cases eb
  all_goals
    go_wp2
    go_ret
    exact ⟨by rw [HV.out]; rfl, by rw [HI.out, HF.out]; exact HFL.out, HK.out⟩
def coV (n m : Nat) (f : Bool) : Nat := if (f || decide (m < n)) = true then 0 else n
set_option maxHeartbeats 4000000 in
theorem srcCount (G g : Nat) (s : ByteArray) (i : Nat) (f : Bool) (n m : Nat) (w : World) (h : InAt w G g s i f) (hm : m ≤ 1000) : Calls Tryd.prog 50 #[.pointer (some ⟨G, 0, none⟩), .int .u64 (n : Int), .int .u64 (m : Int)] w fun e w' =>
    e = .returned (.int .i64 (coV n m f : Nat)) ∧ InAt w' G g s i (f || decide (m < n)) ∧ Kept (twoRows g G) w w' := by
  have d1 := (h.1.cell 1).trans (show _ = some (Value.bool f) from rfl)
  have f1 := h.1.free 1
  have dl := h.1.lt
  by_cases hn : m < n
  · have e1 : decide ((m : Int) < (n : Int)) = true := decide_eq_true (by omega)
    have e2 : decide (m < n) = true := decide_eq_true hn
    have HV : Hid (coV n m f = 0) := by show _ = _; unfold coV; rw [e2, Bool.or_true, if_pos rfl]
    have HFL := Lib.hid (h.flag (f' := true)).1
    have HK := Lib.hid (h.flag (f' := true)).2
    have HD := Lib.hid e2
    have q1 := (HFL.out.1.cell 1).trans (show _ = some (Value.bool true) from rfl)
    have HQ := Lib.hid q1
    clear h hn q1
    go_enter Tryd.func50, Tryd.ntmps50
    go_wp2
    go_ret
    exact ⟨by rw [HV.out]; rfl, by rw [HD.out, Bool.or_true]; exact HFL.out, HK.out⟩
  · have e1 : decide ((m : Int) < (n : Int)) = false := decide_eq_false (by omega)
    have e2 : decide (m < n) = false := decide_eq_false hn
    have hw : IntKind.i64.wrap (n : Int) = (n : Int) := IntWalk.i64_in _ (by omega)
    have HH := Lib.hid h
    have HD := Lib.hid e2
    have HK := Lib.hid (Kept.alloc (twoRows g G) w (.cells #[] 5))
    clear h hn
    cases f
    all_goals
      go_enter Tryd.func50, Tryd.ntmps50
      go_wp2
      go_ret
      exact ⟨by unfold coV; rw [HD.out]; rfl, by rw [HD.out, Bool.or_false]; exact HH.out, Kept.refl _ _⟩
end Go.Proofs.YtebgcehcnenjiaaDoor
