import Derived.Test.YtebgcehcnenjiaaDoorCpr
import Derived.Test.YtebgcehcnenjiaaDoorCopy2
import Derived.Test.YtebgcehcnenjiaaDoorRdtake
import Derived.Test.YtebgcehcnenjiaaDoorRfwr
import Derived.Deep.DeepCutAuto
/-
  A source of a program's parts (layer 9): code.source's byte, number and count.
-/
namespace Go.Proofs.YtebgcehcnenjiaaDoor
open Go.RowKit
set_option linter.unusedVariables false
set_option linter.unusedSimpArgs false
/-- A source: its reader, its place, and whether one part failed. -/
def InAt (w : World) (G g : Nat) (s : ByteArray) (i : Nat) (f : Bool) : Prop := Lies w G 79 #[.pointer (some ⟨g, 0, none⟩), .bool f] ∧ RdAt w g s i
def twoRows (g G : Nat) : Nat → Prop := fun k => k = g ∨ k = G
def byV (s : ByteArray) (i : Nat) : Nat := if h : i < s.size then (s[i]'h).toNat else 0
def byI (s : ByteArray) (i : Nat) : Nat := if i < s.size then i + 1 else i
def byF (s : ByteArray) (i : Nat) (f : Bool) : Bool := f || decide (s.size ≤ i)
theorem InAt.ne {w : World} {G g : Nat} {s : ByteArray} {i : Nat} {f : Bool} (h : InAt w G g s i f) : G ≠ g := fun e => by
  subst e
  exact absurd (h.1.same h.2.1).1 (by decide)
theorem RdAt.lt' {w : World} {g : Nat} {s : ByteArray} {i : Nat} (h : RdAt w g s i) : g < w.heap.size := h.1.lt
/-- The flag stored. -/
theorem InAt.flag {w : World} {G g : Nat} {s : ByteArray} {i : Nat} {f f' : Bool} (h : InAt w G g s i f) : InAt (w.setCell ⟨G, 1, none⟩ (.bool f')) G g s i f' ∧ Kept (twoRows g G) w (w.setCell ⟨G, 1, none⟩ (.bool f')) :=
  ⟨⟨h.1.put 1 (.bool f'), h.2.1.far (p := ⟨G, 1, none⟩) (fun e => h.ne e.symm) _, h.2.2⟩, (Kept.put w G 1 (.bool f')).mono (fun _ _ e => .inr e)⟩
/-- Behind a reader's call. -/
theorem InAt.read {w w' : World} {G g : Nat} {s : ByteArray} {i j : Nat} {f : Bool} (h : InAt w G g s i f) (hr : RdAt w' g s j) (hk : Kept (oneRow g) w w') : InAt w' G g s j f ∧ Kept (twoRows g G) w w' :=
  ⟨⟨h.1.kept hk (fun e => h.ne e), hr⟩, hk.mono (fun _ _ e => .inl e)⟩
set_option maxHeartbeats 4000000 in
theorem srcByte (G g : Nat) (s : ByteArray) (i : Nat) (f : Bool) (w : World) (h : InAt w G g s i f) : Calls Tryd.prog 51 #[.pointer (some ⟨G, 0, none⟩)] w fun e w' =>
    e = .returned (.int .i64 (byV s i : Nat)) ∧ InAt w' G g s (byI s i) (byF s i f) ∧ Kept (twoRows g G) w w' := by
  have c0 := (h.1.cell 0).trans (show _ = some (Value.pointer (some ⟨g, 0, none⟩)) from rfl)
  have cl := h.1.lt
  by_cases hi : i < s.size
  · have HC := Lib.hid (octetByteOk g s i w h.2 hi)
    have HV : Hid (byV s i = (s[i]'hi).toNat) := by show _ = _; unfold byV; rw [dif_pos hi]
    have HI : Hid (byI s i = i + 1) := by show _ = _; unfold byI; rw [if_pos hi]
    have HF : Hid (byF s i f = f) := by show _ = _; unfold byF; rw [decide_eq_false (by omega), Bool.or_false]
    have hb : (s[i]'hi).toNat < 256 := (s[i]'hi).toNat_lt
    have HH := Lib.hid h
    generalize (s[i]'hi).toNat = b at *
    clear h hi
    go_enter Tryd.func51, Tryd.ntmps51
    go_wp2_with fail
    refine HC.out.mono ?_
    rintro e w2 ⟨rfl, hr, hk⟩
    have h2 := HH.out.read hr hk
    have hfl := (h2.1.flag (f' := f)).1
    have hfk := (h2.1.flag (f' := f)).2
    have d1 := (h2.1.1.cell 1).trans (show _ = some (Value.bool f) from rfl)
    have f1 := h2.1.1.free 1
    have dl := h2.1.1.lt
    have HFL := Lib.hid hfl
    have HK := Lib.hid (h2.2.trans hfk (fun _ _ e => e))
    clear h2 hfl hfk hr hk HC c0 cl HH
    have n1 : IntKind.i64.wrap (b : Int) = (b : Int) := IntWalk.i64_in _ (by omega)
    cases f
    all_goals
      go_wp2
      go_ret
      exact ⟨by rw [HV.out]; rfl, by rw [HI.out, HF.out]; exact HFL.out, HK.out⟩
  · have hie : i = s.size := by have := h.2.2.1; omega
    subst hie
    have HC := Lib.hid (octetByteEnd g s w h.2)
    have HV : Hid (byV s s.size = 0) := by show _ = _; unfold byV; rw [dif_neg hi]
    have HI : Hid (byI s s.size = s.size) := by show _ = _; unfold byI; rw [if_neg hi]
    have HF : Hid (byF s s.size f = true) := by show _ = _; unfold byF; rw [decide_eq_true (Nat.le_refl _), Bool.or_true]
    have HH := Lib.hid h
    clear h hi
    go_enter Tryd.func51, Tryd.ntmps51
    go_wp2_with fail
    refine HC.out.mono ?_
    rintro e w2 ⟨rfl, n, rfl⟩
    have h2 : InAt (w.drewN n) G g s s.size f := HH.out
    have hfl := (h2.flag (f' := true)).1
    have hfk := (h2.flag (f' := true)).2
    have d1 := (h2.1.cell 1).trans (show _ = some (Value.bool f) from rfl)
    have f1 := h2.1.free 1
    have dl := h2.1.lt
    have HFL := Lib.hid hfl
    have HK := Lib.hid (((Kept.of_below (below_drewN (Below.refl w.heap.size w) n)).mono (T := twoRows g G) (fun _ _ (e : False) => e.elim)).trans hfk (fun _ _ e => e))
    clear h2 hfl hfk HC c0 cl HH
    cases f
    all_goals
      go_wp2
      go_ret
      exact ⟨by rw [HV.out]; rfl, by rw [HI.out, HF.out]; exact HFL.out, HK.out⟩
def nuV (s : ByteArray) (i : Nat) : Nat := (rd (restOf s i)).1
def nuI (s : ByteArray) (i : Nat) : Nat := i + (rd (restOf s i)).2.2
def nuF (s : ByteArray) (i : Nat) (f : Bool) : Bool := f || ((rd (restOf s i)).2.1 != 0)
set_option maxHeartbeats 4000000 in
theorem srcNumber (G g : Nat) (s : ByteArray) (i : Nat) (f : Bool) (w : World) (h : InAt w G g s i f) : Calls Tryd.prog 54 #[.pointer (some ⟨G, 0, none⟩)] w fun e w' =>
    e = .returned (.int .u64 (nuV s i : Nat)) ∧ InAt w' G g s (nuI s i) (nuF s i f) ∧ Kept (twoRows g G) w w' := by
  have c0 := (h.1.cell 0).trans (show _ = some (Value.pointer (some ⟨g, 0, none⟩)) from rfl)
  have cl := h.1.lt
  have hc := varintRead g s i w h.2
  have HV : Hid (nuV s i = (rd (restOf s i)).1) := rfl
  have HI : Hid (nuI s i = i + (rd (restOf s i)).2.2) := rfl
  have HF : Hid (nuF s i f = (f || ((rd (restOf s i)).2.1 != 0))) := rfl
  have HH := Lib.hid h
  generalize (rd (restOf s i)).1 = v at *
  generalize (rd (restOf s i)).2.2 = j at *
  generalize (rd (restOf s i)).2.1 = er at *
  have HC := Lib.hid hc
  clear h hc
  go_enter Tryd.func54, Tryd.ntmps54
  go_wp2_with fail
  refine HC.out.mono ?_
  rintro e w2 ⟨rfl, hr, hk⟩
  have h2 := HH.out.read hr hk
  obtain ⟨eb, heb⟩ : ∃ eb, (er != 0) = eb := ⟨_, rfl⟩
  have heb2 : ((er : Int) != 0) = eb := by
    rw [← heb, Bool.eq_iff_iff, bne_iff_ne, bne_iff_ne]; omega
  rw [heb] at HF
  have hfl := (h2.1.flag (f' := f || eb)).1
  have hfk := (h2.1.flag (f' := f || eb)).2
  have d1 := (h2.1.1.cell 1).trans (show _ = some (Value.bool f) from rfl)
  have f1 := h2.1.1.free 1
  have dl := h2.1.1.lt
  have HFL := Lib.hid hfl
  have HK := Lib.hid (h2.2.trans hfk (fun _ _ e => e))
  clear h2 hfl hfk hr hk HC c0 cl HH heb
  cases f <;> cases eb
  all_goals
    go_wp2
    go_ret
    exact ⟨by rw [HV.out]; rfl, by rw [HI.out, HF.out]; exact HFL.out, HK.out⟩
def coV (n m : Nat) (f : Bool) : Nat := if (f || decide (m < n)) = true then 0 else n
set_option maxHeartbeats 4000000 in
theorem srcCount (G g : Nat) (s : ByteArray) (i : Nat) (f : Bool) (n m : Nat) (w : World) (h : InAt w G g s i f) (hm : m ≤ 1000) : Calls Tryd.prog 50 #[.pointer (some ⟨G, 0, none⟩), .int .u64 (n : Int), .int .u64 (m : Int)] w fun e w' =>
    e = .returned (.int .i64 (coV n m f : Nat)) ∧ InAt w' G g s i (f || decide (m < n)) ∧ Kept (twoRows g G) w w' := by
  have d1 := (h.1.cell 1).trans (show _ = some (Value.bool f) from rfl)
  have f1 := h.1.free 1
  have dl := h.1.lt
  by_cases hn : m < n
  · have e1 : decide ((m : Int) < (n : Int)) = true := decide_eq_true (by omega)
    have e2 : decide (m < n) = true := decide_eq_true hn
    have HV : Hid (coV n m f = 0) := by show _ = _; unfold coV; rw [e2, Bool.or_true, if_pos rfl]
    have HFL := Lib.hid (h.flag (f' := true)).1
    have HK := Lib.hid (h.flag (f' := true)).2
    have HD := Lib.hid e2
    have q1 := (HFL.out.1.cell 1).trans (show _ = some (Value.bool true) from rfl)
    have HQ := Lib.hid q1
    clear h hn q1
    go_enter Tryd.func50, Tryd.ntmps50
    go_wp2
    go_ret
    exact ⟨by rw [HV.out]; rfl, by rw [HD.out, Bool.or_true]; exact HFL.out, HK.out⟩
  · have e1 : decide ((m : Int) < (n : Int)) = false := decide_eq_false (by omega)
    have e2 : decide (m < n) = false := decide_eq_false hn
    have hw : IntKind.i64.wrap (n : Int) = (n : Int) := IntWalk.i64_in _ (by omega)
    have HH := Lib.hid h
    have HD := Lib.hid e2
    have HK := Lib.hid (Kept.alloc (twoRows g G) w (.cells #[] 5))
    clear h hn
    cases f
    all_goals
      go_enter Tryd.func50, Tryd.ntmps50
      go_wp2
      go_ret
      exact ⟨by unfold coV; rw [HD.out]; rfl, by rw [HD.out, Bool.or_false]; exact HH.out, Kept.refl _ _⟩
end Go.Proofs.YtebgcehcnenjiaaDoor
/-
  A source's thread (layer 9).
-/
namespace Go.Proofs.YtebgcehcnenjiaaDoor
open Go.RowKit
set_option linter.unusedVariables false
set_option linter.unusedSimpArgs false
def inRd (s : ByteArray) (i : Nat) (f : Bool) : In × Nat × Bool :=
  (⟨(byV s i : Nat), (byV s (byI s i) : Nat), (byV s (byI s (byI s i)) : Nat), (byV s (byI s (byI s (byI s i))) : Nat), (byV s (byI s (byI s (byI s (byI s i)))) : Nat), nuV s (byI s (byI s (byI s (byI s (byI s i)))))⟩,
    nuI s (byI s (byI s (byI s (byI s (byI s i))))),
    nuF s (byI s (byI s (byI s (byI s (byI s i))))) (byF s (byI s (byI s (byI s (byI s i)))) (byF s (byI s (byI s (byI s i))) (byF s (byI s (byI s i)) (byF s (byI s i) (byF s i f))))))
def insRd (s : ByteArray) (i : Nat) (f : Bool) : Nat → List In × Nat × Bool
  | 0 => ([], i, f)
  | c + 1 => ((insRd s i f c).1 ++ [(inRd s (insRd s i f c).2.1 (insRd s i f c).2.2).1], (inRd s (insRd s i f c).2.1 (insRd s i f c).2.2).2)
def thRd (s : ByteArray) (i : Nat) (f : Bool) : List In × Nat × Bool :=
  insRd s (nuI s i) (nuF s i f || decide (256 < nuV s i)) (coV (nuV s i) 256 (nuF s i f))
theorem insRd_length (s : ByteArray) (i : Nat) (f : Bool) : ∀ c, (insRd s i f c).1.length = c
  | 0 => rfl
  | c + 1 => by
    show ((insRd s i f c).1 ++ [_]).length = c + 1
    rw [List.length_append, insRd_length s i f c]; rfl
theorem coV_le (n m : Nat) (f : Bool) : coV n m f ≤ m := by
  unfold coV
  split
  · omega
  · rename_i h
    simp only [Bool.or_eq_true, decide_eq_true_eq, not_or] at h
    omega
theorem owns_two {w w' : World} {G g : Nat} {s : ByteArray} {i : Nat} {f : Bool} {B n : Nat} {v : Value} {xs : List Value} (h : w.ownsRow B 24 6 v n xs) (hI : InAt w G g s i f) (hk : Kept (twoRows g G) w w') : w'.ownsRow B 24 6 v n xs :=
  owns_kept h hk (fun r cur hr hl e => by
    rcases e with e | e
    · subst e; exact absurd (hl.same hI.2.1).1 (by decide)
    · subst e; exact absurd (hl.same hI.1).1 (by decide))
set_option maxHeartbeats 8000000 in
set_option maxRecDepth 100000 in
theorem srcThread (G g : Nat) (s : ByteArray) (i : Nat) (f : Bool) (w : World) (h : InAt w G g s i f) : Calls Tryd.prog 52 #[.pointer (some ⟨G, 0, none⟩)] w fun e w' =>
    ∃ v, e = .returned v ∧ OwnIn w' w.heap.size v (thRd s i f).1 ∧ InAt w' G g s (thRd s i f).2.1 (thRd s i f).2.2 ∧ Kept (twoRows g G) w w' := by
  have HH := Lib.hid h
  have HT : Hid (thRd s i f = insRd s (nuI s i) (nuF s i f || decide (256 < nuV s i)) (coV (nuV s i) 256 (nuF s i f))) := rfl
  clear h
  go_enter Tryd.func52, Tryd.ntmps52
  go_wp2_with fail
  refine (srcNumber G g s i f w HH.out).mono ?_
  rintro e w1 ⟨rfl, hin, hk⟩
  have HI := Lib.hid hin
  have HK := Lib.hid hk
  clear hin hk HH
  go_wp2_with fail
  refine (srcCount G g s _ _ (nuV s i) 256 w1 HI.out (by omega)).mono ?_
  rintro e w2 ⟨rfl, hin, hk⟩
  replace HI := Lib.hid hin
  replace HK := Lib.hid (HK.out.trans hk (fun _ _ e => e))
  clear hin hk
  have hcl := coV_le (nuV s i) 256 (nuF s i f)
  generalize coV (nuV s i) 256 (nuF s i f) = C at *
  generalize (nuF s i f || decide (256 < nuV s i)) = F0 at *
  generalize nuI s i = J0 at *
  go_wp2_with fail
  go_loopw [8, 3] (fun u v wr => ∃ k : Nat, k ≤ C ∧ u = .int .i64 k ∧ Hid (wr.ownsRow w.heap.size 24 6 v k (rowsOf inF (insRd s J0 F0 k).1)) ∧ Hid (InAt wr G g s (insRd s J0 F0 k).2.1 (insRd s J0 F0 k).2.2) ∧ Hid (Kept (twoRows g G) w wr)) (fun u _ _ => C - (intOf u).toNat)
  case atStart => exact ⟨0, by omega, rfl, World.ownsRow_nil _ _ _ _, HI, HK⟩
  case round =>
    clear HI HK
    obtain ⟨k, hk, rfl, HO, HI, HK⟩ := hrel
    obtain ⟨A9, c9, rfl⟩ := own_slice HO.out
    by_cases hlt : k < C
    · have hki : (k : Int) < (C : Int) := by omega
      have HN : Hid (insRd s J0 F0 (k + 1) = ((insRd s J0 F0 k).1 ++ [(inRd s (insRd s J0 F0 k).2.1 (insRd s J0 F0 k).2.2).1], (inRd s (insRd s J0 F0 k).2.1 (insRd s J0 F0 k).2.2).2)) := rfl
      generalize insRd s J0 F0 k = q at *
      obtain ⟨L, j, fl⟩ := q
      dsimp only at HO HI HN
      go_wp2_with fail
      refine (srcByte G g s _ _ _ HI.out).mono ?_
      rintro e wn ⟨rfl, hin, hk⟩
      replace HO := Lib.hid (owns_two HO.out HI.out hk)
      replace HK := Lib.hid (HK.out.trans hk (fun _ _ e => e))
      replace HI := Lib.hid hin
      clear hin hk
      go_wp2_with fail
      refine (srcByte G g s _ _ _ HI.out).mono ?_
      rintro e wn ⟨rfl, hin, hk⟩
      replace HO := Lib.hid (owns_two HO.out HI.out hk)
      replace HK := Lib.hid (HK.out.trans hk (fun _ _ e => e))
      replace HI := Lib.hid hin
      clear hin hk
      go_wp2_with fail
      refine (srcByte G g s _ _ _ HI.out).mono ?_
      rintro e wn ⟨rfl, hin, hk⟩
      replace HO := Lib.hid (owns_two HO.out HI.out hk)
      replace HK := Lib.hid (HK.out.trans hk (fun _ _ e => e))
      replace HI := Lib.hid hin
      clear hin hk
      go_wp2_with fail
      refine (srcByte G g s _ _ _ HI.out).mono ?_
      rintro e wn ⟨rfl, hin, hk⟩
      replace HO := Lib.hid (owns_two HO.out HI.out hk)
      replace HK := Lib.hid (HK.out.trans hk (fun _ _ e => e))
      replace HI := Lib.hid hin
      clear hin hk
      go_wp2_with fail
      refine (srcByte G g s _ _ _ HI.out).mono ?_
      rintro e wn ⟨rfl, hin, hk⟩
      replace HO := Lib.hid (owns_two HO.out HI.out hk)
      replace HK := Lib.hid (HK.out.trans hk (fun _ _ e => e))
      replace HI := Lib.hid hin
      clear hin hk
      go_wp2_with fail
      refine (srcNumber G g s _ _ _ HI.out).mono ?_
      rintro e wn ⟨rfl, hin, hk⟩
      replace HO := Lib.hid (owns_two HO.out HI.out hk)
      replace HK := Lib.hid (HK.out.trans hk (fun _ _ e => e))
      replace HI : Hid (InAt wn G g s (inRd s j fl).2.1 (inRd s j fl).2.2) := hin
      clear hin hk
      have hbs := HK.out.size
      go_wp2_with (at_builtin; refine append_oneS _ (inC (inRd s j fl).1) 6 rfl (.tmp 10) (.tmp 24) 51 rfl w.heap.size 24 _ 48 Tryd.underlying51 Tryd.infoIn rfl (by decide) rfl (fun u hu => by simp [inC] at hu; rcases hu with rfl | rfl | rfl | rfl | rfl | rfl <;> rfl) _ k _ rfl HO.out rfl (by unfold maxLen; omega) (by omega) hbs ?_)
      intro v' w' ho hb hgr
      have hk9 := kept_grown hgr
      have HI9 : Hid (InAt w' G g s (inRd s j fl).2.1 (inRd s j fl).2.2) := ⟨HI.out.1.kept hk9 (fun e => own_ne HO.out HI.out.1 (by decide) e), HI.out.2.1.kept hk9 (fun e => own_ne HO.out HI.out.2.1 (by decide) e), HI.out.2.2⟩
      have HK9 := Lib.hid (HK.out.trans hk9 (fun r hr e => by have := (own_lt HO.out e).1; omega))
      have HO9 : Hid (w'.ownsRow w.heap.size 24 6 v' (k + 1) (rowsOf inF (insRd s J0 F0 (k + 1)).1)) := by
        rw [HN.out]
        show World.ownsRow _ _ _ _ _ _ _
        unfold rowsOf
        rw [List.flatMap_append]
        simpa [rowsOf, inF, inC] using ho
      have HI10 : Hid (InAt w' G g s (insRd s J0 F0 (k + 1)).2.1 (insRd s J0 F0 (k + 1)).2.2) := by rw [HN.out]; exact HI9
      clear ho hb hgr hk9 HI9 HO HI HK
      go_wp2
      go_roundw
      case rel => exact ⟨k + 1, by omega, by go_num, HO9, HI10, HK9⟩
      case measure => simp [intOf]; omega
    · obtain rfl : k = C := by omega
      have HL := Lib.hid (insRd_length s J0 F0 k)
      go_wp2
      go_ret
      exact ⟨_, rfl, by rw [HT.out]; show World.ownsRow _ _ _ _ _ _ _; rw [HL.out]; exact HO.out, by rw [HT.out]; exact HI.out, HK.out⟩
end Go.Proofs.YtebgcehcnenjiaaDoor
/-
  What a print has written, a source reads (layer 9).
-/
namespace Go.Proofs.YtebgcehcnenjiaaDoor
open Go.RowKit
set_option linter.unusedVariables false
set_option linter.unusedSimpArgs false
theorem rest_split {s : ByteArray} {i : Nat} {b : UInt8} {r : List UInt8} (h : restOf s i = b :: r) : (∃ hi : i < s.size, s[i]'hi = b) ∧ restOf s (i + 1) = r := by
  unfold restOf at *
  have hl : i < s.data.toList.length := by
    rcases Nat.lt_or_ge i s.data.toList.length with h2 | h2
    · exact h2
    · rw [List.drop_eq_nil_of_le h2] at h; cases h
  have h2 := List.drop_eq_getElem_cons hl
  rw [h] at h2
  injection h2 with h3 h4
  refine ⟨⟨by simpa using hl, ?_⟩, h4.symm⟩
  rw [h3]; rfl
theorem rest_append {s : ByteArray} {i : Nat} {a r : List UInt8} (h : restOf s i = a ++ r) : restOf s (i + a.length) = r := by
  unfold restOf at *
  rw [← List.drop_drop, h, List.drop_left]
theorem by_of {s : ByteArray} {i : Nat} {f : Bool} {b : UInt8} {r : List UInt8} (h : restOf s i = b :: r) : byV s i = b.toNat ∧ byI s i = i + 1 ∧ byF s i f = f := by
  obtain ⟨⟨hi, hb⟩, _⟩ := rest_split h
  refine ⟨?_, ?_, ?_⟩
  · unfold byV; rw [dif_pos hi, hb]
  · unfold byI; rw [if_pos hi]
  · unfold byF; rw [decide_eq_false (by omega), Bool.or_false]
theorem nu_of {s : ByteArray} {i n : Nat} {f : Bool} {r : List UInt8} (hn : n < M64) (h : restOf s i = enc n ++ r) : nuV s i = n ∧ nuI s i = i + (enc n).length ∧ nuF s i f = f := by
  have h2 := rd_enc n r hn
  unfold nuV nuI nuF
  rw [h, h2]
  exact ⟨rfl, rfl, by simp⟩
theorem inRd_of {s : ByteArray} {i : Nat} {f : Bool} {x : In} {r : List UInt8} (hx : rightB x = true) (h : restOf s i = inE x ++ r) : inRd s i f = (x, i + (inE x).length, f) := by
  obtain ⟨m0, m1, m2, m3, m4, m5⟩ := right_bytes hx
  have h0 : restOf s i = bI x.op :: (bI x.a :: (bI x.b :: (bI x.c :: (bI x.d :: (enc x.k ++ r))))) := by rw [h]; unfold inE; simp
  obtain ⟨a0, b0, c0⟩ := by_of (f := f) h0
  have h1 := (rest_split h0).2
  obtain ⟨a1, b1, c1⟩ := by_of (f := f) h1
  have h2 := (rest_split h1).2
  obtain ⟨a2, b2, c2⟩ := by_of (f := f) h2
  have h3 := (rest_split h2).2
  obtain ⟨a3, b3, c3⟩ := by_of (f := f) h3
  have h4 := (rest_split h3).2
  obtain ⟨a4, b4, c4⟩ := by_of (f := f) h4
  have h5 := (rest_split h4).2
  obtain ⟨a5, b5, c5⟩ := nu_of (f := f) (by unfold M64; omega) h5
  unfold inRd
  rw [b0, b1, b2, b3, b4, c0, c1, c2, c3, c4, a0, a1, a2, a3, a4, a5, b5, c5, bI_cast m0.1 m0.2, bI_cast m1.1 m1.2, bI_cast m2.1 m2.2, bI_cast m3.1 m3.2, bI_cast m4.1 m4.2]
  unfold inE
  simp only [List.length_append, List.length_cons, List.length_nil]
  rw [show i + 1 + 1 + 1 + 1 + 1 + (enc x.k).length = i + (0 + 1 + 1 + 1 + 1 + 1 + (enc x.k).length) by omega]
theorem insRd_to {s : ByteArray} {i : Nat} {f : Bool} {l : List In} {r : List UInt8} (hx : ∀ x ∈ l, rightB x = true) (h : restOf s i = l.flatMap inE ++ r) : ∀ k, k ≤ l.length → insRd s i f k = (l.take k, i + ((l.take k).flatMap inE).length, f)
  | 0, _ => by simp [insRd]
  | k + 1, hk => by
    have h1 := insRd_to (f := f) hx h k (by omega)
    obtain ⟨x, hxk⟩ : ∃ x, l[k]? = some x := ⟨_, List.getElem?_eq_getElem (by omega)⟩
    have h2 : restOf s i = (l.take k).flatMap inE ++ ((l.drop k).flatMap inE ++ r) := by
      rw [h, ← List.append_assoc, ← List.flatMap_append, List.take_append_drop]
    have h3 := rest_append h2
    have hd : l.drop k = x :: l.drop (k + 1) := by
      obtain ⟨hl, rfl⟩ := List.getElem?_eq_some_iff.1 hxk
      exact List.drop_eq_getElem_cons hl
    rw [hd, List.flatMap_cons, List.append_assoc] at h3
    have h4 := inRd_of (f := f) (hx x (List.mem_of_getElem? hxk)) h3
    have h5 := flat_next inE hxk
    have h6 : l.take (k + 1) = l.take k ++ [x] := by rw [List.take_add_one, hxk]; rfl
    show ((insRd s i f k).1 ++ [(inRd s (insRd s i f k).2.1 (insRd s i f k).2.2).1], (inRd s (insRd s i f k).2.1 (insRd s i f k).2.2).2) = _
    rw [h1]
    simp only
    rw [h4, h5, h6, List.length_append, Nat.add_assoc]
theorem insRd_of {s : ByteArray} {i : Nat} {f : Bool} (l : List In) (r : List UInt8) (hx : ∀ x ∈ l, rightB x = true) (h : restOf s i = l.flatMap inE ++ r) : insRd s i f l.length = (l, i + (l.flatMap inE).length, f) := by
  have := insRd_to (f := f) hx h l.length (Nat.le_refl _)
  rwa [List.take_length] at this
theorem thRd_of {s : ByteArray} {i : Nat} {l : List In} {r : List UInt8} (hl : l.length ≤ 256) (hx : ∀ x ∈ l, rightB x = true) (h : restOf s i = thE l ++ r) : thRd s i false = (l, i + (thE l).length, false) := by
  have h0 : restOf s i = enc l.length ++ (l.flatMap inE ++ r) := by rw [h]; unfold thE; rw [List.append_assoc]
  obtain ⟨a0, b0, c0⟩ := nu_of (f := false) (by unfold M64; omega) h0
  have h1 := rest_append h0
  unfold thRd
  rw [a0, b0, c0]
  have hc : coV l.length 256 false = l.length := by
    unfold coV
    rw [decide_eq_false (by omega)]; rfl
  rw [hc, decide_eq_false (by omega), Bool.or_false, insRd_of l r hx h1]
  unfold thE
  rw [List.length_append, Nat.add_assoc]
end Go.Proofs.YtebgcehcnenjiaaDoor
/-
  A program read from bytes (layer 9): what the reading comes to, and that it is the printing's inverse.
-/
namespace Go.Proofs.YtebgcehcnenjiaaDoor
open Go.RowKit
set_option linter.unusedVariables false
set_option linter.unusedSimpArgs false
def riRd (s : ByteArray) (i : Nat) (f : Bool) : Ri × Nat × Bool :=
  (⟨(byV s i : Nat), (byV s (byI s i) : Nat), (byV s (byI s (byI s i)) : Nat)⟩, byI s (byI s (byI s i)), byF s (byI s (byI s i)) (byF s (byI s i) (byF s i f)))
def risRd (s : ByteArray) (i : Nat) (f : Bool) : Nat → List Ri × Nat × Bool
  | 0 => ([], i, f)
  | c + 1 => ((risRd s i f c).1 ++ [(riRd s (risRd s i f c).2.1 (risRd s i f c).2.2).1], (riRd s (risRd s i f c).2.1 (risRd s i f c).2.2).2)
def thsRd (s : ByteArray) (i : Nat) (f : Bool) : Nat → List (List In) × Nat × Bool
  | 0 => ([], i, f)
  | c + 1 => ((thsRd s i f c).1 ++ [(thRd s (thsRd s i f c).2.1 (thsRd s i f c).2.2).1], (thRd s (thsRd s i f c).2.1 (thsRd s i f c).2.2).2)
/-- The rings: their list, the place behind them, and whether a part failed. -/
def rdR (s : ByteArray) (i : Nat) (f : Bool) : List Ri × Nat × Bool := risRd s (byI s i) (byF s i f || decide (8 < byV s i)) (coV (byV s i) 8 (byF s i f))
def rdT (s : ByteArray) (i : Nat) (f : Bool) : List (List In) × Nat × Bool := thsRd s (byI s i) (byF s i f || decide (8 < byV s i)) (coV (byV s i) 8 (byF s i f))
def prRd (s : ByteArray) (i : Nat) (f : Bool) : Pg × Nat × Bool :=
  (⟨(rdR s i f).1, (rdT s (rdR s i f).2.1 (rdR s i f).2.2).1⟩, (rdT s (rdR s i f).2.1 (rdR s i f).2.2).2)
theorem risRd_length (s : ByteArray) (i : Nat) (f : Bool) : ∀ c, (risRd s i f c).1.length = c
  | 0 => rfl
  | c + 1 => by
    show ((risRd s i f c).1 ++ [_]).length = c + 1
    rw [List.length_append, risRd_length s i f c]; rfl
theorem thsRd_length (s : ByteArray) (i : Nat) (f : Bool) : ∀ c, (thsRd s i f c).1.length = c
  | 0 => rfl
  | c + 1 => by
    show ((thsRd s i f c).1 ++ [_]).length = c + 1
    rw [List.length_append, thsRd_length s i f c]; rfl
/-- A program has been read. -/
def rdB (s : ByteArray) : Bool := !(prRd s 0 false).2.2 && (decide (s.size ≤ (prRd s 0 false).2.1) && encB (prRd s 0 false).1)
/-! ## A failure stays -/
theorem byF_true (s : ByteArray) (i : Nat) : byF s i true = true := by unfold byF; rfl
theorem nuF_true (s : ByteArray) (i : Nat) : nuF s i true = true := by unfold nuF; rfl
theorem inRd_true (s : ByteArray) (i : Nat) : (inRd s i true).2.2 = true := by unfold inRd; simp only [byF_true, nuF_true]
theorem riRd_true (s : ByteArray) (i : Nat) : (riRd s i true).2.2 = true := by unfold riRd; simp only [byF_true]
theorem insRd_true (s : ByteArray) (i : Nat) : ∀ c, (insRd s i true c).2.2 = true
  | 0 => rfl
  | c + 1 => by
    show (inRd s (insRd s i true c).2.1 (insRd s i true c).2.2).2.2 = true
    rw [insRd_true s i c, inRd_true]
theorem risRd_true (s : ByteArray) (i : Nat) : ∀ c, (risRd s i true c).2.2 = true
  | 0 => rfl
  | c + 1 => by
    show (riRd s (risRd s i true c).2.1 (risRd s i true c).2.2).2.2 = true
    rw [risRd_true s i c, riRd_true]
theorem thRd_true (s : ByteArray) (i : Nat) : (thRd s i true).2.2 = true := by
  unfold thRd
  rw [nuF_true, Bool.true_or, insRd_true]
theorem thsRd_true (s : ByteArray) (i : Nat) : ∀ c, (thsRd s i true c).2.2 = true
  | 0 => rfl
  | c + 1 => by
    show (thRd s (thsRd s i true c).2.1 (thsRd s i true c).2.2).2.2 = true
    rw [thsRd_true s i c, thRd_true]
theorem rdT_true (s : ByteArray) (i : Nat) : (rdT s i true).2.2 = true := by
  unfold rdT
  rw [byF_true, Bool.true_or, thsRd_true]
/-- Once failed, failed at the end. -/
theorem insRd_stays {s : ByteArray} {i : Nat} {f : Bool} : ∀ {c n : Nat}, c ≤ n → (insRd s i f c).2.2 = true → (insRd s i f n).2.2 = true
  | c, 0, h, hf => by obtain rfl : c = 0 := by omega
                      exact hf
  | c, n + 1, h, hf => by
    by_cases e : c = n + 1
    · subst e; exact hf
    · have := insRd_stays (n := n) (by omega) hf
      show (inRd s (insRd s i f n).2.1 (insRd s i f n).2.2).2.2 = true
      rw [this, inRd_true]
theorem thsRd_stays {s : ByteArray} {i : Nat} {f : Bool} : ∀ {c n : Nat}, c ≤ n → (thsRd s i f c).2.2 = true → (thsRd s i f n).2.2 = true
  | c, 0, h, hf => by obtain rfl : c = 0 := by omega
                      exact hf
  | c, n + 1, h, hf => by
    by_cases e : c = n + 1
    · subst e; exact hf
    · have := thsRd_stays (n := n) (by omega) hf
      show (thRd s (thsRd s i f n).2.1 (thsRd s i f n).2.2).2.2 = true
      rw [this, thRd_true]
/-! ## What is printed is read -/
theorem riRd_of {s : ByteArray} {i : Nat} {f : Bool} {x : Ri} {r : List UInt8} (hx : rilB x = true) (h : restOf s i = riE x ++ r) : riRd s i f = (x, i + 3, f) := by
  obtain ⟨m0, m1, m2⟩ := ril_iff.1 hx
  have h0 : restOf s i = bI x.k :: (bI x.c :: (bI x.r :: r)) := by rw [h]; unfold riE; simp
  obtain ⟨a0, b0, c0⟩ := by_of (f := f) h0
  have h1 := (rest_split h0).2
  obtain ⟨a1, b1, c1⟩ := by_of (f := f) h1
  have h2 := (rest_split h1).2
  obtain ⟨a2, b2, c2⟩ := by_of (f := f) h2
  unfold riRd
  rw [b0, b1, b2, c0, c1, c2, a0, a1, a2, bI_cast m0.1 m0.2, bI_cast m1.1 m1.2, bI_cast m2.1 m2.2]
theorem risRd_to {s : ByteArray} {i : Nat} {f : Bool} {l : List Ri} {r : List UInt8} (hx : ∀ x ∈ l, rilB x = true) (h : restOf s i = l.flatMap riE ++ r) : ∀ k, k ≤ l.length → risRd s i f k = (l.take k, i + ((l.take k).flatMap riE).length, f)
  | 0, _ => by simp [risRd]
  | k + 1, hk => by
    have h1 := risRd_to (f := f) hx h k (by omega)
    obtain ⟨x, hxk⟩ : ∃ x, l[k]? = some x := ⟨_, List.getElem?_eq_getElem (by omega)⟩
    have h2 : restOf s i = (l.take k).flatMap riE ++ ((l.drop k).flatMap riE ++ r) := by
      rw [h, ← List.append_assoc, ← List.flatMap_append, List.take_append_drop]
    have h3 := rest_append h2
    have hd : l.drop k = x :: l.drop (k + 1) := by
      obtain ⟨hl, rfl⟩ := List.getElem?_eq_some_iff.1 hxk
      exact List.drop_eq_getElem_cons hl
    rw [hd, List.flatMap_cons, List.append_assoc] at h3
    have h4 := riRd_of (f := f) (hx x (List.mem_of_getElem? hxk)) h3
    have h5 := flat_next riE hxk
    have h6 : l.take (k + 1) = l.take k ++ [x] := by rw [List.take_add_one, hxk]; rfl
    show ((risRd s i f k).1 ++ [(riRd s (risRd s i f k).2.1 (risRd s i f k).2.2).1], (riRd s (risRd s i f k).2.1 (risRd s i f k).2.2).2) = _
    rw [h1]
    simp only
    rw [h4, h5, h6, List.length_append, Nat.add_assoc]; rfl
theorem thsRd_to {s : ByteArray} {i : Nat} {l : List (List In)} {r : List UInt8} (hx : ∀ x ∈ l, x.length ≤ 256 ∧ ∀ y ∈ x, rightB y = true) (h : restOf s i = l.flatMap thE ++ r) : ∀ k, k ≤ l.length → thsRd s i false k = (l.take k, i + ((l.take k).flatMap thE).length, false)
  | 0, _ => by simp [thsRd]
  | k + 1, hk => by
    have h1 := thsRd_to hx h k (by omega)
    obtain ⟨x, hxk⟩ : ∃ x, l[k]? = some x := ⟨_, List.getElem?_eq_getElem (by omega)⟩
    have h2 : restOf s i = (l.take k).flatMap thE ++ ((l.drop k).flatMap thE ++ r) := by
      rw [h, ← List.append_assoc, ← List.flatMap_append, List.take_append_drop]
    have h3 := rest_append h2
    have hd : l.drop k = x :: l.drop (k + 1) := by
      obtain ⟨hl, rfl⟩ := List.getElem?_eq_some_iff.1 hxk
      exact List.drop_eq_getElem_cons hl
    rw [hd, List.flatMap_cons, List.append_assoc] at h3
    obtain ⟨q1, q2⟩ := hx x (List.mem_of_getElem? hxk)
    have h4 := thRd_of q1 q2 h3
    have h5 := flat_next thE hxk
    have h6 : l.take (k + 1) = l.take k ++ [x] := by rw [List.take_add_one, hxk]; rfl
    show ((thsRd s i false k).1 ++ [(thRd s (thsRd s i false k).2.1 (thsRd s i false k).2.2).1], (thRd s (thsRd s i false k).2.1 (thsRd s i false k).2.2).2) = _
    rw [h1]
    simp only
    rw [h4, h5, h6, List.length_append, Nat.add_assoc]
theorem rest_zero (l : List UInt8) : restOf (textB l) 0 = l := by
  unfold restOf
  rw [List.drop_zero]; rfl
theorem coV_same {n m : Nat} (h : n ≤ m) : coV n m false = n := by
  unfold coV
  rw [decide_eq_false (by omega)]; rfl
theorem prRd_of {p : Pg} (he : encB p = true) : prRd (textB (pgE p)) 0 false = (p, (pgE p).length, false) := by
  obtain ⟨h1, h2, h3, h4⟩ := enc_parts.1 he
  obtain ⟨s, hs⟩ : ∃ s, textB (pgE p) = s := ⟨_, rfl⟩
  have e0 : restOf s 0 = bI p.rs.length :: (p.rs.flatMap riE ++ (bI p.ts.length :: (p.ts.flatMap thE ++ []))) := by
    rw [← hs, rest_zero]; unfold pgE; simp
  rw [hs]
  obtain ⟨a0, b0, c0⟩ := by_of (f := false) e0
  have e1 := (rest_split e0).2
  have v0 : (bI (p.rs.length : Int)).toNat = p.rs.length := by have := bI_cast (z := p.rs.length) (by omega) (by omega); omega
  have v1 : (bI (p.ts.length : Int)).toNat = p.ts.length := by have := bI_cast (z := p.ts.length) (by omega) (by omega); omega
  rw [v0] at a0
  have r0 : rdR s 0 false = (p.rs, 1 + (p.rs.flatMap riE).length, false) := by
    unfold rdR
    rw [a0, b0, c0, coV_same h1, decide_eq_false (by omega), Bool.or_false, Nat.zero_add, risRd_to h3 e1 _ (Nat.le_refl _), List.take_length]
  have e2 := rest_append e1
  obtain ⟨a1, b1, c1⟩ := by_of (f := false) e2
  have e3 := (rest_split e2).2
  rw [v1] at a1
  have r1 : rdT s (1 + (p.rs.flatMap riE).length) false = (p.ts, (pgE p).length, false) := by
    unfold rdT
    rw [Nat.zero_add] at a1 b1 c1 e3
    rw [a1, b1, c1, coV_same h2, decide_eq_false (by omega), Bool.or_false, thsRd_to h4 e3 _ (Nat.le_refl _), List.take_length]
    unfold pgE
    simp only [List.length_append, List.length_cons, List.length_nil, Nat.zero_add, Nat.add_assoc]
  unfold prRd
  rw [r0]
  simp only
  rw [r1]
theorem rdB_of {p : Pg} (he : encB p = true) : rdB (textB (pgE p)) = true := by
  unfold rdB
  rw [prRd_of he]
  simp only
  rw [he, textB_size, decide_eq_true (Nat.le_refl _)]; rfl
theorem pgE_inj {p q : Pg} (hp : encB p = true) (hq : encB q = true) (h : textB (pgE p) = textB (pgE q)) : p = q := by
  have h1 := prRd_of hp
  rw [h, prRd_of hq] at h1
  exact (congrArg Prod.fst h1).symm
end Go.Proofs.YtebgcehcnenjiaaDoor
/-
  A source's program (layer 9): its walk.
-/
namespace Go.Proofs.YtebgcehcnenjiaaDoor
open Go.RowKit
set_option linter.unusedVariables false
set_option linter.unusedSimpArgs false
theorem InAt.same {w : World} {G g : Nat} {s : ByteArray} {i j : Nat} {f h : Bool} (a : InAt w G g s i f) (b : InAt w G g s j h) : i = j ∧ f = h := by
  have h1 := (a.1.same b.1).2
  have h2 := (a.2.1.same b.2.1).2
  simp at h1 h2
  exact ⟨by omega, h1⟩
theorem InAt.kept' {S : Nat → Prop} {w w' : World} {G g : Nat} {s : ByteArray} {i : Nat} {f : Bool} (h : InAt w G g s i f) (k : Kept S w w') (h1 : ¬ S G) (h2 : ¬ S g) : InAt w' G g s i f :=
  ⟨h.1.kept k h1, h.2.1.kept k h2, h.2.2⟩
/-- Byte by byte: where a source stands. -/
def stB (s : ByteArray) (i : Nat) (f : Bool) : Nat → Nat × Bool
  | 0 => (i, f)
  | m + 1 => (byI s (stB s i f m).1, byF s (stB s i f m).1 (stB s i f m).2)
theorem stB_mono (s : ByteArray) (i : Nat) (f : Bool) (m : Nat) : ∀ d, (stB s i f m).1 ≤ (stB s i f (m + d)).1 ∧ ((stB s i f m).2 = true → (stB s i f (m + d)).2 = true)
  | 0 => ⟨Nat.le_refl _, fun h => h⟩
  | d + 1 => by
    obtain ⟨h1, h2⟩ := stB_mono s i f m d
    refine ⟨Nat.le_trans h1 ?_, fun h => ?_⟩
    · show _ ≤ byI s (stB s i f (m + d)).1
      unfold byI; split <;> omega
    · show byF s _ (stB s i f (m + d)).2 = true
      rw [h2 h]; rfl
theorem stB_mono' (s : ByteArray) (i : Nat) (f : Bool) {m n : Nat} (h : m ≤ n) : (stB s i f m).1 ≤ (stB s i f n).1 ∧ ((stB s i f m).2 = true → (stB s i f n).2 = true) := by
  have := stB_mono s i f m (n - m)
  rwa [show m + (n - m) = n by omega] at this
def InGe (w : World) (G g : Nat) (s : ByteArray) (i : Nat) (f : Bool) (k : Nat) : Prop := ∃ m, k ≤ m ∧ InAt w G g s (stB s i f m).1 (stB s i f m).2
def InLe (w : World) (G g : Nat) (s : ByteArray) (i : Nat) (f : Bool) (k : Nat) : Prop := ∃ m, m ≤ k ∧ InAt w G g s (stB s i f m).1 (stB s i f m).2
theorem in_is {w : World} {G g : Nat} {s : ByteArray} {i : Nat} {f : Bool} {k : Nat} (h1 : InGe w G g s i f k) (h2 : InLe w G g s i f k) : InAt w G g s (stB s i f k).1 (stB s i f k).2 := by
  obtain ⟨m, hm, a⟩ := h1
  obtain ⟨n, hn, b⟩ := h2
  obtain ⟨e1, e2⟩ := a.same b
  have q1 := stB_mono' s i f hn
  have q2 := stB_mono' s i f hm
  have e3 : (stB s i f k).1 = (stB s i f m).1 := by omega
  have e4 : (stB s i f k).2 = (stB s i f m).2 := by
    rw [Bool.eq_iff_iff]
    exact ⟨q2.2, fun h => q1.2 (by rw [← e2]; exact h)⟩
  rw [e3, e4]
  exact a
section
variable {w w' : World} {G g : Nat} {s : ByteArray} {i : Nat} {f : Bool} {k : Nat}
theorem InGe.step (h : InGe w G g s i f k) {m : Nat} (a : InAt w G g s (stB s i f m).1 (stB s i f m).2) (b : InAt w' G g s (stB s i f (m + 1)).1 (stB s i f (m + 1)).2) : InGe w' G g s i f k := by
  obtain ⟨n, hn, c⟩ := h
  obtain ⟨e1, e2⟩ := a.same c
  refine ⟨n + 1, by omega, ?_⟩
  have : stB s i f (n + 1) = stB s i f (m + 1) := by
    show (byI s (stB s i f n).1, byF s (stB s i f n).1 (stB s i f n).2) = (byI s (stB s i f m).1, byF s (stB s i f m).1 (stB s i f m).2)
    rw [e1, e2]
  rw [this]; exact b
end
theorem own_apart {w : World} {B n sz : Nat} {v : Value} {xs : List Value} {e t : TypeId} {b : Nat} {cs : Array Value} (h : w.ownsRow B e sz v n xs) (hl : Lies w b t cs) (hne : e ≠ t) {r : Nat} (hr : v.ownBlock = some r) : r ≠ b := by
  intro e2
  subst e2
  exact own_ne h hl hne hr
/-- How memory stands in the course of a ring's reading. -/
structure RrS (w0 w : World) (G g : Nat) (s : ByteArray) (i : Nat) (f : Bool) : Prop where
  kep : Kept (twoRows g G) w0 w
  at_ : InLe w G g s i f 3
  res : Lies w w0.heap.size 35 #[.slice none 0 0, .slice none 0 0]
def rrV (w0 : World) (G g : Nat) (s : ByteArray) (i : Nat) (f : Bool) (n3 : Nat) (vr : Value) (L : List Ri) (x : Ri) : Nat → Value → World → Prop
  | 0, v, _ => v = .pointer (some ⟨n3, 0, none⟩)
  | 1, v, _ => v = vr
  | 2, v, _ => v = .pointer (some ⟨G, 0, none⟩)
  | 3, v, w => v = .int .i64 x.k ∧ InGe w G g s i f 1
  | 4, v, _ => v = .pointer (some ⟨G, 0, none⟩)
  | 5, v, w => v = .int .i64 x.c ∧ InGe w G g s i f 2
  | 6, v, _ => v = .pointer (some ⟨G, 0, none⟩)
  | 7, v, w => v = .int .i64 x.r ∧ InGe w G g s i f 3
  | 8, v, _ => v = .agg (riC x)
  | 9, v, w => ∃ b, v = .slice (some ⟨b, 0, none⟩) 1 1 ∧ Lies w b 67 (riC x)
  | 10, v, w => w.ownsRow w0.heap.size 67 3 v (L.length + 1) (rowsOf riF (L ++ [x]))
  | 11, v, _ => v = .pointer (some ⟨n3, 0, none⟩)
  | 12, _, w => ∃ v, Lies w n3 35 #[v, .slice none 0 0] ∧ w.ownsRow w0.heap.size 67 3 v (L.length + 1) (rowsOf riF (L ++ [x]))
  | 13, _, w => Lies w n3 35 #[vr, .slice none 0 0]
  | 14, _, w => w.ownsRow w0.heap.size 67 3 vr L.length (rowsOf riF L)
  | 15, _, w => InLe w G g s i f 0
  | 16, _, w => InLe w G g s i f 1
  | 17, _, w => InLe w G g s i f 2
  | _, _, _ => True
section
variable {w0 w w' : World} {G g : Nat} {s : ByteArray} {i : Nat} {f : Bool} {n3 : Nat} {vr : Value} {L : List Ri} {x : Ri} {k : Nat}
/-- A byte is read. -/
theorem rrV_call (hk : Kept (twoRows g G) w w') (a : InAt w G g s (stB s i f k).1 (stB s i f k).2) (b : InAt w' G g s (stB s i f (k + 1)).1 (stB s i f (k + 1)).2) {j : Nat} {u : Value} (hj : (j < 15 ∨ 15 + k < j)) (h : rrV w0 G g s i f n3 vr L x j u w) : rrV w0 G g s i f n3 vr L x j u w' := by
  have far : ∀ {b2 : Nat} {t : TypeId} {cs : Array Value}, t ≠ 79 → t ≠ 88 → Lies w b2 t cs → Lies w' b2 t cs := fun h1 h2 hl => hl.kept hk (fun e => by
    rcases e with e | e
    · subst e; exact h2 (hl.same a.2.1).1
    · subst e; exact h1 (hl.same a.1).1)
  have fo : ∀ {v : Value} {n : Nat} {xs : List Value}, w.ownsRow w0.heap.size 67 3 v n xs → w'.ownsRow w0.heap.size 67 3 v n xs := fun ho => owns_kept ho hk (fun r cur hr hl e => by
    rcases e with e | e
    · subst e; exact absurd (hl.same a.2.1).1 (by decide)
    · subst e; exact absurd (hl.same a.1).1 (by decide))
  match j, hj with
  | 0, _ => exact h
  | 1, _ => exact h
  | 2, _ => exact h
  | 3, _ => exact ⟨h.1, h.2.step a b⟩
  | 4, _ => exact h
  | 5, _ => exact ⟨h.1, h.2.step a b⟩
  | 6, _ => exact h
  | 7, _ => exact ⟨h.1, h.2.step a b⟩
  | 8, _ => exact h
  | 9, _ => obtain ⟨b2, e, hl⟩ := h; exact ⟨b2, e, far (by decide) (by decide) hl⟩
  | 10, _ => exact fo h
  | 11, _ => exact h
  | 12, _ => obtain ⟨v, h1, h2⟩ := h; exact ⟨v, far (by decide) (by decide) h1, fo h2⟩
  | 13, _ => exact far (by decide) (by decide) (show Lies w n3 35 #[vr, .slice none 0 0] from h)
  | 14, _ => exact fo h
  | 15, hj => omega
  | 16, hj => exact ⟨k + 1, by omega, b⟩
  | 17, hj => exact ⟨k + 1, by omega, b⟩
  | _ + 18, _ => trivial
theorem rrV_alloc (o : Obj) {j : Nat} {u : Value} (h : rrV w0 G g s i f n3 vr L x j u w) : rrV w0 G g s i f n3 vr L x j u (w.alloc o) := by
  have hb : Below w.heap.size w (w.alloc o) := (Below.refl _ _).alloc (Nat.le_refl _) _
  have fi : ∀ {a : Nat} {b : Bool}, InAt w G g s a b → InAt (w.alloc o) G g s a b := fun h => h.kept' (Kept.alloc noRow w o) (fun h => h) (fun h => h)
  match j with
  | 0 => exact h
  | 1 => exact h
  | 2 => exact h
  | 3 => obtain ⟨h1, m, h2, h3⟩ := h; exact ⟨h1, m, h2, fi h3⟩
  | 4 => exact h
  | 5 => obtain ⟨h1, m, h2, h3⟩ := h; exact ⟨h1, m, h2, fi h3⟩
  | 6 => exact h
  | 7 => obtain ⟨h1, m, h2, h3⟩ := h; exact ⟨h1, m, h2, fi h3⟩
  | 8 => exact h
  | 9 => obtain ⟨b2, e, hl⟩ := h; exact ⟨b2, e, hl.alloc o⟩
  | 10 => exact owned_below h hb
  | 11 => exact h
  | 12 => obtain ⟨v, h1, h2⟩ := h; exact ⟨v, h1.alloc o, owned_below h2 hb⟩
  | 13 => exact Lies.alloc h o
  | 14 => exact owned_below h hb
  | 15 => obtain ⟨m, h2, h3⟩ := h; exact ⟨m, h2, fi h3⟩
  | 16 => obtain ⟨m, h2, h3⟩ := h; exact ⟨m, h2, fi h3⟩
  | 17 => obtain ⟨m, h2, h3⟩ := h; exact ⟨m, h2, fi h3⟩
  | _ + 18 => trivial
def rrLow : Nat → Bool
  | 9 => false
  | 10 => false
  | 12 => false
  | 14 => false
  | _ => true
/-- The row has grown. -/
theorem rrV_low {S : Nat → Prop} (hk : Kept S w w') (h1 : ∀ cs, Lies w n3 35 cs → ¬ S n3) (h2 : ∀ a b, InAt w G g s a b → InAt w' G g s a b) {j : Nat} {u : Value} (hj : rrLow j = true) (h : rrV w0 G g s i f n3 vr L x j u w) : rrV w0 G g s i f n3 vr L x j u w' := by
  match j, hj with
  | 0, _ => exact h
  | 1, _ => exact h
  | 2, _ => exact h
  | 3, _ => obtain ⟨q1, m, q2, q3⟩ := h; exact ⟨q1, m, q2, h2 _ _ q3⟩
  | 4, _ => exact h
  | 5, _ => obtain ⟨q1, m, q2, q3⟩ := h; exact ⟨q1, m, q2, h2 _ _ q3⟩
  | 6, _ => exact h
  | 7, _ => obtain ⟨q1, m, q2, q3⟩ := h; exact ⟨q1, m, q2, h2 _ _ q3⟩
  | 8, _ => exact h
  | 11, _ => exact h
  | 13, _ => exact Lies.kept h hk (h1 _ h)
  | 15, _ => obtain ⟨m, q2, q3⟩ := h; exact ⟨m, q2, h2 _ _ q3⟩
  | 16, _ => obtain ⟨m, q2, q3⟩ := h; exact ⟨m, q2, h2 _ _ q3⟩
  | 17, _ => obtain ⟨m, q2, q3⟩ := h; exact ⟨m, q2, h2 _ _ q3⟩
  | _ + 18, _ => trivial
/-- The box is stored into. -/
theorem rrV_box (h2 : ∀ a b, InAt w G g s a b → InAt w' G g s a b) {j : Nat} {u : Value} (hj : (rrLow j && j != 13) = true) (h : rrV w0 G g s i f n3 vr L x j u w) : rrV w0 G g s i f n3 vr L x j u w' := by
  match j, hj with
  | 0, _ => exact h
  | 1, _ => exact h
  | 2, _ => exact h
  | 3, _ => obtain ⟨q1, m, q2, q3⟩ := h; exact ⟨q1, m, q2, h2 _ _ q3⟩
  | 4, _ => exact h
  | 5, _ => obtain ⟨q1, m, q2, q3⟩ := h; exact ⟨q1, m, q2, h2 _ _ q3⟩
  | 6, _ => exact h
  | 7, _ => obtain ⟨q1, m, q2, q3⟩ := h; exact ⟨q1, m, q2, h2 _ _ q3⟩
  | 8, _ => exact h
  | 11, _ => exact h
  | 15, _ => obtain ⟨m, q2, q3⟩ := h; exact ⟨m, q2, h2 _ _ q3⟩
  | 16, _ => obtain ⟨m, q2, q3⟩ := h; exact ⟨m, q2, h2 _ _ q3⟩
  | 17, _ => obtain ⟨m, q2, q3⟩ := h; exact ⟨m, q2, h2 _ _ q3⟩
  | _ + 18, _ => trivial
theorem RrS.kept {S : Nat → Prop} (h : RrS w0 w G g s i f) (hk : Kept S w w') (h1 : ∀ k, k < w0.heap.size → S k → twoRows g G k) (h2 : ¬ S w0.heap.size) (h3 : InLe w' G g s i f 3) : RrS w0 w' G g s i f :=
  ⟨h.kep.trans hk h1, h3, h.res.kept hk h2⟩
end
end Go.Proofs.YtebgcehcnenjiaaDoor
/-
  A source's program (layer 9), read whole.
-/
namespace Go.Proofs.YtebgcehcnenjiaaDoor
open Go.RowKit
set_option linter.unusedVariables false
set_option linter.unusedSimpArgs false
theorem thsRd_get (s : ByteArray) (i : Nat) (f : Bool) {n : Nat} : ∀ {k : Nat}, k < n → (thsRd s i f n).1[k]? = some (thRd s (thsRd s i f k).2.1 (thsRd s i f k).2.2).1 := by
  induction n with
  | zero => intro k h; omega
  | succ n ih =>
    intro k h
    have hl := thsRd_length s i f n
    show ((thsRd s i f n).1 ++ [_])[k]? = _
    by_cases e : k = n
    · subst e
      rw [List.getElem?_append_right (by omega), hl, Nat.sub_self]; rfl
    · rw [List.getElem?_append_left (by omega)]
      exact ih (by omega)
theorem byV_lt (s : ByteArray) (i : Nat) : byV s i < 256 := by
  unfold byV
  split
  · rename_i h
    exact (s[i]'h).toNat_lt
  · omega
theorem two_apart {w : World} {G g : Nat} {s : ByteArray} {i : Nat} {f : Bool} (h : InAt w G g s i f) {r : Nat} {t : TypeId} {cur : Array Value} (hl : Lies w r t cur) (h1 : t ≠ 79) (h2 : t ≠ 88) : ¬ twoRows g G r := by
  rintro (e | e)
  · subst e; exact h2 (hl.same h.2.1).1
  · subst e; exact h1 (hl.same h.1).1
/-- How memory stands in the course of a thread's reading. -/
structure SpS (w0 wr w : World) (G g : Nat) (vr : Value) (L : List Ri) (ts : List (List In)) (vs : List Value) : Prop where
  kep : Kept (twoRows g G) w0 w
  le : wr.heap.size ≤ w.heap.size
  rr : w.ownsRow w0.heap.size 67 3 vr L.length (rowsOf riF L)
  rlt : ∀ r, vr.ownBlock = some r → r < wr.heap.size
  inn : Inners w w0.heap.size wr.heap.size ts vs
  res : Lies w w0.heap.size 35 #[.slice none 0 0, .slice none 0 0]
def spV (w0 wr : World) (G g : Nat) (s : ByteArray) (j : Nat) (fl : Bool) (j' : Nat) (fl' : Bool) (n3 k : Nat) (vr vt : Value) (vs : List Value) (l : List In) : Nat → Value → World → Prop
  | 0, v, _ => v = .pointer (some ⟨n3, 1, none⟩)
  | 1, v, _ => v = vt
  | 2, v, _ => v = .pointer (some ⟨G, 0, none⟩)
  | 3, v, w => OwnIn w wr.heap.size v l ∧ InAt w G g s j' fl'
  | 4, v, w => ∃ b u, v = .slice (some ⟨b, 0, none⟩) 1 1 ∧ Lies w b 51 #[u] ∧ OwnIn w wr.heap.size u l ∧ InAt w G g s j' fl'
  | 5, v, w => ∃ u, w.ownsRow w0.heap.size 51 1 v (k + 1) (vs ++ [u]) ∧ OwnIn w wr.heap.size u l ∧ InAt w G g s j' fl'
  | 6, v, _ => v = .pointer (some ⟨n3, 1, none⟩)
  | 7, _, w => ∃ v u, Lies w n3 35 #[vr, v] ∧ w.ownsRow w0.heap.size 51 1 v (k + 1) (vs ++ [u]) ∧ OwnIn w wr.heap.size u l ∧ InAt w G g s j' fl'
  | 8, _, w => Lies w n3 35 #[vr, vt]
  | 9, _, w => w.ownsRow w0.heap.size 51 1 vt k vs
  | 10, _, w => InAt w G g s j fl
  | _, _, _ => True
def spLow : Nat → Bool
  | 3 => false
  | 4 => false
  | 5 => false
  | 7 => false
  | 10 => false
  | _ => true
section
variable {w0 wr w w' : World} {G g : Nat} {s : ByteArray} {j0 j1 : Nat} {f0 f1 : Bool} {n3 k : Nat} {vr vt : Value} {L : List Ri} {ts : List (List In)} {vs : List Value} {l : List In}
theorem spV_low {S : Nat → Prop} (hk : Kept S w w') (h1 : ∀ cs, Lies w n3 35 cs → ¬ S n3) (h2 : ∀ r cur, vt.ownBlock = some r → Lies w r 51 cur → ¬ S r) {j : Nat} {u : Value} (hj : spLow j = true) (h : spV w0 wr G g s j0 f0 j1 f1 n3 k vr vt vs l j u w) : spV w0 wr G g s j0 f0 j1 f1 n3 k vr vt vs l j u w' := by
  match j, hj with
  | 0, _ => exact h
  | 1, _ => exact h
  | 2, _ => exact h
  | 6, _ => exact h
  | 8, _ => exact Lies.kept h hk (h1 _ h)
  | 9, _ => exact owns_kept h hk h2
  | _ + 11, _ => trivial
theorem spV_low2 {S : Nat → Prop} (hk : Kept S w w') (h1 : ∀ cs, Lies w n3 35 cs → ¬ S n3) {j : Nat} {u : Value} (hj : (spLow j && j != 9) = true) (h : spV w0 wr G g s j0 f0 j1 f1 n3 k vr vt vs l j u w) : spV w0 wr G g s j0 f0 j1 f1 n3 k vr vt vs l j u w' := by
  match j, hj with
  | 0, _ => exact h
  | 1, _ => exact h
  | 2, _ => exact h
  | 6, _ => exact h
  | 8, _ => exact Lies.kept h hk (h1 _ h)
  | _ + 11, _ => trivial
theorem SpS.kept {S : Nat → Prop} (h : SpS w0 wr w G g vr L ts vs) (hk : Kept S w w') (h1 : ∀ k, k < w0.heap.size → S k → twoRows g G k) (h2 : ∀ r cur, r < wr.heap.size → Lies w r 67 cur → ¬ S r) (h3 : ∀ r cur, r < wr.heap.size → Lies w r 24 cur → ¬ S r) (h4 : ¬ S w0.heap.size) : SpS w0 wr w' G g vr L ts vs :=
  ⟨h.kep.trans hk h1, Nat.le_trans h.le hk.size, owns_kept h.rr hk (fun r cur hr hl => h2 r cur (h.rlt r hr) hl), h.rlt, h.inn.kept hk h3, h.res.kept hk h4⟩
end
def PrQ (w : World) (G g : Nat) (s : ByteArray) (q : List Ri × Nat × Bool) (e : Ending) (w' : World) : Prop :=
  ∃ vr vt vs, e = .returned (.agg #[vr, vt]) ∧ w'.ownsRow w.heap.size 67 3 vr q.1.length (rowsOf riF q.1) ∧ w'.ownsRow w.heap.size 51 1 vt (rdT s q.2.1 q.2.2).1.length vs ∧ Inners w' w.heap.size w'.heap.size (rdT s q.2.1 q.2.2).1 vs ∧
    InAt w' G g s (rdT s q.2.1 q.2.2).2.1 (rdT s q.2.1 q.2.2).2.2 ∧ Kept (twoRows g G) w w'
/-- What a source's program leaves. -/
def PrPost (w : World) (G g : Nat) (s : ByteArray) (i : Nat) (f : Bool) (e : Ending) (w' : World) : Prop :=
  ∃ vr vt vs, e = .returned (.agg #[vr, vt]) ∧ w'.ownsRow w.heap.size 67 3 vr (prRd s i f).1.rs.length (rowsOf riF (prRd s i f).1.rs) ∧ w'.ownsRow w.heap.size 51 1 vt (prRd s i f).1.ts.length vs ∧ Inners w' w.heap.size w'.heap.size (prRd s i f).1.ts vs ∧
    InAt w' G g s (prRd s i f).2.1 (prRd s i f).2.2 ∧ Kept (twoRows g G) w w'
set_option maxHeartbeats 8000000 in
set_option maxRecDepth 100000 in
theorem srcProgram (G g : Nat) (s : ByteArray) (i : Nat) (f : Bool) (w : World) (h : InAt w G g s i f) : Calls Tryd.prog 44 #[.pointer (some ⟨G, 0, none⟩)] w (PrPost w G g s i f) := by
  have hGl := h.1.lt
  have hgl := h.2.1.lt
  have HP : Hid (PrPost w G g s i f = PrQ w G g s (rdR s i f)) := rfl
  have hw0 : InAt ((w.alloc (.cells #[.slice none 0 0, .slice none 0 0] 35)).alloc (.cells #[.slice none 0 0, .slice none 0 0] 35)) G g s i f := (h.kept' (Kept.alloc noRow _ _) (fun h => h) (fun h => h)).kept' (Kept.alloc noRow _ _) (fun h => h) (fun h => h)
  have hk0 : Kept (twoRows g G) w ((w.alloc (.cells #[.slice none 0 0, .slice none 0 0] 35)).alloc (.cells #[.slice none 0 0, .slice none 0 0] 35)) := (Kept.alloc _ _ _).trans (Kept.alloc (twoRows g G) _ _) (fun _ _ h => h)
  have l0 := (Lies.made w 35 #[.slice none 0 0, .slice none 0 0]).alloc (.cells #[.slice none 0 0, .slice none 0 0] 35)
  have l1 := Lies.made (w.alloc (.cells #[.slice none 0 0, .slice none 0 0] 35)) 35 #[.slice none 0 0, .slice none 0 0]
  rw [World.size_alloc] at l1
  have HI := Lib.hid hw0
  have HK := Lib.hid hk0
  have HR := Lib.hid l0
  have HB := Lib.hid l1
  clear h hw0 hk0 l0 l1
  rw [HP.out]
  have HDR : Hid (rdR s i f = risRd s (byI s i) (byF s i f || decide (8 < byV s i)) (coV (byV s i) 8 (byF s i f))) := rfl
  generalize rdR s i f = QR at *
  go_enter Tryd.func44, Tryd.ntmps44
  go_wp2_with fail
  generalize (w.alloc (.cells #[.slice none 0 0, .slice none 0 0] 35)).alloc (.cells #[.slice none 0 0, .slice none 0 0] 35) = w1 at *
  refine (srcByte G g s i f w1 HI.out).mono ?_
  rintro e w2 ⟨rfl, hin, hk⟩
  replace HI := Lib.hid hin
  replace HR := Lib.hid (HR.out.kept hk (by rintro (e | e) <;> omega))
  replace HB := Lib.hid (HB.out.kept hk (by rintro (e | e) <;> omega))
  replace HK := Lib.hid (HK.out.trans hk (fun _ _ e => e))
  clear hin hk
  have hbv := byV_lt s i
  have hw : IntKind.u64.wrap ((byV s i : Nat) : Int) = ((byV s i : Nat) : Int) := IntWalk.u64_in _ (by omega)
  go_wp2_with fail
  have hcl := coV_le (byV s i) 8 (byF s i f)
  refine (srcCount G g s _ _ (byV s i) 8 w2 HI.out (by omega)).mono ?_
  rintro e w3 ⟨rfl, hin, hk⟩
  replace HI := Lib.hid hin
  replace HR := Lib.hid (HR.out.kept hk (by rintro (e | e) <;> omega))
  replace HB := Lib.hid (HB.out.kept hk (by rintro (e | e) <;> omega))
  replace HK := Lib.hid (HK.out.trans hk (fun _ _ e => e))
  clear hin hk hw hbv
  generalize coV (byV s i) 8 (byF s i f) = C at *
  generalize (byF s i f || decide (8 < byV s i)) = F0 at *
  generalize byI s i = J0 at *
  go_wp2_with fail
  go_loopw [9] (fun u wr => ∃ (k : Nat) (vr : Value), k ≤ C ∧ u = .int .i64 k ∧ Hid (wr.ownsRow w.heap.size 67 3 vr k (rowsOf riF (risRd s J0 F0 k).1)) ∧ Hid (InAt wr G g s (risRd s J0 F0 k).2.1 (risRd s J0 F0 k).2.2) ∧ Hid (Kept (twoRows g G) w wr) ∧ Hid (Lies wr w.heap.size 35 #[.slice none 0 0, .slice none 0 0]) ∧ Hid (Lies wr (w.heap.size + 1) 35 #[vr, .slice none 0 0])) (fun u _ => C - (intOf u).toNat)
  case atStart => exact ⟨0, .slice none 0 0, by omega, rfl, World.ownsRow_nil _ _ _ _, HI, HK, HR, HB⟩
  case round =>
    clear HI HK HR HB
    obtain ⟨k, vr, hk, rfl, HO, HI, HK, HR, HB⟩ := hrel
    by_cases hlt : k < C
    · have hki : (k : Int) < (C : Int) := by omega
      have HN : Hid (risRd s J0 F0 (k + 1) = ((risRd s J0 F0 k).1 ++ [(riRd s (risRd s J0 F0 k).2.1 (risRd s J0 F0 k).2.2).1], (riRd s (risRd s J0 F0 k).2.1 (risRd s J0 F0 k).2.2).2)) := rfl
      have hql := risRd_length s J0 F0 k
      generalize risRd s J0 F0 k = q at *
      obtain ⟨L, j, fl⟩ := q
      dsimp only at HO HI HN hql
      subst hql
      go_wp2_with fail
      refine wp_region_rely (fun q => RrS w q G g s j fl) (rrV w G g s j fl (w.heap.size + 1) vr L (riRd s j fl).1) [some 11, some 12, some 13, some 14, some 15, some 16, some 17, some 18, some 19, some 20, some 21, some 22, none] [[], [0, 13], [], [2, 15], [], [4, 3, 16], [], [6, 5, 17], [3, 5, 7], [8], [1, 9, 14], [], [11, 10, 13]] [[], [0], [], [2, 15], [], [2, 4, 15, 16], [], [4, 6, 16, 17], [2, 3, 4, 5, 6, 15, 16, 17], [8], [0, 1, 6, 8, 9, 14, 17], [0, 1, 2, 3, 4, 5, 6, 8, 9, 14, 15, 16, 17], [0, 1, 2, 3, 4, 5, 6, 8, 9, 10, 11, 13, 14, 15, 16, 17]] [[2, 3, 4, 5, 6, 7, 8, 9, 10, 13, 14, 15, 16, 17], [2, 3, 4, 5, 6, 7, 8, 9, 13, 14, 15, 16, 17], [0, 1, 4, 5, 6, 7, 8, 9, 10, 13, 14, 15, 16, 17], [0, 1, 4, 6, 7, 9, 10, 13, 14, 16, 17], [0, 1, 2, 3, 6, 7, 8, 9, 10, 13, 14, 15, 16, 17], [0, 1, 3, 6, 9, 10, 13, 14, 17], [0, 1, 2, 3, 4, 5, 8, 9, 10, 13, 14, 15, 16, 17], [0, 1, 3, 5, 9, 13, 14], [0, 1, 7, 10, 13, 14], [0, 1, 7, 13, 14], [2, 3, 5, 7, 13, 15], [7, 10, 13], [7]] [0, 1, 2, 3, 4, 5, 6, 7, 8, 9, 10, 11, 12] 18 (by kernel_rfl) (by kernel_rfl) (by kernel_rfl) (by kernel_rfl) ?rS ?rI ?rT ?rE
      case rS => exact ⟨HK.out.trans (Kept.drew _ _) (fun _ _ h => h), ⟨0, by omega, HI.out⟩, HR.out⟩
      case rI =>
        intro a h1 h2
        have h2 : 13 ≤ a := h2
        have : a = 13 ∨ a = 14 ∨ a = 15 ∨ a = 16 ∨ a = 17 := by omega
        rcases this with rfl | rfl | rfl | rfl | rfl
        · exact Lies.drew HB.out
        · exact owns_drew HO.out
        · exact ⟨0, by omega, HI.out⟩
        · exact ⟨0, by omega, HI.out⟩
        · exact ⟨0, by omega, HI.out⟩
      case rT =>
        refine RelySteps.cons (RelyStep.mk [] [2, 3, 4, 5, 6, 7, 8, 9, 10, 13, 14, 15, 16, 17] rfl rfl rfl (fun xv wS hS hV bq hb K hK => ?_)) ?_
        · clear hV
          simp only [putsOf, List.foldl_cons, List.foldl_nil, List.getD_cons_zero, List.getD_cons_succ, List.getD_nil, cond_true, cond_false, Act.put, List.setIfInBounds_toArray, List.set_cons_zero, List.set_cons_succ] at hb
          subst hb
          rw [if_pos (by rfl)]
          go_wp2_with fail
          exact hK.out _ _ ⟨_, rfl, hS, rfl, AllP.same _⟩
        refine RelySteps.cons (RelyStep.mk [0, 13] [2, 3, 4, 5, 6, 7, 8, 9, 13, 14, 15, 16, 17] rfl rfl rfl (fun xv wS hS hV bq hb K hK => ?_)) ?_
        · obtain ⟨h0, h13, _⟩ := hV
          have h0 : xv 0 = _ := h0
          simp only [putsOf, List.foldl_cons, List.foldl_nil, List.getD_cons_zero, List.getD_cons_succ, List.getD_nil, cond_true, cond_false, Act.put, List.setIfInBounds_toArray, List.set_cons_zero, List.set_cons_succ, h0] at hb
          clear h0
          generalize xv 13 = y13 at *
          subst hb
          rw [if_pos (by rfl)]
          (have q1 : Lies wS (w.heap.size + 1) _ _ := h13; have c1 := (q1.cell 0).trans (show _ = some vr from rfl); have c2 := q1.lt; clear q1 h13)
          go_wp2_with fail
          exact hK.out _ _ ⟨_, rfl, hS, rfl, AllP.same _⟩
        refine RelySteps.cons (RelyStep.mk [] [0, 1, 4, 5, 6, 7, 8, 9, 10, 13, 14, 15, 16, 17] rfl rfl rfl (fun xv wS hS hV bq hb K hK => ?_)) ?_
        · clear hV
          simp only [putsOf, List.foldl_cons, List.foldl_nil, List.getD_cons_zero, List.getD_cons_succ, List.getD_nil, cond_true, cond_false, Act.put, List.setIfInBounds_toArray, List.set_cons_zero, List.set_cons_succ] at hb
          subst hb
          rw [if_pos (by rfl)]
          go_wp2_with fail
          exact hK.out _ _ ⟨_, rfl, hS, rfl, AllP.same _⟩
        refine RelySteps.cons (RelyStep.mk [2, 15] [0, 1, 4, 6, 7, 9, 10, 13, 14, 16, 17] rfl rfl rfl (fun xv wS hS hV bq hb K hK => ?_)) ?_
        · obtain ⟨h2, h15, _⟩ := hV
          have h2 : xv 2 = _ := h2
          simp only [putsOf, List.foldl_cons, List.foldl_nil, List.getD_cons_zero, List.getD_cons_succ, List.getD_nil, cond_true, cond_false, Act.put, List.setIfInBounds_toArray, List.set_cons_zero, List.set_cons_succ, h2] at hb
          clear h2
          generalize xv 15 = y15 at *
          subst hb
          rw [if_pos (by rfl)]
          have HSS := Lib.hid hS
          have h15 : InLe wS G g s j fl 0 := h15
          have ha : InAt wS G g s j fl := by obtain ⟨m, hm, h⟩ := h15; obtain rfl : m = 0 := by omega
                                             exact h
          have HA := Lib.hid ha
          clear hS h15 ha
          go_wp2_with fail
          refine (srcByte G g s j fl wS HA.out).mono ?_
          rintro e w5 ⟨rfl, hin, hk5⟩
          exact hK.out _ _ ⟨_, rfl, HSS.out.kept hk5 (fun _ _ h => h) (by rintro (e | e) <;> omega) ⟨1, by omega, hin⟩, ⟨rfl, ⟨1, by omega, hin⟩⟩, AllP.of _ (fun a ha u h => rrV_call (k := 0) hk5 HA.out hin (by have := all_in (fun a => decide (a < 15 ∨ 15 < a)) rfl ha; simpa using this) h)⟩
        refine RelySteps.cons (RelyStep.mk [] [0, 1, 2, 3, 6, 7, 8, 9, 10, 13, 14, 15, 16, 17] rfl rfl rfl (fun xv wS hS hV bq hb K hK => ?_)) ?_
        · clear hV
          simp only [putsOf, List.foldl_cons, List.foldl_nil, List.getD_cons_zero, List.getD_cons_succ, List.getD_nil, cond_true, cond_false, Act.put, List.setIfInBounds_toArray, List.set_cons_zero, List.set_cons_succ] at hb
          subst hb
          rw [if_pos (by rfl)]
          go_wp2_with fail
          exact hK.out _ _ ⟨_, rfl, hS, rfl, AllP.same _⟩
        refine RelySteps.cons (RelyStep.mk [4, 3, 16] [0, 1, 3, 6, 9, 10, 13, 14, 17] rfl rfl rfl (fun xv wS hS hV bq hb K hK => ?_)) ?_
        · obtain ⟨h4, h3, h16, _⟩ := hV
          have h4 : xv 4 = _ := h4
          simp only [putsOf, List.foldl_cons, List.foldl_nil, List.getD_cons_zero, List.getD_cons_succ, List.getD_nil, cond_true, cond_false, Act.put, List.setIfInBounds_toArray, List.set_cons_zero, List.set_cons_succ, h4] at hb
          clear h4
          generalize xv 3 = y3 at *
          generalize xv 16 = y16 at *
          subst hb
          rw [if_pos (by rfl)]
          have HSS := Lib.hid hS
          have ha := in_is h3.2 (show InLe wS G g s j fl 1 from h16)
          have HA := Lib.hid ha
          clear hS h3 h16 ha
          go_wp2_with fail
          refine (srcByte G g s _ _ wS HA.out).mono ?_
          rintro e w5 ⟨rfl, hin, hk5⟩
          exact hK.out _ _ ⟨_, rfl, HSS.out.kept hk5 (fun _ _ h => h) (by rintro (e | e) <;> omega) ⟨2, by omega, hin⟩, ⟨rfl, ⟨2, by omega, hin⟩⟩, AllP.of _ (fun a ha u h => rrV_call (k := 1) hk5 HA.out hin (by have := all_in (fun a => decide (a < 15 ∨ 16 < a)) rfl ha; simpa using this) h)⟩
        refine RelySteps.cons (RelyStep.mk [] [0, 1, 2, 3, 4, 5, 8, 9, 10, 13, 14, 15, 16, 17] rfl rfl rfl (fun xv wS hS hV bq hb K hK => ?_)) ?_
        · clear hV
          simp only [putsOf, List.foldl_cons, List.foldl_nil, List.getD_cons_zero, List.getD_cons_succ, List.getD_nil, cond_true, cond_false, Act.put, List.setIfInBounds_toArray, List.set_cons_zero, List.set_cons_succ] at hb
          subst hb
          rw [if_pos (by rfl)]
          go_wp2_with fail
          exact hK.out _ _ ⟨_, rfl, hS, rfl, AllP.same _⟩
        refine RelySteps.cons (RelyStep.mk [6, 5, 17] [0, 1, 3, 5, 9, 13, 14] rfl rfl rfl (fun xv wS hS hV bq hb K hK => ?_)) ?_
        · obtain ⟨h6, h5, h17, _⟩ := hV
          have h6 : xv 6 = _ := h6
          simp only [putsOf, List.foldl_cons, List.foldl_nil, List.getD_cons_zero, List.getD_cons_succ, List.getD_nil, cond_true, cond_false, Act.put, List.setIfInBounds_toArray, List.set_cons_zero, List.set_cons_succ, h6] at hb
          clear h6
          generalize xv 5 = y5 at *
          generalize xv 17 = y17 at *
          subst hb
          rw [if_pos (by rfl)]
          have HSS := Lib.hid hS
          have ha := in_is h5.2 (show InLe wS G g s j fl 2 from h17)
          have HA := Lib.hid ha
          clear hS h5 h17 ha
          go_wp2_with fail
          refine (srcByte G g s _ _ wS HA.out).mono ?_
          rintro e w5 ⟨rfl, hin, hk5⟩
          exact hK.out _ _ ⟨_, rfl, HSS.out.kept hk5 (fun _ _ h => h) (by rintro (e | e) <;> omega) ⟨3, by omega, hin⟩, ⟨rfl, ⟨3, by omega, hin⟩⟩, AllP.of _ (fun a ha u h => rrV_call (k := 2) hk5 HA.out hin (by have := all_in (fun a => decide (a < 15 ∨ 17 < a)) rfl ha; simpa using this) h)⟩
        refine RelySteps.cons (RelyStep.mk [3, 5, 7] [0, 1, 7, 10, 13, 14] rfl rfl rfl (fun xv wS hS hV bq hb K hK => ?_)) ?_
        · obtain ⟨h3, h5, h7, _⟩ := hV
          simp only [putsOf, List.foldl_cons, List.foldl_nil, List.getD_cons_zero, List.getD_cons_succ, List.getD_nil, cond_true, cond_false, Act.put, List.setIfInBounds_toArray, List.set_cons_zero, List.set_cons_succ] at hb
          generalize xv 3 = y3 at *
          generalize xv 5 = y5 at *
          generalize xv 7 = y7 at *
          subst hb
          rw [if_pos (by rfl)]
          (obtain ⟨rfl, _⟩ := h3; obtain ⟨rfl, _⟩ := h5; obtain ⟨rfl, _⟩ := h7)
          go_wp2_with fail
          exact hK.out _ _ ⟨_, rfl, hS, rfl, AllP.same _⟩
        refine RelySteps.cons (RelyStep.mk [8] [0, 1, 7, 13, 14] rfl rfl rfl (fun xv wS hS hV bq hb K hK => ?_)) ?_
        · obtain ⟨h8, _⟩ := hV
          have h8 : xv 8 = _ := h8
          simp only [putsOf, List.foldl_cons, List.foldl_nil, List.getD_cons_zero, List.getD_cons_succ, List.getD_nil, cond_true, cond_false, Act.put, List.setIfInBounds_toArray, List.set_cons_zero, List.set_cons_succ, h8] at hb
          clear h8
          subst hb
          rw [if_pos (by rfl)]
          have HSS := Lib.hid hS
          clear hS
          go_wp2_with fail
          exact hK.out _ _ ⟨_, rfl, HSS.out.kept (Kept.alloc noRow wS _) (fun _ _ (h : False) => h.elim) (fun h => h) (by obtain ⟨m, h1, h2⟩ := HSS.out.at_; exact ⟨m, h1, h2.kept' (Kept.alloc noRow wS _) (fun h => h) (fun h => h)⟩), ⟨wS.heap.size, rfl, Lies.made _ _ _⟩, AllP.of _ (fun a _ u h => rrV_alloc _ h)⟩
        refine RelySteps.cons (RelyStep.mk [1, 9, 14] [2, 3, 5, 7, 13, 15] rfl rfl rfl (fun xv wS hS hV bq hb K hK => ?_)) ?_
        · obtain ⟨h1, h9, h14, _⟩ := hV
          have h1 : xv 1 = _ := h1
          simp only [putsOf, List.foldl_cons, List.foldl_nil, List.getD_cons_zero, List.getD_cons_succ, List.getD_nil, cond_true, cond_false, Act.put, List.setIfInBounds_toArray, List.set_cons_zero, List.set_cons_succ, h1] at hb
          clear h1
          generalize xv 9 = y9 at *
          generalize xv 14 = y14 at *
          subst hb
          rw [if_pos (by rfl)]
          have HSS := Lib.hid hS
          obtain ⟨b9, rfl, hl9⟩ := h9
          clear hS
          have h14 : wS.ownsRow w.heap.size 67 3 vr L.length (rowsOf riF L) := h14
          refine step_list (ops := #[]) (by rfl) (append_argS wS 3 rfl (.tmp 12) (.tmp 20) 32 rfl w.heap.size 67 _ 24 Tryd.underlying32 Tryd.infoRi rfl (by decide) vr L.length _ rfl h14 (some ⟨b9, 0, none⟩) 1 1 rfl (riF (riRd s j fl).1) ⟨rfl, _, _, rfl, Nat.le_refl _, by unfold maxLen; omega, (fun h => by cases h), fun a u hu => ⟨b9, 0, rfl, by rw [Nat.zero_add, hl9.cell, ← hu]; simp [riF]⟩⟩ (by intro u hu; simp [riF] at hu; rcases hu with rfl | rfl | rfl <;> rfl) (by unfold maxLen; omega) (by omega) (HSS.out.kep.size) ?_)
          intro v' w' ho hb hgr
          have hk5 := Kept.of_grown hgr
          have fi : ∀ a b, InAt wS G g s a b → InAt w' G g s a b := fun a b h => h.kept' hk5 (fun e => own_ne h14 h.1 (by decide) e) (fun e => own_ne h14 h.2.1 (by decide) e)
          exact hK.out _ _ ⟨_, rfl, HSS.out.kept hk5 (fun a ha e => by have := (own_lt h14 e).1; omega) (fun e => own_ne h14 HSS.out.res (by decide) e) (by obtain ⟨m, h1, h2⟩ := HSS.out.at_; exact ⟨m, h1, fi _ _ h2⟩), (by
            show World.ownsRow _ _ _ _ _ _ _
            unfold rowsOf
            rw [List.flatMap_append]
            simpa [rowsOf] using ho), AllP.of _ (fun a ha u h => rrV_low hk5 (fun cs hl e => own_ne h14 hl (by decide) e) fi (all_in rrLow rfl ha) h)⟩
        refine RelySteps.cons (RelyStep.mk [] [7, 10, 13] rfl rfl rfl (fun xv wS hS hV bq hb K hK => ?_)) ?_
        · clear hV
          simp only [putsOf, List.foldl_cons, List.foldl_nil, List.getD_cons_zero, List.getD_cons_succ, List.getD_nil, cond_true, cond_false, Act.put, List.setIfInBounds_toArray, List.set_cons_zero, List.set_cons_succ] at hb
          subst hb
          rw [if_pos (by rfl)]
          go_wp2_with fail
          exact hK.out _ _ ⟨_, rfl, hS, rfl, AllP.same _⟩
        refine RelySteps.cons (RelyStep.mk [11, 10, 13] [7] rfl rfl rfl (fun xv wS hS hV bq hb K hK => ?_)) ?_
        · obtain ⟨h11, h10, h13, _⟩ := hV
          have h11 : xv 11 = _ := h11
          simp only [putsOf, List.foldl_cons, List.foldl_nil, List.getD_cons_zero, List.getD_cons_succ, List.getD_nil, cond_true, cond_false, Act.put, List.setIfInBounds_toArray, List.set_cons_zero, List.set_cons_succ, h11] at hb
          clear h11
          generalize xv 10 = y10 at *
          generalize xv 13 = y13 at *
          subst hb
          rw [if_pos (by rfl)]
          have HSS := Lib.hid hS
          have ho := h10
          have hl13 : Lies wS (w.heap.size + 1) 35 #[vr, .slice none 0 0] := h13
          have ho : wS.ownsRow w.heap.size 67 3 y10 (L.length + 1) (rowsOf riF (L ++ [(riRd s j fl).1])) := h10
          clear h10
          obtain ⟨A10, c10, rfl⟩ := own_slice ho
          have HO10 := Lib.hid ho
          have HL13 := Lib.hid hl13
          have q1 := (hl13.cell 0).trans (show _ = some vr from rfl)
          have f1 := hl13.free 0
          have qt := hl13.lt
          clear hS ho hl13 h13
          go_wp2_with fail
          have hk5 := Kept.put wS (w.heap.size + 1) 0 (.slice A10 (L.length + 1) c10)
          have fi : ∀ a b, InAt wS G g s a b → InAt (wS.setCell ⟨w.heap.size + 1, 0, none⟩ (.slice A10 (L.length + 1) c10)) G g s a b := fun a b h => h.kept' hk5 (fun (e : _ = _) => by omega) (fun (e : _ = _) => by omega)
          exact hK.out _ _ ⟨undef, rfl, HSS.out.kept hk5 (fun k hk (e : k = w.heap.size + 1) => by omega) (fun (e : _ = w.heap.size + 1) => by omega) (by obtain ⟨m, h1, h2⟩ := HSS.out.at_; exact ⟨m, h1, fi _ _ h2⟩),
            ⟨_, HL13.out.put 0 _, owns_put HO10.out HL13.out (by decide) 0 _⟩, AllP.of _ (fun a ha u h => rrV_box fi (all_in (fun j => rrLow j && j != 13) rfl ha) h)⟩
        exact RelySteps.nil
      case rE =>
        intro xv wE hS hV
        have h7 := hV 7 (by decide) (by decide)
        have h12 := hV 12 (by decide) (by decide)
        clear hV
        simp only [putsOf, List.foldl_cons, List.foldl_nil, List.getD_cons_zero, List.getD_cons_succ, List.getD_nil, cond_true, cond_false, Act.put, List.setIfInBounds_toArray, List.set_cons_zero, List.set_cons_succ]
        generalize xv 0 = y0 at *
        generalize xv 1 = y1 at *
        generalize xv 2 = y2 at *
        generalize xv 3 = y3 at *
        generalize xv 4 = y4 at *
        generalize xv 5 = y5 at *
        generalize xv 6 = y6 at *
        generalize xv 7 = y7 at *
        generalize xv 8 = y8 at *
        generalize xv 9 = y9 at *
        generalize xv 10 = y10 at *
        generalize xv 11 = y11 at *
        generalize xv 12 = y12 at *
        obtain ⟨v, hn', hv'⟩ := h12
        have ha := in_is h7.2 hS.at_
        have HA : Hid (InAt wE G g s (risRd s J0 F0 (L.length + 1)).2.1 (risRd s J0 F0 (L.length + 1)).2.2) := by rw [HN.out]; exact ha
        have HV : Hid (wE.ownsRow w.heap.size 67 3 v (L.length + 1) (rowsOf riF (risRd s J0 F0 (L.length + 1)).1)) := by rw [HN.out]; exact hv'
        have HN2 := Lib.hid hn'
        have HK2 := Lib.hid hS.kep
        have HR2 := Lib.hid hS.res
        clear hS hn' hv' ha h7
        go_wp2
        go_roundw
        case rel => exact ⟨L.length + 1, v, by omega, by go_num, HV, HA, HK2, HR2, HN2⟩
        case measure => simp [intOf]; omega
    · obtain rfl : k = C := by omega
      have hql := risRd_length s J0 F0 k
      rw [← HDR.out] at HO HI hql
      obtain ⟨LR, JR, FR⟩ := QR
      dsimp only at HO HI hql
      have HDT : Hid (rdT s JR FR = thsRd s (byI s JR) (byF s JR FR || decide (8 < byV s JR)) (coV (byV s JR) 8 (byF s JR FR))) := rfl
      have HRL := Lib.hid hql
      clear HDR hlt
      go_wp2_with fail
      refine (srcByte G g s JR FR wr HI.out).mono ?_
      rintro e w2 ⟨rfl, hin, hk⟩
      replace HI := Lib.hid hin
      replace HO := Lib.hid (owns_kept HO.out hk (fun r cur hr hl e => by rcases e with e | e <;> (have := (own_lt HO.out hr).1; omega)))
      replace HR := Lib.hid (HR.out.kept hk (by rintro (e | e) <;> omega))
      replace HB := Lib.hid (HB.out.kept hk (by rintro (e | e) <;> omega))
      replace HK := Lib.hid (HK.out.trans hk (fun _ _ e => e))
      clear hin hk
      have hbv := byV_lt s JR
      have hw : IntKind.u64.wrap ((byV s JR : Nat) : Int) = ((byV s JR : Nat) : Int) := IntWalk.u64_in _ (by omega)
      go_wp2_with fail
      have hcl := coV_le (byV s JR) 8 (byF s JR FR)
      refine (srcCount G g s _ _ (byV s JR) 8 w2 HI.out (by omega)).mono ?_
      rintro e w3 ⟨rfl, hin, hk⟩
      replace HI := Lib.hid hin
      replace HO := Lib.hid (owns_kept HO.out hk (fun r cur hr hl e => by rcases e with e | e <;> (have := (own_lt HO.out hr).1; omega)))
      replace HR := Lib.hid (HR.out.kept hk (by rintro (e | e) <;> omega))
      replace HB := Lib.hid (HB.out.kept hk (by rintro (e | e) <;> omega))
      replace HK := Lib.hid (HK.out.trans hk (fun _ _ e => e))
      clear hin hk hw hbv
      generalize coV (byV s JR) 8 (byF s JR FR) = D at *
      generalize (byF s JR FR || decide (8 < byV s JR)) = F1 at *
      generalize byI s JR = J1 at *
      rw [← hql] at HO
      clear hql
      have hrlt := fun r (hr : vr.ownBlock = some r) => (own_lt HO.out hr).2
      have HSP : Hid (SpS w w3 w3 G g vr LR (rdT s JR FR).1 []) := ⟨HK.out, Nat.le_refl _, HO.out, hrlt, (fun a v hv => by cases hv), HR.out⟩
      clear HO HK HR hrlt
      go_wp2_with fail
      go_loopw [29] (fun u wr => ∃ (k : Nat) (vt : Value) (vs : List Value), k ≤ D ∧ u = .int .i64 k ∧ Hid (SpS w wr wr G g vr LR (rdT s JR FR).1 vs) ∧ Hid (wr.ownsRow w.heap.size 51 1 vt k vs) ∧ Hid (InAt wr G g s (thsRd s J1 F1 k).2.1 (thsRd s J1 F1 k).2.2) ∧ Hid (Lies wr (w.heap.size + 1) 35 #[vr, vt])) (fun u _ => D - (intOf u).toNat)
      case atStart => exact ⟨0, .slice none 0 0, [], by omega, rfl, HSP, World.ownsRow_nil _ _ _ _, HI, HB⟩
      case round =>
        clear HSP HI HB
        obtain ⟨i2, vt, vs, hi, rfl, HSP, HV, HI, HB⟩ := hrel
        by_cases hlt : i2 < D
        · have hki : (i2 : Int) < (D : Int) := by omega
          have HN : Hid (thsRd s J1 F1 (i2 + 1) = ((thsRd s J1 F1 i2).1 ++ [(thRd s (thsRd s J1 F1 i2).2.1 (thsRd s J1 F1 i2).2.2).1], (thRd s (thsRd s J1 F1 i2).2.1 (thsRd s J1 F1 i2).2.2).2)) := rfl
          have HG : Hid ((rdT s JR FR).1[i2]? = some (thRd s (thsRd s J1 F1 i2).2.1 (thsRd s J1 F1 i2).2.2).1) := by
            rw [HDT.out]; exact thsRd_get s J1 F1 hlt
          generalize thsRd s J1 F1 i2 = q at *
          obtain ⟨LT, j, fl⟩ := q
          dsimp only at HI HN HG
          have HVL : Hid (vs.length = i2) := by have := HV.out.1; show _ = _; omega
          have hS0 : w.heap.size + 2 ≤ wr.heap.size := HB.out.lt
          have HTR : Hid (thRd s j fl = ((thRd s j fl).1, (thRd s j fl).2.1, (thRd s j fl).2.2)) := rfl
          generalize hX : thRd s j fl = X at *
          obtain ⟨l, j', fl'⟩ := X
          have HX := Lib.hid hX
          clear hX HTR
          dsimp only at HN HG
          generalize (rdT s JR FR).1 = TS at *
          go_wp2_with fail
          refine wp_region_rely (fun q => SpS w wr q G g vr LR TS vs) (spV w wr G g s j fl j' fl' (w.heap.size + 1) i2 vr vt vs l) [some 31, some 32, some 33, some 34, some 35, some 36, some 37, none] [[], [0, 8], [], [2, 10], [3], [1, 4, 9], [], [6, 5, 8]] [[], [0], [], [2, 10], [2, 3, 10], [0, 1, 2, 3, 4, 9, 10], [0, 1, 2, 3, 4, 9, 10], [0, 1, 2, 3, 4, 5, 6, 8, 9, 10]] [[2, 3, 4, 5, 8, 9, 10], [2, 3, 4, 8, 9, 10], [0, 1, 4, 5, 8, 9, 10], [0, 1, 8, 9], [0, 1, 8, 9], [8], [5, 8], []] [0, 1, 2, 3, 4, 5, 6, 7] 11 (by kernel_rfl) (by kernel_rfl) (by kernel_rfl) (by kernel_rfl) ?rS ?rI ?rT ?rE
          case rS => exact HSP.out.kept (Kept.drew noRow wr) (fun _ _ (h : False) => h.elim) (fun _ _ _ _ h => h) (fun _ _ _ _ h => h) (fun h => h)
          case rI =>
            intro a h1 h2
            have h2 : 8 ≤ a := h2
            have : a = 8 ∨ a = 9 ∨ a = 10 := by omega
            rcases this with rfl | rfl | rfl
            · exact Lies.drew HB.out
            · exact owns_drew HV.out
            · exact HI.out
          case rT =>
            refine RelySteps.cons (RelyStep.mk [] [2, 3, 4, 5, 8, 9, 10] rfl rfl rfl (fun xv wS hS hV bq hb K hK => ?_)) ?_
            · clear hV
              simp only [putsOf, List.foldl_cons, List.foldl_nil, List.getD_cons_zero, List.getD_cons_succ, List.getD_nil, cond_true, cond_false, Act.put, List.setIfInBounds_toArray, List.set_cons_zero, List.set_cons_succ] at hb
              subst hb
              rw [if_pos (by rfl)]
              go_wp2_with fail
              exact hK.out _ _ ⟨_, rfl, hS, rfl, AllP.same _⟩
            refine RelySteps.cons (RelyStep.mk [0, 8] [2, 3, 4, 8, 9, 10] rfl rfl rfl (fun xv wS hS hV bq hb K hK => ?_)) ?_
            · obtain ⟨h0, h8, _⟩ := hV
              have h0 : xv 0 = _ := h0
              simp only [putsOf, List.foldl_cons, List.foldl_nil, List.getD_cons_zero, List.getD_cons_succ, List.getD_nil, cond_true, cond_false, Act.put, List.setIfInBounds_toArray, List.set_cons_zero, List.set_cons_succ, h0] at hb
              clear h0
              generalize xv 8 = y8 at *
              subst hb
              rw [if_pos (by rfl)]
              (have q1 : Lies wS (w.heap.size + 1) _ _ := h8; have c1 := (q1.cell 1).trans (show _ = some vt from rfl); have c2 := q1.lt; clear q1 h8)
              go_wp2_with fail
              exact hK.out _ _ ⟨_, rfl, hS, rfl, AllP.same _⟩
            refine RelySteps.cons (RelyStep.mk [] [0, 1, 4, 5, 8, 9, 10] rfl rfl rfl (fun xv wS hS hV bq hb K hK => ?_)) ?_
            · clear hV
              simp only [putsOf, List.foldl_cons, List.foldl_nil, List.getD_cons_zero, List.getD_cons_succ, List.getD_nil, cond_true, cond_false, Act.put, List.setIfInBounds_toArray, List.set_cons_zero, List.set_cons_succ] at hb
              subst hb
              rw [if_pos (by rfl)]
              go_wp2_with fail
              exact hK.out _ _ ⟨_, rfl, hS, rfl, AllP.same _⟩
            refine RelySteps.cons (RelyStep.mk [2, 10] [0, 1, 8, 9] rfl rfl rfl (fun xv wS hS hV bq hb K hK => ?_)) ?_
            · obtain ⟨h2, h10, _⟩ := hV
              have h2 : xv 2 = _ := h2
              simp only [putsOf, List.foldl_cons, List.foldl_nil, List.getD_cons_zero, List.getD_cons_succ, List.getD_nil, cond_true, cond_false, Act.put, List.setIfInBounds_toArray, List.set_cons_zero, List.set_cons_succ, h2] at hb
              clear h2
              generalize xv 10 = y10 at *
              subst hb
              rw [if_pos (by rfl)]
              have HSS := Lib.hid hS
              have HA := Lib.hid (show InAt wS G g s j fl from h10)
              clear hS h10
              go_wp2_with fail
              refine (srcThread G g s j fl wS HA.out).mono ?_
              rintro e w5 ⟨v5, rfl, ho, hin, hk5⟩
              rw [HX.out] at ho hin
              exact hK.out _ _ ⟨_, rfl, HSS.out.kept hk5 (fun _ _ h => h) (fun r cur _ hl => two_apart HA.out hl (by decide) (by decide)) (fun r cur _ hl => two_apart HA.out hl (by decide) (by decide)) (by rintro (e | e) <;> omega),
                ⟨owns_mono ho HSS.out.le, hin⟩, AllP.of _ (fun a ha u h => spV_low hk5 (fun cs hl => by rintro (e | e) <;> omega) (fun r cur hr hl => two_apart HA.out hl (by decide) (by decide)) (all_in spLow rfl ha) h)⟩
            refine RelySteps.cons (RelyStep.mk [3] [0, 1, 8, 9] rfl rfl rfl (fun xv wS hS hV bq hb K hK => ?_)) ?_
            · obtain ⟨h3, _⟩ := hV
              simp only [putsOf, List.foldl_cons, List.foldl_nil, List.getD_cons_zero, List.getD_cons_succ, List.getD_nil, cond_true, cond_false, Act.put, List.setIfInBounds_toArray, List.set_cons_zero, List.set_cons_succ] at hb
              generalize xv 3 = y3 at *
              subst hb
              rw [if_pos (by rfl)]
              have HSS := Lib.hid hS
              have H3 := Lib.hid h3
              obtain ⟨A3, c3, rfl⟩ := own_slice h3.1
              clear hS h3
              go_wp2_with fail
              exact hK.out _ _ ⟨_, rfl, HSS.out.kept (Kept.alloc noRow wS _) (fun _ _ (h : False) => h.elim) (fun _ _ _ _ h => h) (fun _ _ _ _ h => h) (fun h => h), ⟨wS.heap.size, _, rfl, Lies.made _ _ _, owned_below H3.out.1 ((Below.refl _ _).alloc (Nat.le_refl _) _), H3.out.2.kept' (Kept.alloc noRow wS _) (fun h => h) (fun h => h)⟩, AllP.of _ (fun a ha u h => spV_low (Kept.alloc noRow wS _) (fun _ _ h => h) (fun _ _ _ _ h => h) (all_in spLow rfl ha) h)⟩
            refine RelySteps.cons (RelyStep.mk [1, 4, 9] [8] rfl rfl rfl (fun xv wS hS hV bq hb K hK => ?_)) ?_
            · obtain ⟨h1, h4, h9, _⟩ := hV
              have h1 : xv 1 = _ := h1
              simp only [putsOf, List.foldl_cons, List.foldl_nil, List.getD_cons_zero, List.getD_cons_succ, List.getD_nil, cond_true, cond_false, Act.put, List.setIfInBounds_toArray, List.set_cons_zero, List.set_cons_succ, h1] at hb
              clear h1
              generalize xv 4 = y4 at *
              generalize xv 9 = y9 at *
              subst hb
              rw [if_pos (by rfl)]
              have HSS := Lib.hid hS
              obtain ⟨b4, u4, rfl, hl4, hu4, hi4⟩ := h4
              clear hS
              have h9 : wS.ownsRow w.heap.size 51 1 vt i2 vs := h9
              refine step_list (ops := #[]) (by rfl) (append_argS wS 1 rfl (.tmp 32) (.tmp 35) 33 rfl w.heap.size 51 _ 24 Tryd.underlying33 Tryd.infoTh rfl (by decide) vt i2 vs rfl h9 (some ⟨b4, 0, none⟩) 1 1 rfl [u4] ⟨rfl, _, _, rfl, Nat.le_refl _, by unfold maxLen; omega, (fun h => by cases h), fun k x hx => ⟨b4, 0, rfl, by rw [Nat.zero_add, hl4.cell]; rw [← hx]; simp⟩⟩ (by intro q hq; simp at hq; subst hq; exact own_one hu4) (by unfold maxLen; omega) (by omega) HSS.out.kep.size ?_)
              intro v' w' ho hb hgr
              have hk5 := Kept.of_grown hgr
              exact hK.out _ _ ⟨_, rfl, HSS.out.kept hk5 (fun a ha e => by have := (own_lt h9 e).1; omega) (fun r cur hr hl3 hs => own_ne h9 hl3 (by decide) hs) (fun r cur hr hl3 hs => own_ne h9 hl3 (by decide) hs) (fun e => own_ne h9 HSS.out.res (by decide) e),
                ⟨u4, ho, owns_kept hu4 hk5 (fun r cur _ hl3 hs => own_ne h9 hl3 (by decide) hs), hi4.kept' hk5 (fun e => own_ne h9 hi4.1 (by decide) e) (fun e => own_ne h9 hi4.2.1 (by decide) e)⟩, AllP.of _ (fun a ha q h => spV_low2 hk5 (fun cs hl e => own_ne h9 hl (by decide) e) (all_in (fun j => spLow j && j != 9) rfl ha) h)⟩
            refine RelySteps.cons (RelyStep.mk [] [5, 8] rfl rfl rfl (fun xv wS hS hV bq hb K hK => ?_)) ?_
            · clear hV
              simp only [putsOf, List.foldl_cons, List.foldl_nil, List.getD_cons_zero, List.getD_cons_succ, List.getD_nil, cond_true, cond_false, Act.put, List.setIfInBounds_toArray, List.set_cons_zero, List.set_cons_succ] at hb
              subst hb
              rw [if_pos (by rfl)]
              go_wp2_with fail
              exact hK.out _ _ ⟨_, rfl, hS, rfl, AllP.same _⟩
            refine RelySteps.cons (RelyStep.mk [6, 5, 8] [] rfl rfl rfl (fun xv wS hS hV bq hb K hK => ?_)) ?_
            · obtain ⟨h6, h5, h8, _⟩ := hV
              have h6 : xv 6 = _ := h6
              simp only [putsOf, List.foldl_cons, List.foldl_nil, List.getD_cons_zero, List.getD_cons_succ, List.getD_nil, cond_true, cond_false, Act.put, List.setIfInBounds_toArray, List.set_cons_zero, List.set_cons_succ, h6] at hb
              clear h6
              generalize xv 5 = y5 at *
              generalize xv 8 = y8 at *
              subst hb
              rw [if_pos (by rfl)]
              have HSS := Lib.hid hS
              obtain ⟨u, ho, hu, hin⟩ := h5
              have hl8 : Lies wS (w.heap.size + 1) 35 #[vr, vt] := h8
              obtain ⟨A5, c5, rfl⟩ := own_slice ho
              have HO5 := Lib.hid ho
              have HU5 := Lib.hid hu
              have HI5 := Lib.hid hin
              have HL8 := Lib.hid hl8
              have q1 := (hl8.cell 1).trans (show _ = some vt from rfl)
              have f1 := hl8.free 1
              have qt := hl8.lt
              clear hS ho hu hin hl8 h8
              go_wp2_with fail
              have hk5 := Kept.put wS (w.heap.size + 1) 1 (.slice A5 (i2 + 1) c5)
              exact hK.out _ _ ⟨undef, rfl, HSS.out.kept hk5 (fun k hk (e : k = w.heap.size + 1) => by omega) (fun r cur _ hl3 (e : r = w.heap.size + 1) => by subst e; exact absurd (hl3.same HL8.out).1 (by decide)) (fun r cur _ hl3 (e : r = w.heap.size + 1) => by subst e; exact absurd (hl3.same HL8.out).1 (by decide)) (fun (e : _ = w.heap.size + 1) => by omega),
                ⟨_, u, HL8.out.put 1 _, owns_put HO5.out HL8.out (by decide) 1 _, owns_put HU5.out HL8.out (by decide) 1 _, HI5.out.kept' hk5 (fun (e : _ = _) => by omega) (fun (e : _ = _) => by omega)⟩, AllP.of _ (fun a ha => absurd ha List.not_mem_nil)⟩
            exact RelySteps.nil
          case rE =>
            intro xv wE hS hV
            have h7 := hV 7 (by decide) (by decide)
            clear hV
            simp only [putsOf, List.foldl_cons, List.foldl_nil, List.getD_cons_zero, List.getD_cons_succ, List.getD_nil, cond_true, cond_false, Act.put, List.setIfInBounds_toArray, List.set_cons_zero, List.set_cons_succ]
            generalize xv 0 = y0 at *
            generalize xv 1 = y1 at *
            generalize xv 2 = y2 at *
            generalize xv 3 = y3 at *
            generalize xv 4 = y4 at *
            generalize xv 5 = y5 at *
            generalize xv 6 = y6 at *
            generalize xv 7 = y7 at *
            obtain ⟨v, u, hn', hv', hu', hi'⟩ := h7
            have HS2 : Hid (SpS w wE wE G g vr LR TS (vs ++ [u])) :=
              ⟨hS.kep, Nat.le_refl _, hS.rr, fun r hr => Nat.lt_of_lt_of_le (hS.rlt r hr) hS.le, (hS.inn.mono hS.le).snoc (by rw [HVL.out]; exact HG.out) (owns_mono hu' (by omega)) (fun r hr => (own_lt hu' hr).2), hS.res⟩
            have HN2 := Lib.hid hn'
            have HV2 := Lib.hid hv'
            have HI2 : Hid (InAt wE G g s (thsRd s J1 F1 (i2 + 1)).2.1 (thsRd s J1 F1 (i2 + 1)).2.2) := by rw [HN.out]; exact hi'
            clear hS hn' hv' hu' hi'
            go_wp2
            go_roundw
            case rel => exact ⟨i2 + 1, v, vs ++ [u], by omega, by go_num, HS2, HV2, HI2, HN2⟩
            case measure => simp [intOf]; omega
        · obtain rfl : i2 = D := by omega
          rw [← HDT.out] at HI
          have HTL : Hid ((rdT s JR FR).1.length = i2) := by rw [HDT.out]; exact thsRd_length _ _ _ _
          obtain ⟨Ar, cr, rfl⟩ := own_slice HSP.out.rr
          obtain ⟨At, ct, rfl⟩ := own_slice HV.out
          have n0 := (HB.out.cell 0).trans (show _ = some (Value.slice Ar LR.length cr) from rfl)
          have n1 := (HB.out.cell 1).trans (show _ = some (Value.slice At i2 ct) from rfl)
          have nlt := HB.out.lt
          have rf0 := HSP.out.res.free 0
          have rf1 := HSP.out.res.free 1
          have rlt := HSP.out.res.lt
          have r0 := (HSP.out.res.cell 0).trans (show _ = some (Value.slice none 0 0) from rfl)
          have r1 := (HSP.out.res.cell 1).trans (show _ = some (Value.slice none 0 0) from rfl)
          have HK2 := Lib.hid ((Kept.put wr w.heap.size 0 (.slice Ar LR.length cr)).trans (Kept.put _ w.heap.size 1 (.slice At i2 ct)) (fun _ _ h => h))
          have HR2 := Lib.hid ((HSP.out.res.put 0 (.slice Ar LR.length cr)).put 1 (.slice At i2 ct))
          have q0 := (HR2.out.cell 0).trans (show _ = some (Value.slice Ar LR.length cr) from rfl)
          have q1 := (HR2.out.cell 1).trans (show _ = some (Value.slice At i2 ct) from rfl)
          have HQ0 := Lib.hid q0
          have HQ1 := Lib.hid q1
          clear q0 q1 HDT
          go_wp2
          refine bodyPost_ret (v := .agg #[.slice Ar LR.length cr, .slice At i2 ct]) (by simp [results, Tryd.results44, go_sem, HQ0.out, HQ1.out]) rfl ?_
          exact ⟨_, _, vs, rfl, owns_kept HSP.out.rr HK2.out (fun r cur hr hl3 (e : r = w.heap.size) => by subst e; exact absurd (hl3.same HSP.out.res).1 (by decide)),
            by rw [HTL.out]; exact owns_kept HV.out HK2.out (fun r cur hr hl3 (e : r = w.heap.size) => by subst e; exact absurd (hl3.same HSP.out.res).1 (by decide)),
            (HSP.out.inn.kept HK2.out (fun r cur _ hl3 (e : r = w.heap.size) => by subst e; exact absurd (hl3.same HSP.out.res).1 (by decide))).mono HK2.out.size,
            HI.out.kept' HK2.out (fun (e : _ = _) => by omega) (fun (e : _ = _) => by omega),
            HSP.out.kep.trans HK2.out (fun k hk (e : k = w.heap.size) => by omega)⟩
end Go.Proofs.YtebgcehcnenjiaaDoor
/-
  code.Read (layer 9).
-/
namespace Go.Proofs.YtebgcehcnenjiaaDoor
open Go.RowKit
set_option linter.unusedVariables false
set_option linter.unusedSimpArgs false
def rdP (s : ByteArray) : Pg := if rdB s = true then (prRd s 0 false).1 else ⟨[], []⟩
def rdC (s : ByteArray) : Int := if rdB s = true then 0 else 3
/-- A program and a flag of the call's own. -/
def PgTwo (w : World) (p : Pg) (v : Value) (e : Ending) (w' : World) : Prop := ∃ A c B d, e = .returned (.tuple #[.agg (pgC A c B d p), v]) ∧ PgAt w' A c B d p ∧ Below w.heap.size w w'
theorem own_pg {w' : World} {B0 B1 N : Nat} {p : Pg} {vr vt : Value} {vs : List Value} (hr : w'.ownsRow B0 67 3 vr p.rs.length (rowsOf riF p.rs)) (ht : w'.ownsRow B0 51 1 vt p.ts.length vs) (hi : Inners w' B1 N p.ts vs) :
    ∃ A c B d, vr = .slice A p.rs.length c ∧ vt = .slice B p.ts.length d ∧ PgAt w' A c B d p := by
  obtain ⟨A, c, rfl⟩ := own_slice hr
  obtain ⟨B, d, rfl⟩ := own_slice ht
  have hvl : vs.length = p.ts.length := by have := ht.1; omega
  refine ⟨A, c, B, d, rfl, rfl, SeqS.of_owns hr, vs, SeqS.of_owns ht, fun i l hl => ?_⟩
  have hil := (List.getElem?_eq_some_iff.1 hl).1
  have hv : vs[i]? = some (vs[i]'(by omega)) := List.getElem?_eq_getElem (by omega)
  obtain ⟨l2, h1, h2, _⟩ := hi i _ hv
  rw [hl] at h1
  injection h1 with h1
  subst h1
  obtain ⟨C, k, hC⟩ := own_slice h2
  rw [hC] at h2 hv
  exact ⟨C, k, hv, SeqS.of_owns h2⟩
theorem pg_none (w : World) : PgAt w none 0 none 0 ⟨[], []⟩ :=
  ⟨SeqS.of_owns (World.ownsRow_nil w 0 67 3), [], SeqS.of_owns (World.ownsRow_nil w 0 51 1), fun i l hl => by cases hl⟩
/-- The result's box is stored into. -/
theorem below_res {B : Nat} {w0 w : World} (h : Below B w0 w) {g : Nat} (hg : B ≤ g) (i : Nat) (v : Value) : Below B w0 (w.setCell ⟨g, i, none⟩ v) := h.setCell (p := ⟨g, i, none⟩) hg v
theorem pg_box {w : World} {A : Option Addr} {c : Nat} {B : Option Addr} {d : Nat} {p : Pg} (h : PgAt w A c B d p) {w' : World} (hb : Below w.heap.size w w') : PgAt w' A c B d p := h.later hb
theorem Inners.kept' {w w' : World} {B N g : Nat} {ts : List (List In)} {vs : List Value} (h : Inners w B N ts vs) (k : Kept (oneRow g) w w') (hg : g < B) : Inners w' B N ts vs := by
  intro j v hv
  obtain ⟨l, h1, h2, h3⟩ := h j v hv
  exact ⟨l, h1, owns_kept h2 k (fun r cur hr hl (e : r = g) => by have := (own_lt h2 hr).1; omega), h3⟩
set_option maxHeartbeats 8000000 in
set_option maxRecDepth 100000 in
theorem codeRead (s : ByteArray) (w : World) (hs : s.size ≤ maxLen) : Calls Tryd.prog 25 #[.string s] w (PgTwo w (rdP s) (.int .i64 (rdC s))) := by
  have HE : Hid (rdB s = (!(prRd s 0 false).2.2 && (decide (s.size ≤ (prRd s 0 false).2.1) && encB (prRd s 0 false).1))) := rfl
  have HP : Hid (rdP s = if rdB s = true then (prRd s 0 false).1 else ⟨[], []⟩) := rfl
  have HC : Hid (rdC s = if rdB s = true then 0 else 3) := rfl
  have l0 := Lies.made w 35 #[.slice none 0 0, .slice none 0 0]
  have hb0 : Below w.heap.size w (w.alloc (.cells #[.slice none 0 0, .slice none 0 0] 35)) := (Below.refl _ _).alloc (Nat.le_refl _) _
  have HL := Lib.hid l0
  have HB := Lib.hid hb0
  have hw1 : (w.alloc (.cells #[.slice none 0 0, .slice none 0 0] 35)).heap.size = w.heap.size + 1 := by simp
  have HW1 := Lib.hid hw1
  clear l0 hb0 hw1
  unfold PgTwo
  generalize hQ : (fun e w' => ∃ A c B d, e = Ending.returned (.tuple #[.agg (pgC A c B d (rdP s)), .int .i64 (rdC s)]) ∧ PgAt w' A c B d (rdP s) ∧ Below w.heap.size w w') = Q
  go_enter Tryd.func25, Tryd.ntmps25
  go_wp2_with fail
  generalize w.alloc (.cells #[.slice none 0 0, .slice none 0 0] 35) = w1 at *
  refine (octetNew s w1 hs).mono ?_
  rintro e w2 ⟨rfl, hrd, hk⟩
  have HR := Lib.hid hrd
  replace HL := Lib.hid (HL.out.kept hk (fun h => h))
  replace HB := Lib.hid (HB.out.trans (hk.below HB.out.size (fun _ _ h => h)))
  have hsz := HR.out.1.lt
  have hsz0 := HW1.out
  generalize w1.heap.size = g at *
  subst hsz0
  clear hrd hk HW1
  have hin : InAt (w2.alloc (.cells #[.pointer (some ⟨w.heap.size + 1, 0, none⟩), .bool false] 79)) w2.heap.size (w.heap.size + 1) s 0 false :=
    ⟨Lies.made _ _ _, HR.out.1.alloc _, HR.out.2⟩
  have HI := Lib.hid hin
  have HB3 := Lib.hid (HB.out.alloc HB.out.size (.cells #[.pointer (some ⟨w.heap.size + 1, 0, none⟩), .bool false] 79))
  have HL3 := Lib.hid (HL.out.alloc (.cells #[.pointer (some ⟨w.heap.size + 1, 0, none⟩), .bool false] 79))
  have hsz3 : w2.heap.size < (w2.alloc (.cells #[.pointer (some ⟨w.heap.size + 1, 0, none⟩), .bool false] 79)).heap.size := hin.1.lt
  clear hin HR HL HB
  go_wp2_with fail
  generalize w2.alloc (.cells #[.pointer (some ⟨w.heap.size + 1, 0, none⟩), .bool false] 79) = w3 at *
  generalize w2.heap.size = G at *
  refine (srcProgram G (w.heap.size + 1) s 0 false w3 HI.out).mono ?_
  rintro e w4 ⟨vr, vt, vs, rfl, hr, ht, hi, hin, hk⟩
  generalize prRd s 0 false = X at *
  obtain ⟨p, j, fl⟩ := X
  dsimp only at hr ht hi hin HE HP
  obtain ⟨A, c, B, d, rfl, rfl, hpg⟩ := own_pg hr ht hi
  have hHB := HB3.out.size
  have HPG := Lib.hid (hpg.later ((Below.refl w4.heap.size w4).alloc (Nat.le_refl _) (.cells (pgC A c B d p) 35)))
  have HI4 := Lib.hid (hin.kept' (Kept.alloc noRow w4 (.cells (pgC A c B d p) 35)) (fun h => h) (fun h => h))
  have HB4 := Lib.hid ((HB3.out.trans (hk.below HB3.out.size (by rintro k hk (e | e) <;> omega))).alloc (Nat.le_trans HB3.out.size hk.size) (.cells (pgC A c B d p) 35))
  have HL4 := Lib.hid ((HL3.out.kept hk (by rintro (e | e) <;> omega)).alloc (.cells (pgC A c B d p) 35))
  have HX4 := Lib.hid (Lies.made w4 35 (pgC A c B d p))
  have hw4 := hk.size
  have HOR := Lib.hid hr
  have HOT := Lib.hid ht
  have HOI := Lib.hid hi
  have HKK := Lib.hid (Kept.alloc (oneRow w.heap.size) w4 (.cells (pgC A c B d p) 35))
  clear hr ht hi hin hk hpg HI HB3 HL3
  go_upto_region 3 with (fail)
  have hw5 : (w4.alloc (.cells (pgC A c B d p) 35)).heap.size = w4.heap.size + 1 := by simp
  generalize w4.alloc (.cells (pgC A c B d p) 35) = w5 at *
  generalize w4.heap.size = b5 at *
  have c0 := (HI4.out.1.cell 0).trans (show _ = some (Value.pointer (some ⟨w.heap.size + 1, 0, none⟩)) from rfl)
  have c1 := (HI4.out.1.cell 1).trans (show _ = some (Value.bool fl) from rfl)
  have cl := HI4.out.1.lt
  cases fl with
  | true =>
    have HE0 : Hid (rdB s = false) := by show _ = _; rw [HE.out]; rfl
    have HP0 : Hid (rdP s = ⟨[], []⟩) := by show _ = _; rw [HP.out, HE0.out]; rfl
    have HC0 : Hid (rdC s = 3) := by show _ = _; rw [HC.out, HE0.out]; rfl
    clear HE HP HC HE0
    have rf0 := HL4.out.free 0
    have rf1 := HL4.out.free 1
    have rlt := HL4.out.lt
    have r0 := (HL4.out.cell 0).trans (show _ = some (Value.slice none 0 0) from rfl)
    have r1 := (HL4.out.cell 1).trans (show _ = some (Value.slice none 0 0) from rfl)
    have HR2 := Lib.hid ((HL4.out.put 0 (.slice none 0 0)).put 1 (.slice none 0 0))
    have q0 := (HR2.out.cell 0).trans (show _ = some (Value.slice none 0 0) from rfl)
    have q1 := (HR2.out.cell 1).trans (show _ = some (Value.slice none 0 0) from rfl)
    have HQ0 := Lib.hid q0
    have HQ1 := Lib.hid q1
    clear q0 q1
    go_wp2
    subst hQ
    refine bodyPost_ret (v := .tuple #[.agg #[.slice none 0 0, .slice none 0 0], .int .i64 3]) (by simp [results, Tryd.results25, go_sem, HQ0.out, HQ1.out]) rfl ?_
    rw [HP0.out, HC0.out]
    exact ⟨none, 0, none, 0, rfl, pg_none _, below_res (below_res HB4.out (Nat.le_refl _) _ _) (Nat.le_refl _) _ _⟩
  | false =>
    go_wp2_with fail
    refine (octetLeft (w.heap.size + 1) s j w5 HI4.out.2).mono ?_
    rintro e w6 ⟨rfl, n6, rfl⟩
    have HL6 : Hid (Lies (w5.drewN n6) w.heap.size 35 #[.slice none 0 0, .slice none 0 0]) := HL4.out
    have HX6 : Hid (Lies (w5.drewN n6) b5 35 (pgC A c B d p)) := HX4.out
    have HPG6 : Hid (PgAt (w5.drewN n6) A c B d p) := HPG.out.later (below_drewN (Below.refl _ _) _)
    have HB6 := Lib.hid (below_drewN HB4.out n6)
    have HKK6 := Lib.hid (HKK.out.trans (Kept.drewN (oneRow w.heap.size) w5 n6) (fun _ _ e => e))
    have hjs := HI4.out.2.2.1
    clear HL4 HX4 HPG HB4 HI4 c0 c1 cl
    generalize w5.drewN n6 = w6 at *
    by_cases hj : j < s.size
    · have HE0 : Hid (rdB s = false) := by show _ = _; rw [HE.out, decide_eq_false (by omega)]; rfl
      have HP0 : Hid (rdP s = ⟨[], []⟩) := by show _ = _; rw [HP.out, HE0.out]; rfl
      have HC0 : Hid (rdC s = 3) := by show _ = _; rw [HC.out, HE0.out]; rfl
      have e1 : decide ((0 : Int) < (s.size : Int) - (j : Int)) = true := decide_eq_true (by omega)
      have e2 : decide (j < s.size) = true := decide_eq_true (by omega)
      clear HE HP HC HE0
      have rf0 := HL6.out.free 0
      have rf1 := HL6.out.free 1
      have rlt := HL6.out.lt
      have r0 := (HL6.out.cell 0).trans (show _ = some (Value.slice none 0 0) from rfl)
      have r1 := (HL6.out.cell 1).trans (show _ = some (Value.slice none 0 0) from rfl)
      have HR2 := Lib.hid ((HL6.out.put 0 (.slice none 0 0)).put 1 (.slice none 0 0))
      have q0 := (HR2.out.cell 0).trans (show _ = some (Value.slice none 0 0) from rfl)
      have q1 := (HR2.out.cell 1).trans (show _ = some (Value.slice none 0 0) from rfl)
      have HQ0 := Lib.hid q0
      have HQ1 := Lib.hid q1
      clear q0 q1
      go_wp2
      subst hQ
      refine bodyPost_ret (v := .tuple #[.agg #[.slice none 0 0, .slice none 0 0], .int .i64 3]) (by simp [results, Tryd.results25, go_sem, HQ0.out, HQ1.out]) rfl ?_
      rw [HP0.out, HC0.out]
      exact ⟨none, 0, none, 0, rfl, pg_none _, below_res (below_res HB6.out (Nat.le_refl _) _ _) (Nat.le_refl _) _ _⟩
    · have HEE : Hid (rdB s = encB p) := by show _ = _; rw [HE.out, decide_eq_true (by omega)]; rfl
      have e1 : decide ((0 : Int) < (s.size : Int) - (j : Int)) = false := decide_eq_false (by omega)
      have e2 : decide (j < s.size) = false := decide_eq_false (by omega)
      have x0 := (HX6.out.cell 0).trans (show _ = some (Value.slice A p.rs.length c) from rfl)
      have x1 := (HX6.out.cell 1).trans (show _ = some (Value.slice B p.ts.length d) from rfl)
      have xl := HX6.out.lt
      clear HE hj
      go_wp2_with fail
      refine (enc_any p A c B d w6 HPG6.out).mono ?_
      rintro e w7 ⟨rfl, hb7⟩
      have HL7 := Lib.hid (HL6.out.below hb7 HL6.out.lt)
      have HX7 := Lib.hid (HX6.out.below hb7 HX6.out.lt)
      have HPG7 := Lib.hid (HPG6.out.later hb7)
      have HB7 := Lib.hid (HB6.out.trans (hb7.mono HB6.out.size))
      have HKK7 := Lib.hid (HKK6.out.trans (Kept.of_below hb7) (fun _ _ (e : False) => e.elim))
      clear HL6 HX6 HPG6 HB6 x0 x1 xl hb7 e1 e2
      cases he : encB p with
      | false =>
        have HP0 : Hid (rdP s = ⟨[], []⟩) := by show _ = _; rw [HP.out, HEE.out, he]; rfl
        have HC0 : Hid (rdC s = 3) := by show _ = _; rw [HC.out, HEE.out, he]; rfl
        clear HP HC HEE he
        have rf0 := HL7.out.free 0
        have rf1 := HL7.out.free 1
        have rlt := HL7.out.lt
        have r0 := (HL7.out.cell 0).trans (show _ = some (Value.slice none 0 0) from rfl)
        have r1 := (HL7.out.cell 1).trans (show _ = some (Value.slice none 0 0) from rfl)
        have HR2 := Lib.hid ((HL7.out.put 0 (.slice none 0 0)).put 1 (.slice none 0 0))
        have q0 := (HR2.out.cell 0).trans (show _ = some (Value.slice none 0 0) from rfl)
        have q1 := (HR2.out.cell 1).trans (show _ = some (Value.slice none 0 0) from rfl)
        have HQ0 := Lib.hid q0
        have HQ1 := Lib.hid q1
        clear q0 q1
        go_wp2
        subst hQ
        refine bodyPost_ret (v := .tuple #[.agg #[.slice none 0 0, .slice none 0 0], .int .i64 3]) (by simp [results, Tryd.results25, go_sem, HQ0.out, HQ1.out]) rfl ?_
        rw [HP0.out, HC0.out]
        exact ⟨none, 0, none, 0, rfl, pg_none _, below_res (below_res HB7.out (Nat.le_refl _) _ _) (Nat.le_refl _) _ _⟩
      | true =>
        have HP0 : Hid (rdP s = p) := by show _ = _; rw [HP.out, HEE.out, he]; rfl
        have HC0 : Hid (rdC s = 0) := by show _ = _; rw [HC.out, HEE.out, he]; rfl
        clear HP HC HEE he
        have x0 := (HX7.out.cell 0).trans (show _ = some (Value.slice A p.rs.length c) from rfl)
        have x1 := (HX7.out.cell 1).trans (show _ = some (Value.slice B p.ts.length d) from rfl)
        have xl := HX7.out.lt
        have rf0 := HL7.out.free 0
        have rf1 := HL7.out.free 1
        have rlt := HL7.out.lt
        have r0 := (HL7.out.cell 0).trans (show _ = some (Value.slice none 0 0) from rfl)
        have r1 := (HL7.out.cell 1).trans (show _ = some (Value.slice none 0 0) from rfl)
        have HR2 := Lib.hid ((HL7.out.put 0 (.slice A p.rs.length c)).put 1 (.slice B p.ts.length d))
        have q0 := (HR2.out.cell 0).trans (show _ = some (Value.slice A p.rs.length c) from rfl)
        have q1 := (HR2.out.cell 1).trans (show _ = some (Value.slice B p.ts.length d) from rfl)
        have HQ0 := Lib.hid q0
        have HQ1 := Lib.hid q1
        clear q0 q1
        go_wp2
        subst hQ
        refine bodyPost_ret (v := .tuple #[.agg (pgC A c B d p), .int .i64 0]) (by simp [results, Tryd.results25, go_sem, HQ0.out, HQ1.out]) rfl ?_
        rw [HP0.out, HC0.out]
        refine ⟨A, c, B, d, rfl, ?_, below_res (below_res HB7.out (Nat.le_refl _) _ _) (Nat.le_refl _) _ _⟩
        have hkf := (HKK7.out.trans (Kept.put w7 w.heap.size 0 (.slice A p.rs.length c)) (fun _ _ e => e)).trans (Kept.put _ w.heap.size 1 (.slice B p.ts.length d)) (fun _ _ e => e)
        obtain ⟨A', c', B', d', e1, e2, hpg⟩ := own_pg (owns_kept HOR.out hkf (fun r cur hr _ (e : r = w.heap.size) => by have := (own_lt HOR.out hr).1; omega)) (owns_kept HOT.out hkf (fun r cur hr _ (e : r = w.heap.size) => by have := (own_lt HOT.out hr).1; omega)) (HOI.out.kept' hkf (by omega))
        cases e1
        cases e2
        exact hpg
end Go.Proofs.YtebgcehcnenjiaaDoor
