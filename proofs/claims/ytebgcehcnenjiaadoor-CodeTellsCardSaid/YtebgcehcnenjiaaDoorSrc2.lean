/-
  A source's thread (layer 9).
-/
import Derived.Test.YtebgcehcnenjiaaDoorSrc
import Derived.Test.YtebgcehcnenjiaaDoorCopy2
namespace Go.Proofs.YtebgcehcnenjiaaDoor
open Go.RowKit
set_option linter.unusedVariables false
set_option linter.unusedSimpArgs false
def inRd (s : ByteArray) (i : Nat) (f : Bool) : In × Nat × Bool :=
  (⟨(byV s i : Nat), (byV s (byI s i) : Nat), (byV s (byI s (byI s i)) : Nat), (byV s (byI s (byI s (byI s i))) : Nat), (byV s (byI s (byI s (byI s (byI s i)))) : Nat), nuV s (byI s (byI s (byI s (byI s (byI s i)))))⟩,
    nuI s (byI s (byI s (byI s (byI s (byI s i))))),
    nuF s (byI s (byI s (byI s (byI s (byI s i))))) (byF s (byI s (byI s (byI s (byI s i)))) (byF s (byI s (byI s (byI s i))) (byF s (byI s (byI s i)) (byF s (byI s i) (byF s i f))))))
def insRd (s : ByteArray) (i : Nat) (f : Bool) : Nat → List In × Nat × Bool
  | 0 => ([], i, f)
  | c + 1 => ((insRd s i f c).1 ++ [(inRd s (insRd s i f c).2.1 (insRd s i f c).2.2).1], (inRd s (insRd s i f c).2.1 (insRd s i f c).2.2).2)
def thRd (s : ByteArray) (i : Nat) (f : Bool) : List In × Nat × Bool :=
  insRd s (nuI s i) (nuF s i f || decide (256 < nuV s i)) (coV (nuV s i) 256 (nuF s i f))
theorem insRd_length (s : ByteArray) (i : Nat) (f : Bool) : ∀ c, (insRd s i f c).1.length = c
  | 0 => rfl
  | c + 1 => by
    show ((insRd s i f c).1 ++ [_]).length = c + 1
    rw [List.length_append, insRd_length s i f c]; rfl
theorem coV_le (n m : Nat) (f : Bool) : coV n m f ≤ m := by
  unfold coV
  split
  · omega
  · rename_i h
    simp only [Bool.or_eq_true, decide_eq_true_eq, not_or] at h
    omega
theorem owns_two {w w' : World} {G g : Nat} {s : ByteArray} {i : Nat} {f : Bool} {B n : Nat} {v : Value} {xs : List Value} (h : w.ownsRow B 24 6 v n xs) (hI : InAt w G g s i f) (hk : Kept (twoRows g G) w w') : w'.ownsRow B 24 6 v n xs :=
  owns_kept h hk (fun r cur hr hl e => by
    rcases e with e | e
    · subst e; exact absurd (hl.same hI.2.1).1 (by decide)
    · subst e; exact absurd (hl.same hI.1).1 (by decide))
set_option maxHeartbeats 8000000 in
set_option maxRecDepth 100000 in
theorem srcThread (G g : Nat) (s : ByteArray) (i : Nat) (f : Bool) (w : World) (h : InAt w G g s i f) : Calls Tryd.prog 52 #[.pointer (some ⟨G, 0, none⟩)] w fun e w' =>
    ∃ v, e = .returned v ∧ OwnIn w' w.heap.size v (thRd s i f).1 ∧ InAt w' G g s (thRd s i f).2.1 (thRd s i f).2.2 ∧ Kept (twoRows g G) w w' := by
  have HH := Lib.hid h
  have HT : Hid (thRd s i f = insRd s (nuI s i) (nuF s i f || decide (256 < nuV s i)) (coV (nuV s i) 256 (nuF s i f))) := rfl
  clear h
  go_enter Tryd.func52, Tryd.ntmps52
  go_wp2_with fail
  refine (srcNumber G g s i f w HH.out).mono ?_
  rintro e w1 ⟨rfl, hin, hk⟩
  have HI := Lib.hid hin
  have HK := Lib.hid hk
  clear hin hk HH
  go_wp2_with fail
  refine (srcCount G g s _ _ (nuV s i) 256 w1 HI.out (by omega)).mono ?_
  rintro e w2 ⟨rfl, hin, hk⟩
  replace HI := Lib.hid hin
  replace HK := Lib.hid (HK.out.trans hk (fun _ _ e => e))
  clear hin hk
  have hcl := coV_le (nuV s i) 256 (nuF s i f)
  generalize coV (nuV s i) 256 (nuF s i f) = C at *
  generalize (nuF s i f || decide (256 < nuV s i)) = F0 at *
  generalize nuI s i = J0 at *
  go_wp2_with fail
  go_loopw [8, 3] (fun u v wr => ∃ k : Nat, k ≤ C ∧ u = .int .i64 k ∧ Hid (wr.ownsRow w.heap.size 24 6 v k (rowsOf inF (insRd s J0 F0 k).1)) ∧ Hid (InAt wr G g s (insRd s J0 F0 k).2.1 (insRd s J0 F0 k).2.2) ∧ Hid (Kept (twoRows g G) w wr)) (fun u _ _ => C - (intOf u).toNat)
  case atStart => exact ⟨0, by omega, rfl, World.ownsRow_nil _ _ _ _, HI, HK⟩
  case round =>
    clear HI HK
    obtain ⟨k, hk, rfl, HO, HI, HK⟩ := hrel
    obtain ⟨A9, c9, rfl⟩ := own_slice HO.out
    by_cases hlt : k < C
    · have hki : (k : Int) < (C : Int) := by omega
      have HN : Hid (insRd s J0 F0 (k + 1) = ((insRd s J0 F0 k).1 ++ [(inRd s (insRd s J0 F0 k).2.1 (insRd s J0 F0 k).2.2).1], (inRd s (insRd s J0 F0 k).2.1 (insRd s J0 F0 k).2.2).2)) := rfl
      generalize insRd s J0 F0 k = q at *
      obtain ⟨L, j, fl⟩ := q
      dsimp only at HO HI HN
      go_wp2_with fail
      refine (srcByte G g s _ _ _ HI.out).mono ?_
      rintro e wn ⟨rfl, hin, hk⟩
      replace HO := Lib.hid (owns_two HO.out HI.out hk)
      replace HK := Lib.hid (HK.out.trans hk (fun _ _ e => e))
      replace HI := Lib.hid hin
      clear hin hk
      go_wp2_with fail
      refine (srcByte G g s _ _ _ HI.out).mono ?_
      rintro e wn ⟨rfl, hin, hk⟩
      replace HO := Lib.hid (owns_two HO.out HI.out hk)
      replace HK := Lib.hid (HK.out.trans hk (fun _ _ e => e))
      replace HI := Lib.hid hin
      clear hin hk
      go_wp2_with fail
      refine (srcByte G g s _ _ _ HI.out).mono ?_
      rintro e wn ⟨rfl, hin, hk⟩
      replace HO := Lib.hid (owns_two HO.out HI.out hk)
      replace HK := Lib.hid (HK.out.trans hk (fun _ _ e => e))
      replace HI := Lib.hid hin
      clear hin hk
      go_wp2_with fail
      refine (srcByte G g s _ _ _ HI.out).mono ?_
      rintro e wn ⟨rfl, hin, hk⟩
      replace HO := Lib.hid (owns_two HO.out HI.out hk)
      replace HK := Lib.hid (HK.out.trans hk (fun _ _ e => e))
      replace HI := Lib.hid hin
      clear hin hk
      go_wp2_with fail
      refine (srcByte G g s _ _ _ HI.out).mono ?_
      rintro e wn ⟨rfl, hin, hk⟩
      replace HO := Lib.hid (owns_two HO.out HI.out hk)
      replace HK := Lib.hid (HK.out.trans hk (fun _ _ e => e))
      replace HI := Lib.hid hin
      clear hin hk
      go_wp2_with fail
      refine (srcNumber G g s _ _ _ HI.out).mono ?_
      rintro e wn ⟨rfl, hin, hk⟩
      replace HO := Lib.hid (owns_two HO.out HI.out hk)
      replace HK := Lib.hid (HK.out.trans hk (fun _ _ e => e))
      replace HI : Hid (InAt wn G g s (inRd s j fl).2.1 (inRd s j fl).2.2) := hin
      clear hin hk
      have hbs := HK.out.size
      go_wp2_with (at_builtin; refine append_oneS _ (inC (inRd s j fl).1) 6 rfl (.tmp 10) (.tmp 24) 51 rfl w.heap.size 24 _ 48 Tryd.underlying51 Tryd.infoIn rfl (by decide) rfl (fun u hu => by simp [inC] at hu; rcases hu with rfl | rfl | rfl | rfl | rfl | rfl <;> rfl) _ k _ rfl HO.out rfl (by unfold maxLen; omega) (by omega) hbs ?_)
      intro v' w' ho hb hgr
      have hk9 := kept_grown hgr
      have HI9 : Hid (InAt w' G g s (inRd s j fl).2.1 (inRd s j fl).2.2) := ⟨HI.out.1.kept hk9 (fun e => own_ne HO.out HI.out.1 (by decide) e), HI.out.2.1.kept hk9 (fun e => own_ne HO.out HI.out.2.1 (by decide) e), HI.out.2.2⟩
      have HK9 := Lib.hid (HK.out.trans hk9 (fun r hr e => by have := (own_lt HO.out e).1; omega))
      have HO9 : Hid (w'.ownsRow w.heap.size 24 6 v' (k + 1) (rowsOf inF (insRd s J0 F0 (k + 1)).1)) := by
        rw [HN.out]
        show World.ownsRow _ _ _ _ _ _ _
        unfold rowsOf
        rw [List.flatMap_append]
        simpa [rowsOf, inF, inC] using ho
      have HI10 : Hid (InAt w' G g s (insRd s J0 F0 (k + 1)).2.1 (insRd s J0 F0 (k + 1)).2.2) := by rw [HN.out]; exact HI9
      clear ho hb hgr hk9 HI9 HO HI HK
      go_wp2
      go_roundw
      case rel => exact ⟨k + 1, by omega, by go_num, HO9, HI10, HK9⟩
      case measure => simp [intOf]; omega
    · obtain rfl : k = C := by omega
      have HL := Lib.hid (insRd_length s J0 F0 k)
      go_wp2
      go_ret
      exact ⟨_, rfl, by rw [HT.out]; show World.ownsRow _ _ _ _ _ _ _; rw [HL.out]; exact HO.out, by rw [HT.out]; exact HI.out, HK.out⟩
end Go.Proofs.YtebgcehcnenjiaaDoor
