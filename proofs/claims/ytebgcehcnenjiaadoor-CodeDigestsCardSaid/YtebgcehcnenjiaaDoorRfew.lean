/-
  The document's Few: has a program few threads, of few instructions?
-/
import Derived.Test.YtebgcehcnenjiaaDoorCode2
namespace Go.Proofs.YtebgcehcnenjiaaDoor
open Go.RowKit
set_option linter.unusedVariables false
set_option linter.unusedSimpArgs false
def sumL (ts : List (List In)) : Nat := (ts.map List.length).sum
def fewB (p : Pg) (m : Nat) : Bool := decide (p.rs.length ≤ 10 ∧ p.ts.length ≤ 10 ∧ (∀ l ∈ p.ts, l.length ≤ m) ∧ sumL p.ts ≤ m)
theorem sumL_next {ts : List (List In)} {t : Nat} {l : List In} (h : ts[t]? = some l) : sumL (ts.take (t + 1)) = sumL (ts.take t) + l.length := by
  unfold sumL
  rw [List.take_add_one, h]
  simp
set_option maxHeartbeats 4000000 in
set_option maxRecDepth 100000 in
theorem rfFew (p : Pg) (m : Nat) (A : Option Addr) (c : Nat) (B : Option Addr) (d : Nat) (w : World) (h : PgAt w A c B d p) (hm : m ≤ 1000) :
    Calls Tryd.prog 18 #[.agg (pgC A c B d p), .int .i64 (m : Int)] w fun e w' => e = .returned (.bool (fewB p m)) ∧ Below w.heap.size w w' := by
  obtain ⟨hc1, hc2⟩ := seq_form h.1
  obtain ⟨hd1, hd2⟩ := h.2.form
  have hb0 : Below w.heap.size w (w.alloc (.cells (pgC A c B d p) 35)) := (Below.refl _ _).alloc (Nat.le_refl _) _
  have l0 := Lies.made w 35 (pgC A c B d p)
  have HH := Lib.hid h.2
  have HB0 := Lib.hid hb0
  have HL0 := Lib.hid l0
  have HE : Hid (fewB p m = _) := show fewB p m = _ by unfold fewB; rfl
  clear h hb0 l0
  by_cases h1 : 10 < p.rs.length
  · have HF : Hid (fewB p m = false) := HE.out.trans (decide_eq_false (fun h => by omega))
    have e1 : decide ((10 : Int) < (p.rs.length : Int)) = true := by simp; omega
    clear HE h1
    go_enter Tryd.func18, Tryd.ntmps18
    go_wp2
    go_ret
    exact ⟨ret_bool (by rw [HF.out]), HB0.out⟩
  have e1 : decide ((10 : Int) < (p.rs.length : Int)) = false := by simp; omega
  by_cases h2 : 10 < p.ts.length
  · have HF : Hid (fewB p m = false) := HE.out.trans (decide_eq_false (fun h => by omega))
    have e2 : decide ((10 : Int) < (p.ts.length : Int)) = true := by simp; omega
    clear HE h1 h2
    go_enter Tryd.func18, Tryd.ntmps18
    go_wp2
    go_ret
    exact ⟨ret_bool (by rw [HF.out]), HB0.out⟩
  have e2 : decide ((10 : Int) < (p.ts.length : Int)) = false := by simp; omega
  go_enter Tryd.func18, Tryd.ntmps18
  go_wp2_with fail
  generalize w.alloc (.cells (pgC A c B d p) 35) = w1 at *
  have c1 := (HL0.out.cell 1).trans (show _ = some (Value.slice B p.ts.length d) from rfl)
  have hl1 := HL0.out.lt
  go_loopw [5, 6] (fun v u wr => ∃ k s : Nat, k ≤ p.ts.length ∧ u = .int .i64 k ∧ v = .int .i64 s ∧ s ≤ k * m ∧ Hid (s = sumL (p.ts.take k)) ∧ Hid (∀ l ∈ p.ts.take k, l.length ≤ m) ∧ wr = w1) (fun _ u _ => p.ts.length - (intOf u).toNat)
  case atStart => exact ⟨0, 0, by omega, rfl, rfl, by omega, rfl, fun l hl => by simp at hl, rfl⟩
  case round =>
    obtain ⟨k, s, hk, rfl, rfl, hs, hsum, hall, rfl⟩ := hrel
    have hkm : k * m ≤ 10 * m := Nat.mul_le_mul_right m (by omega)
    have hs1 : s ≤ 10000 := by omega
    have HKM := Lib.hid hkm
    have HS := Lib.hid hs
    clear hkm hs
    by_cases hlt : k < p.ts.length
    · have hki : (k : Int) < (p.ts.length : Int) := by omega
      obtain ⟨l, hl⟩ : ∃ l, p.ts[k]? = some l := ⟨_, List.getElem?_eq_getElem hlt⟩
      obtain ⟨b, off, B2, d2, rfl, g0, hil⟩ := (HH.out.later HB0.out).at_ hl
      obtain ⟨hc3, hc4⟩ := seq_form hil
      have HLM := Lib.hid (List.mem_of_getElem? hl)
      have HSN := Lib.hid (sumL_next hl)
      have HT := Lib.hid (show p.ts.take (k + 1) = p.ts.take k ++ [l] by rw [List.take_add_one, hl]; rfl)
      clear hil hl
      by_cases hlm : m < l.length
      · have HF : Hid (fewB p m = false) := HE.out.trans (decide_eq_false (fun h => by have := h.2.2.1 l HLM.out; omega))
        have e3 : decide ((m : Int) < (l.length : Int)) = true := by simp; omega
        have e4 : decide (m < l.length) = true := by simpa using hlm
        clear HE hlm
        go_wp2
        go_ret
        exact ⟨ret_bool (by rw [HF.out]), HB0.out⟩
      have e3 : decide ((m : Int) < (l.length : Int)) = false := by simp; omega
      have e4 : decide (m < l.length) = false := by simpa using hlm
      have hll : l.length ≤ 1000 := by omega
      have HSZ : Hid (s + l.length ≤ (k + 1) * m) := by have := HS.out; show _ ≤ _; rw [Nat.add_mul]; omega
      have HS1 : Hid (s + l.length = sumL (p.ts.take (k + 1))) := by show _ = _; rw [HSN.out, hsum.out]
      have HA1 : Hid (∀ q ∈ p.ts.take (k + 1), q.length ≤ m) := fun q hq => by
        rw [HT.out] at hq
        rcases List.mem_append.1 hq with hq | hq
        · exact hall.out q hq
        · simp at hq; subst hq; omega
      clear hlm hsum hall
      go_wp2
      go_roundw
      case rel => exact ⟨k + 1, s + l.length, by omega, by go_num, by go_num, HSZ.out, HS1, HA1, trivial⟩
      case measure => simp [intOf]; omega
    · obtain rfl : k = p.ts.length := by omega
      have hsum := hsum.out
      have hall := hall.out
      rw [List.take_length] at hsum hall
      have HF : Hid (fewB p m = decide (s ≤ m)) := by
        show _ = _
        rw [HE.out, Bool.eq_iff_iff, decide_eq_true_eq, decide_eq_true_eq, hsum]
        exact ⟨fun h => h.2.2.2, fun h => ⟨by omega, by omega, hall, h⟩⟩
      clear HE hsum hall
      go_wp2
      go_ret
      exact ⟨ret_bool (by rw [HF.out]), HB0.out⟩
end Go.Proofs.YtebgcehcnenjiaaDoor
