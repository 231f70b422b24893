/-
  What the law asks of the document's example first.
-/
import Derived.Test.YteecfffgigaomaaRf11e
import Derived.Test.YteecfffgigaomaaRf11c
namespace Go.Proofs.Yteecfffgigaomaa
open Go.RowKit
set_option linter.unusedVariables false
set_option linter.unusedSimpArgs false
def sampT (ring : Int) : List In := [⟨16, 0, 0, 0, 0, 2⟩, ⟨20, 0, 0, ring, 0, 0⟩, ⟨25, 0, 0, 0, 0, 0⟩, ⟨24, 0, 0, 0, 0, 0⟩]
def sampP (ring : Int) : Pg := ⟨[⟨1, 1, 1⟩], [sampT ring]⟩
/-- A program of the call's own. -/
def PgOut (w : World) (p : Pg) (e : Ending) (w' : World) : Prop := ∃ A c B d, e = .returned (.agg (pgC A c B d p)) ∧ PgAt w' A c B d p ∧ Below w.heap.size w w'
theorem seq_litS {w : World} {g n sz : Nat} {T : TypeId} {cs : Array Value} (h : Lies w g T cs) (hn : cs.size = n * sz) (hm : n ≤ 1000000) : SeqS w sz (.slice (some ⟨g, 0, none⟩) n n) n cs.toList :=
  ⟨by simpa using hn, _, _, rfl, Nat.le_refl _, by unfold maxLen; omega, (fun h => by cases h), fun k u hu => ⟨g, 0, rfl, by rw [Nat.zero_add, h.cell]; simpa using hu⟩⟩
theorem Lies.at_ {w : World} {t : TypeId} {cs : Array Value} {g : Nat} (h : w.heap.size = g) : Lies (w.alloc (.cells cs t)) g t cs := by subst h; exact Lies.made _ _ _
set_option maxHeartbeats 4000000 in
set_option maxRecDepth 100000 in
theorem sample_any (ring : Int) (w : World) : Calls Try.prog 22 #[.int .i64 ring] w (PgOut w (sampP ring)) := by
  go_enter Try.func22, Try.ntmps22
  go_wp2
  refine bodyPost_ret (v := .agg #[.slice (some ⟨w.heap.size + 1, 0, none⟩) 1 1, .slice (some ⟨w.heap.size + 1 + 1 + 1, 0, none⟩) 1 1]) (by simp [results, Try.results22, go_sem]) rfl ?_
  refine ⟨some ⟨w.heap.size + 1, 0, none⟩, 1, some ⟨w.heap.size + 1 + 1 + 1, 0, none⟩, 1, rfl, ⟨?_, [.slice (some ⟨w.heap.size + 1 + 1, 0, none⟩) 4 4], ?_, ?_⟩, ?_⟩
  · exact seq_litS (n := 1) (sz := 3) (((Lies.at_ (by simp)).alloc _).alloc _) rfl (by omega)
  · exact seq_litS (n := 1) (sz := 1) (Lies.at_ (by simp)) rfl (by omega)
  · intro i l hl
    match i, hl with
    | 0, hl =>
      have e : sampT ring = l := by simpa [sampP] using hl
      subst e
      exact ⟨some ⟨w.heap.size + 1 + 1, 0, none⟩, 4, rfl, seq_litS (n := 4) (sz := 6) ((Lies.at_ (by simp)).alloc _) rfl (by omega)⟩
    | i + 1, hl => simp [sampP] at hl
  · exact ((((Below.refl _ _).alloc (Nat.le_refl _) _).alloc (by simp) _).alloc (by simp; omega) _).alloc (by simp; omega) _
/-! ## What the document's example comes to -/
theorem samp_ok (ring : Int) (h : i64 ring) : pgOk (sampP ring) := by
  refine ⟨fun x hx => ?_, fun l hl x hx => ?_⟩
  · simp [sampP] at hx
    subst hx
    exact ⟨⟨by decide, by decide⟩, ⟨by decide, by decide⟩, ⟨by decide, by decide⟩⟩
  · simp [sampP] at hl
    subst hl
    simp [sampT] at hx
    obtain ⟨h1, h2⟩ := h
    rcases hx with rfl | rfl | rfl | rfl
    all_goals
      refine ⟨?_, ?_, ?_, ?_, ?_, ?_⟩
      all_goals (first | exact ⟨h1, h2⟩ | (show i64 (16 : Int); exact ⟨by decide, by decide⟩) | (show i64 (20 : Int); exact ⟨by decide, by decide⟩) | (show i64 (25 : Int); exact ⟨by decide, by decide⟩) | (show i64 (24 : Int); exact ⟨by decide, by decide⟩) | (show i64 (0 : Int); exact ⟨by decide, by decide⟩) | (show (2 : Nat) ≤ _; omega) | (show (0 : Nat) ≤ _; omega))
theorem samp0 : checkR (sampP 0) = (0, 0, 0) := by decide +kernel
theorem samp1 : checkR (sampP 1) = (0, 1, 7) := by decide +kernel
theorem sampR0 : rightP (sampP 0) = true := by decide +kernel
theorem sampR1 : rightP (sampP 1) = false := by decide +kernel
theorem none0 : checkR ⟨[], []⟩ = (0, 0, 1) := by decide +kernel
theorem sampN0 : namesE (sampP 0) 0 = 0 := by decide +kernel
theorem sampN1 : namesE (sampP 0) 1 = 5 := by decide +kernel
theorem sampN2 : namesE (sampP 1) 0 = 1 := by decide +kernel
theorem samp_in : Rch (sampT 0) 0 ∧ Rch (sampT 0) 1 ∧ Rch (sampT 0) 2 :=
  ⟨.zero, .next .zero (by decide), .next .zero (by decide)⟩
theorem samp_out {a : Nat} (h : Rch (sampT 0) a) : a ≤ 2 := by
  induction h with
  | zero => omega
  | @next a b _ hb ih =>
    have : a = 0 ∨ a = 1 ∨ a = 2 := by omega
    rcases this with rfl | rfl | rfl
    · have : b ∈ [2, 1] := hb
      simp at this; omega
    · have : b ∈ [2] := hb
      simp at this; omega
    · have : b ∈ ([] : List Nat) := hb
      cases this
theorem rchB_false {l : List In} {a : Nat} (h : ¬ Rch l a) : rchB l a = false := by
  cases hb : rchB l a with
  | false => rfl
  | true => exact absurd (rchB_true.1 hb) h
theorem samp_rch : rchL (sampT 0) = [true, true, true, false, false] := by
  have h0 := rchB_true.2 samp_in.1
  have h1 := rchB_true.2 samp_in.2.1
  have h2 := rchB_true.2 samp_in.2.2
  have h3 : rchB (sampT 0) 3 = false := rchB_false (fun h => by have := samp_out h; omega)
  have h4 : rchB (sampT 0) 4 = false := rchB_false (fun h => by have := samp_out h; omega)
  show [rchB (sampT 0) 0, rchB (sampT 0) 1, rchB (sampT 0) 2, rchB (sampT 0) 3, rchB (sampT 0) 4] = _
  rw [h0, h1, h2, h3, h4]
theorem samp_ends : endsB (sampT 0) = true := endsB_some (a := 2) (by decide) (by
  unfold endsAt
  rw [rchB_true.2 samp_in.2.2]; decide)
theorem samp_touch : touchL (sampT 0) = [0] := by
  have h0 : touchTo (sampT 0) 4 0 = true := by
    unfold touchTo
    rw [List.any_eq_true]
    refine ⟨1, by decide, ?_⟩
    unfold touchAt
    rw [rchB_true.2 samp_in.2.1]; decide
  have hn : ∀ r, 1 ≤ r → touchTo (sampT 0) 4 r = false := fun r hr => by
    unfold touchTo
    rw [List.any_eq_false]
    intro a ha
    have ha := List.mem_range.1 ha
    unfold touchAt
    have h2 : (((sampT 0).getD a default).c == (r : Int)) = false := by
      rw [beq_eq_false_iff_ne]
      match a, ha with
      | 0, _ => show (0 : Int) ≠ _; omega
      | 1, _ => show (0 : Int) ≠ _; omega
      | 2, _ => show (0 : Int) ≠ _; omega
      | 3, _ => show (0 : Int) ≠ _; omega
    rw [h2, Bool.and_false, Bool.and_false]; decide
  show [0, 1, 2, 3, 4, 5, 6, 7].filter (touchTo (sampT 0) 4) = [0]
  simp [List.filter, h0, hn]
end Go.Proofs.Yteecfffgigaomaa
