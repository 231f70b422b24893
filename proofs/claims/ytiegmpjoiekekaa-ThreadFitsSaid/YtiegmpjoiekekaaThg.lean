/-
  As many plain instructions as there are (layer 16): the math of it, and thread.advance.
-/
import Derived.Test.YtiegmpjoiekekaaThp2
namespace Go.Proofs.Ytiegmpjoiekekaa
open Go.RowKit
set_option linter.unusedVariables false
set_option linter.unusedSimpArgs false
def atT (l : List In) (x : Th) : In := l.getD x.at_.toNat default
def plT (l : List In) (x : Th) : Bool := decide (x.at_ < (l.length : Int)) && (decide (1 ≤ (atT l x).op) && decide ((atT l x).op ≤ 17))
def goT (l : List In) : Nat → Th → Th
  | 0, x => x
  | n + 1, x => if plT l x then goT l n (stepT (atT l x) x) else x
def InvT (l : List In) (x : Th) : Prop := 0 ≤ x.at_ ∧ x.at_ ≤ (l.length : Int) ∧ ∀ j, x.r j ≤ 18446744073709551615
theorem goT_stop {l : List In} {x : Th} (h : plT l x = false) (n : Nat) : goT l n x = x := by
  cases n with
  | zero => rfl
  | succ n => show (if plT l x then _ else x) = x; rw [h]; rfl
theorem goT_step {l : List In} {x : Th} (h : plT l x = true) (n : Nat) : goT l (n + 1) x = goT l n (stepT (atT l x) x) := by
  show (if plT l x then _ else x) = _; rw [h]; rfl
theorem setR_le {x : Th} (h : ∀ j, x.r j ≤ 18446744073709551615) {i u : Nat} (hu : u ≤ 18446744073709551615) : ∀ j, (setR x i u).r j ≤ 18446744073709551615 := by
  intro j
  show (if j = i then u else x.r j) ≤ _
  split
  · exact hu
  · exact h j
theorem codeB_parts {l : List In} (h : codeB l = true) : l.length ≤ 256 ∧ ∀ y ∈ l, rightB y = true ∧ (jumpsB y.op = true → y.k ≤ l.length) := by
  unfold codeB at h
  rw [Bool.and_eq_true, decide_eq_true_eq, List.all_eq_true] at h
  refine ⟨h.1, fun y hy => ?_⟩
  have := h.2 y hy
  unfold cdX at this
  rw [Bool.and_eq_true, Bool.not_eq_true', Bool.and_eq_false_iff] at this
  refine ⟨this.1, fun hj => ?_⟩
  rcases this.2 with e | e
  · rw [hj] at e; cases e
  · rw [decide_eq_false_iff_not] at e; omega
theorem step_inv {l : List In} {x : Th} {i : In} (hi : InvT l x) (hlt : x.at_ < (l.length : Int)) (hk : i.k ≤ 18446744073709551615) (hj : jumpsB i.op = true → i.k ≤ l.length) : InvT l (stepT i x) := by
  obtain ⟨h0, h1, h2⟩ := hi
  have hg : 0 ≤ (goOn x).at_ ∧ (goOn x).at_ ≤ (l.length : Int) := by show 0 ≤ x.at_ + 1 ∧ x.at_ + 1 ≤ _; omega
  have hjump : jumpsB i.op = true → InvT l { x with at_ := (i.k : Int) } := fun e => ⟨by show (0 : Int) ≤ (i.k : Int); omega, by have := hj e; show (i.k : Int) ≤ _; omega, h2⟩
  unfold stepT
  split
  · exact ⟨hg.1, hg.2, setR_le h2 hk⟩
  split
  · exact ⟨hg.1, hg.2, setR_le h2 (h2 _)⟩
  split
  case isTrue h => exact hjump (by rw [h]; rfl)
  split
  case isTrue h =>
    split
    · exact hjump (by rw [h]; rfl)
    · exact ⟨hg.1, hg.2, h2⟩
  split
  case isTrue h =>
    split
    · exact hjump (by rw [h]; rfl)
    · exact ⟨hg.1, hg.2, h2⟩
  refine ⟨hg.1, hg.2, setR_le h2 ?_⟩
  have hb := h2 i.b.toNat
  have hc := h2 i.c.toNat
  have := doV_u64 i.op (x.r i.b.toNat : Int) (x.r i.c.toNat : Int) ⟨by omega, by omega⟩ ⟨by omega, by omega⟩
  unfold U64 at this
  omega
/-- What a plain instruction leaves as it was. -/
theorem step_rest (i : In) (x : Th) : (stepT i x).ph = x.ph ∧ (stepT i x).rg = x.rg ∧ (stepT i x).st = x.st ∧ (stepT i x).tk = x.tk ∧ (stepT i x).sn = x.sn := by
  unfold stepT
  (repeat' split) <;> exact ⟨rfl, rfl, rfl, rfl, rfl⟩
theorem goT_rest (l : List In) (n : Nat) : ∀ x, (goT l n x).ph = x.ph ∧ (goT l n x).rg = x.rg ∧ (goT l n x).st = x.st ∧ (goT l n x).tk = x.tk ∧ (goT l n x).sn = x.sn := by
  induction n with
  | zero => exact fun _ => ⟨rfl, rfl, rfl, rfl, rfl⟩
  | succ n ih =>
    intro x
    obtain ⟨a1, a2, a3, a4, a5⟩ := step_rest (atT l x) x
    obtain ⟨b1, b2, b3, b4, b5⟩ := ih (stepT (atT l x) x)
    cases hp : plT l x with
    | false => rw [goT_stop hp]; exact ⟨rfl, rfl, rfl, rfl, rfl⟩
    | true => rw [goT_step hp]; exact ⟨b1.trans a1, b2.trans a2, b3.trans a3, b4.trans a4, b5.trans a5⟩
theorem atT_get {l : List In} {x : Th} {an : Nat} {i : In} (ha : x.at_ = an) (hi : l[an]? = some i) : atT l x = i := by
  unfold atT
  rw [ha, Int.toNat_natCast, List.getD_eq_getElem?_getD, hi]; rfl
theorem goT_inv {l : List In} (hc : codeB l = true) (hok : ∀ i ∈ l, inOk i) (n : Nat) : ∀ x, InvT l x → InvT l (goT l n x) := by
  obtain ⟨hlen, hall⟩ := codeB_parts hc
  induction n with
  | zero => exact fun _ h => h
  | succ n ih =>
    intro x hx
    cases hp : plT l x with
    | false => rw [goT_stop hp]; exact hx
    | true =>
      rw [goT_step hp]
      refine ih _ ?_
      have hp2 := hp
      unfold plT at hp2
      rw [Bool.and_eq_true, decide_eq_true_eq] at hp2
      obtain ⟨h0, h1, h2⟩ := id hx
      obtain ⟨an, han⟩ : ∃ n : Nat, x.at_ = n := ⟨x.at_.toNat, by omega⟩
      obtain ⟨i, hi⟩ : ∃ i, l[an]? = some i := ⟨_, List.getElem?_eq_getElem (by omega)⟩
      have hm := List.mem_of_getElem? hi
      rw [atT_get han hi]
      exact step_inv hx hp2.1 (hok i hm).2.2.2.2.2 (hall i hm).2
end Go.Proofs.Ytiegmpjoiekekaa
