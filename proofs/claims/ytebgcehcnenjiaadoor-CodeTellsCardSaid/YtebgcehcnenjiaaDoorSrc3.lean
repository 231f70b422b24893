/-
  A source's program (layer 9): its walk.
-/
import Derived.Test.YtebgcehcnenjiaaDoorRdp
import Derived.Deep.DeepCutAuto
namespace Go.Proofs.YtebgcehcnenjiaaDoor
open Go.RowKit
set_option linter.unusedVariables false
set_option linter.unusedSimpArgs false
theorem InAt.same {w : World} {G g : Nat} {s : ByteArray} {i j : Nat} {f h : Bool} (a : InAt w G g s i f) (b : InAt w G g s j h) : i = j ∧ f = h := by
  have h1 := (a.1.same b.1).2
  have h2 := (a.2.1.same b.2.1).2
  simp at h1 h2
  exact ⟨by omega, h1⟩
theorem InAt.kept' {S : Nat → Prop} {w w' : World} {G g : Nat} {s : ByteArray} {i : Nat} {f : Bool} (h : InAt w G g s i f) (k : Kept S w w') (h1 : ¬ S G) (h2 : ¬ S g) : InAt w' G g s i f :=
  ⟨h.1.kept k h1, h.2.1.kept k h2, h.2.2⟩
/-- Byte by byte: where a source stands. -/
def stB (s : ByteArray) (i : Nat) (f : Bool) : Nat → Nat × Bool
  | 0 => (i, f)
  | m + 1 => (byI s (stB s i f m).1, byF s (stB s i f m).1 (stB s i f m).2)
theorem stB_mono (s : ByteArray) (i : Nat) (f : Bool) (m : Nat) : ∀ d, (stB s i f m).1 ≤ (stB s i f (m + d)).1 ∧ ((stB s i f m).2 = true → (stB s i f (m + d)).2 = true)
  | 0 => ⟨Nat.le_refl _, fun h => h⟩
  | d + 1 => by
    obtain ⟨h1, h2⟩ := stB_mono s i f m d
    refine ⟨Nat.le_trans h1 ?_, fun h => ?_⟩
    · show _ ≤ byI s (stB s i f (m + d)).1
      unfold byI; split <;> omega
    · show byF s _ (stB s i f (m + d)).2 = true
      rw [h2 h]; rfl
theorem stB_mono' (s : ByteArray) (i : Nat) (f : Bool) {m n : Nat} (h : m ≤ n) : (stB s i f m).1 ≤ (stB s i f n).1 ∧ ((stB s i f m).2 = true → (stB s i f n).2 = true) := by
  have := stB_mono s i f m (n - m)
  rwa [show m + (n - m) = n by omega] at this
def InGe (w : World) (G g : Nat) (s : ByteArray) (i : Nat) (f : Bool) (k : Nat) : Prop := ∃ m, k ≤ m ∧ InAt w G g s (stB s i f m).1 (stB s i f m).2
def InLe (w : World) (G g : Nat) (s : ByteArray) (i : Nat) (f : Bool) (k : Nat) : Prop := ∃ m, m ≤ k ∧ InAt w G g s (stB s i f m).1 (stB s i f m).2
theorem in_is {w : World} {G g : Nat} {s : ByteArray} {i : Nat} {f : Bool} {k : Nat} (h1 : InGe w G g s i f k) (h2 : InLe w G g s i f k) : InAt w G g s (stB s i f k).1 (stB s i f k).2 := by
  obtain ⟨m, hm, a⟩ := h1
  obtain ⟨n, hn, b⟩ := h2
  obtain ⟨e1, e2⟩ := a.same b
  have q1 := stB_mono' s i f hn
  have q2 := stB_mono' s i f hm
  have e3 : (stB s i f k).1 = (stB s i f m).1 := by omega
  have e4 : (stB s i f k).2 = (stB s i f m).2 := by
    rw [Bool.eq_iff_iff]
    exact ⟨q2.2, fun h => q1.2 (by rw [← e2]; exact h)⟩
  rw [e3, e4]
  exact a
section
variable {w w' : World} {G g : Nat} {s : ByteArray} {i : Nat} {f : Bool} {k : Nat}
theorem InGe.step (h : InGe w G g s i f k) {m : Nat} (a : InAt w G g s (stB s i f m).1 (stB s i f m).2) (b : InAt w' G g s (stB s i f (m + 1)).1 (stB s i f (m + 1)).2) : InGe w' G g s i f k := by
  obtain ⟨n, hn, c⟩ := h
  obtain ⟨e1, e2⟩ := a.same c
  refine ⟨n + 1, by omega, ?_⟩
  have : stB s i f (n + 1) = stB s i f (m + 1) := by
    show (byI s (stB s i f n).1, byF s (stB s i f n).1 (stB s i f n).2) = (byI s (stB s i f m).1, byF s (stB s i f m).1 (stB s i f m).2)
    rw [e1, e2]
  rw [this]; exact b
end
theorem own_apart {w : World} {B n sz : Nat} {v : Value} {xs : List Value} {e t : TypeId} {b : Nat} {cs : Array Value} (h : w.ownsRow B e sz v n xs) (hl : Lies w b t cs) (hne : e ≠ t) {r : Nat} (hr : v.ownBlock = some r) : r ≠ b := by
  intro e2
  subst e2
  exact own_ne h hl hne hr
/-- How memory stands in the course of a ring's reading. -/
structure RrS (w0 w : World) (G g : Nat) (s : ByteArray) (i : Nat) (f : Bool) : Prop where
  kep : Kept (twoRows g G) w0 w
  at_ : InLe w G g s i f 3
  res : Lies w w0.heap.size 35 #[.slice none 0 0, .slice none 0 0]
def rrV (w0 : World) (G g : Nat) (s : ByteArray) (i : Nat) (f : Bool) (n3 : Nat) (vr : Value) (L : List Ri) (x : Ri) : Nat → Value → World → Prop
  | 0, v, _ => v = .pointer (some ⟨n3, 0, none⟩)
  | 1, v, _ => v = vr
  | 2, v, _ => v = .pointer (some ⟨G, 0, none⟩)
  | 3, v, w => v = .int .i64 x.k ∧ InGe w G g s i f 1
  | 4, v, _ => v = .pointer (some ⟨G, 0, none⟩)
  | 5, v, w => v = .int .i64 x.c ∧ InGe w G g s i f 2
  | 6, v, _ => v = .pointer (some ⟨G, 0, none⟩)
  | 7, v, w => v = .int .i64 x.r ∧ InGe w G g s i f 3
  | 8, v, _ => v = .agg (riC x)
  | 9, v, w => ∃ b, v = .slice (some ⟨b, 0, none⟩) 1 1 ∧ Lies w b 67 (riC x)
  | 10, v, w => w.ownsRow w0.heap.size 67 3 v (L.length + 1) (rowsOf riF (L ++ [x]))
  | 11, v, _ => v = .pointer (some ⟨n3, 0, none⟩)
  | 12, _, w => ∃ v, Lies w n3 35 #[v, .slice none 0 0] ∧ w.ownsRow w0.heap.size 67 3 v (L.length + 1) (rowsOf riF (L ++ [x]))
  | 13, _, w => Lies w n3 35 #[vr, .slice none 0 0]
  | 14, _, w => w.ownsRow w0.heap.size 67 3 vr L.length (rowsOf riF L)
  | 15, _, w => InLe w G g s i f 0
  | 16, _, w => InLe w G g s i f 1
  | 17, _, w => InLe w G g s i f 2
  | _, _, _ => True
section
variable {w0 w w' : World} {G g : Nat} {s : ByteArray} {i : Nat} {f : Bool} {n3 : Nat} {vr : Value} {L : List Ri} {x : Ri} {k : Nat}
/-- A byte is read. -/
theorem rrV_call (hk : Kept (twoRows g G) w w') (a : InAt w G g s (stB s i f k).1 (stB s i f k).2) (b : InAt w' G g s (stB s i f (k + 1)).1 (stB s i f (k + 1)).2) {j : Nat} {u : Value} (hj : (j < 15 ∨ 15 + k < j)) (h : rrV w0 G g s i f n3 vr L x j u w) : rrV w0 G g s i f n3 vr L x j u w' := by
  have far : ∀ {b2 : Nat} {t : TypeId} {cs : Array Value}, t ≠ 79 → t ≠ 88 → Lies w b2 t cs → Lies w' b2 t cs := fun h1 h2 hl => hl.kept hk (fun e => by
    rcases e with e | e
    · subst e; exact h2 (hl.same a.2.1).1
    · subst e; exact h1 (hl.same a.1).1)
  have fo : ∀ {v : Value} {n : Nat} {xs : List Value}, w.ownsRow w0.heap.size 67 3 v n xs → w'.ownsRow w0.heap.size 67 3 v n xs := fun ho => owns_kept ho hk (fun r cur hr hl e => by
    rcases e with e | e
    · subst e; exact absurd (hl.same a.2.1).1 (by decide)
    · subst e; exact absurd (hl.same a.1).1 (by decide))
  match j, hj with
  | 0, _ => exact h
  | 1, _ => exact h
  | 2, _ => exact h
  | 3, _ => exact ⟨h.1, h.2.step a b⟩
  | 4, _ => exact h
  | 5, _ => exact ⟨h.1, h.2.step a b⟩
  | 6, _ => exact h
  | 7, _ => exact ⟨h.1, h.2.step a b⟩
  | 8, _ => exact h
  | 9, _ => obtain ⟨b2, e, hl⟩ := h; exact ⟨b2, e, far (by decide) (by decide) hl⟩
  | 10, _ => exact fo h
  | 11, _ => exact h
  | 12, _ => obtain ⟨v, h1, h2⟩ := h; exact ⟨v, far (by decide) (by decide) h1, fo h2⟩
  | 13, _ => exact far (by decide) (by decide) (show Lies w n3 35 #[vr, .slice none 0 0] from h)
  | 14, _ => exact fo h
  | 15, hj => omega
  | 16, hj => exact ⟨k + 1, by omega, b⟩
  | 17, hj => exact ⟨k + 1, by omega, b⟩
  | _ + 18, _ => trivial
theorem rrV_alloc (o : Obj) {j : Nat} {u : Value} (h : rrV w0 G g s i f n3 vr L x j u w) : rrV w0 G g s i f n3 vr L x j u (w.alloc o) := by
  have hb : Below w.heap.size w (w.alloc o) := (Below.refl _ _).alloc (Nat.le_refl _) _
  have fi : ∀ {a : Nat} {b : Bool}, InAt w G g s a b → InAt (w.alloc o) G g s a b := fun h => h.kept' (Kept.alloc noRow w o) (fun h => h) (fun h => h)
  match j with
  | 0 => exact h
  | 1 => exact h
  | 2 => exact h
  | 3 => obtain ⟨h1, m, h2, h3⟩ := h; exact ⟨h1, m, h2, fi h3⟩
  | 4 => exact h
  | 5 => obtain ⟨h1, m, h2, h3⟩ := h; exact ⟨h1, m, h2, fi h3⟩
  | 6 => exact h
  | 7 => obtain ⟨h1, m, h2, h3⟩ := h; exact ⟨h1, m, h2, fi h3⟩
  | 8 => exact h
  | 9 => obtain ⟨b2, e, hl⟩ := h; exact ⟨b2, e, hl.alloc o⟩
  | 10 => exact owned_below h hb
  | 11 => exact h
  | 12 => obtain ⟨v, h1, h2⟩ := h; exact ⟨v, h1.alloc o, owned_below h2 hb⟩
  | 13 => exact Lies.alloc h o
  | 14 => exact owned_below h hb
  | 15 => obtain ⟨m, h2, h3⟩ := h; exact ⟨m, h2, fi h3⟩
  | 16 => obtain ⟨m, h2, h3⟩ := h; exact ⟨m, h2, fi h3⟩
  | 17 => obtain ⟨m, h2, h3⟩ := h; exact ⟨m, h2, fi h3⟩
  | _ + 18 => trivial
def rrLow : Nat → Bool
  | 9 => false
  | 10 => false
  | 12 => false
  | 14 => false
  | _ => true
/-- The row has grown. -/
theorem rrV_low {S : Nat → Prop} (hk : Kept S w w') (h1 : ∀ cs, Lies w n3 35 cs → ¬ S n3) (h2 : ∀ a b, InAt w G g s a b → InAt w' G g s a b) {j : Nat} {u : Value} (hj : rrLow j = true) (h : rrV w0 G g s i f n3 vr L x j u w) : rrV w0 G g s i f n3 vr L x j u w' := by
  match j, hj with
  | 0, _ => exact h
  | 1, _ => exact h
  | 2, _ => exact h
  | 3, _ => obtain ⟨q1, m, q2, q3⟩ := h; exact ⟨q1, m, q2, h2 _ _ q3⟩
  | 4, _ => exact h
  | 5, _ => obtain ⟨q1, m, q2, q3⟩ := h; exact ⟨q1, m, q2, h2 _ _ q3⟩
  | 6, _ => exact h
  | 7, _ => obtain ⟨q1, m, q2, q3⟩ := h; exact ⟨q1, m, q2, h2 _ _ q3⟩
  | 8, _ => exact h
  | 11, _ => exact h
  | 13, _ => exact Lies.kept h hk (h1 _ h)
  | 15, _ => obtain ⟨m, q2, q3⟩ := h; exact ⟨m, q2, h2 _ _ q3⟩
  | 16, _ => obtain ⟨m, q2, q3⟩ := h; exact ⟨m, q2, h2 _ _ q3⟩
  | 17, _ => obtain ⟨m, q2, q3⟩ := h; exact ⟨m, q2, h2 _ _ q3⟩
  | _ + 18, _ => trivial
/-- The box is stored into. -/
theorem rrV_box (h2 : ∀ a b, InAt w G g s a b → InAt w' G g s a b) {j : Nat} {u : Value} (hj : (rrLow j && j != 13) = true) (h : rrV w0 G g s i f n3 vr L x j u w) : rrV w0 G g s i f n3 vr L x j u w' := by
  match j, hj with
  | 0, _ => exact h
  | 1, _ => exact h
  | 2, _ => exact h
  | 3, _ => obtain ⟨q1, m, q2, q3⟩ := h; exact ⟨q1, m, q2, h2 _ _ q3⟩
  | 4, _ => exact h
  | 5, _ => obtain ⟨q1, m, q2, q3⟩ := h; exact ⟨q1, m, q2, h2 _ _ q3⟩
  | 6, _ => exact h
  | 7, _ => obtain ⟨q1, m, q2, q3⟩ := h; exact ⟨q1, m, q2, h2 _ _ q3⟩
  | 8, _ => exact h
  | 11, _ => exact h
  | 15, _ => obtain ⟨m, q2, q3⟩ := h; exact ⟨m, q2, h2 _ _ q3⟩
  | 16, _ => obtain ⟨m, q2, q3⟩ := h; exact ⟨m, q2, h2 _ _ q3⟩
  | 17, _ => obtain ⟨m, q2, q3⟩ := h; exact ⟨m, q2, h2 _ _ q3⟩
  | _ + 18, _ => trivial
theorem RrS.kept {S : Nat → Prop} (h : RrS w0 w G g s i f) (hk : Kept S w w') (h1 : ∀ k, k < w0.heap.size → S k → twoRows g G k) (h2 : ¬ S w0.heap.size) (h3 : InLe w' G g s i f 3) : RrS w0 w' G g s i f :=
  ⟨h.kep.trans hk h1, h3, h.res.kept hk h2⟩
end
end Go.Proofs.YtebgcehcnenjiaaDoor
