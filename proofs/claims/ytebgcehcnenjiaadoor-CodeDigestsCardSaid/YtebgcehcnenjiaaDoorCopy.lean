/-
  The document's Copy: a program in memory of its own.
-/
import Derived.Test.YtebgcehcnenjiaaDoorRfew
import Derived.Test.YtebgcehcnenjiaaDoorOwn
import Derived.Test.YtebgcehcnenjiaaDoorRely
namespace Go.Proofs.YtebgcehcnenjiaaDoor
open Go.RowKit
set_option linter.unusedVariables false
set_option linter.unusedSimpArgs false
theorem Tryd.infoIn : (Tryd.prog.info? 24).map (fun i => (i.zero, i.size, i.bytes)) = some (some (.agg #[.int .i64 0, .int .i64 0, .int .i64 0, .int .i64 0, .int .i64 0, .int .u64 0]), 6, 48) := by kernel_rfl
theorem Tryd.infoRi : (Tryd.prog.info? 67).map (fun i => (i.zero, i.size, i.bytes)) = some (some (.agg #[.int .i64 0, .int .i64 0, .int .i64 0]), 3, 24) := by kernel_rfl
theorem Tryd.infoTh : (Tryd.prog.info? 51).map (fun i => (i.zero, i.size, i.bytes)) = some (some (.slice none 0 0), 1, 24) := by kernel_rfl
theorem inF_one (l : List In) : ∀ u ∈ rowsOf inF l, u.oneCell' = true := fun u hu => by
  obtain ⟨x, _, hx⟩ := rowsOf_mem hu
  simp [inF] at hx
  rcases hx with rfl | rfl | rfl | rfl | rfl | rfl <;> rfl
theorem riF_one (l : List Ri) : ∀ u ∈ rowsOf riF l, u.oneCell' = true := fun u hu => by
  obtain ⟨x, _, hx⟩ := rowsOf_mem hu
  simp [riF] at hx
  rcases hx with rfl | rfl | rfl <;> rfl
/-- A row of instructions of the call's own. -/
abbrev OwnIn (w : World) (B : Nat) (v : Value) (l : List In) : Prop := w.ownsRow B 24 6 v l.length (rowsOf inF l)
/-- Each of the rows vs is one of the call's own, and holds a thread. -/
def Inners (w : World) (B N : Nat) (ts : List (List In)) (vs : List Value) : Prop :=
  ∀ (j : Nat) (v : Value), vs[j]? = some v → ∃ l, ts[j]? = some l ∧ OwnIn w B v l ∧ ∀ r, v.ownBlock = some r → r < N
theorem own_lt {w : World} {B : Nat} {e : TypeId} {sz n : Nat} {v : Value} {xs : List Value} (h : w.ownsRow B e sz v n xs) {r : Nat} (hv : v.ownBlock = some r) : B ≤ r ∧ r < w.heap.size := by
  have := h.lt r hv
  exact ⟨this.1, this.2⟩
section
variable {w w' : World} {B N : Nat} {ts : List (List In)} {vs : List Value}
theorem Inners.kept {S : Nat → Prop} (h : Inners w B N ts vs) (k : Kept S w w') (hs : ∀ r cur, r < N → Lies w r 24 cur → ¬ S r) : Inners w' B N ts vs := by
  intro j v hv
  obtain ⟨l, h1, h2, h3⟩ := h j v hv
  exact ⟨l, h1, owns_kept h2 k (fun r cur hr hl => hs r cur (h3 r hr) hl), h3⟩
theorem Inners.mono (h : Inners w B N ts vs) {M : Nat} (hM : N ≤ M) : Inners w B M ts vs := by
  intro j v hv
  obtain ⟨l, h1, h2, h3⟩ := h j v hv
  exact ⟨l, h1, h2, fun r hr => Nat.lt_of_lt_of_le (h3 r hr) hM⟩
theorem Inners.snoc (h : Inners w B N ts vs) {l : List In} {u : Value} (hl : ts[vs.length]? = some l) (hu : OwnIn w B u l) (hlt : ∀ r, u.ownBlock = some r → r < N) : Inners w B N ts (vs ++ [u]) := by
  intro j v hv
  by_cases e : j < vs.length
  · rw [List.getElem?_append_left e] at hv
    exact h j v hv
  · rw [List.getElem?_append_right (by omega)] at hv
    have hj : j - vs.length = 0 := by
      have := (List.getElem?_eq_some_iff.1 hv).1
      simp at this; omega
    rw [hj] at hv
    simp at hv
    subst hv
    have : j = vs.length := by omega
    subst this
    exact ⟨l, hl, hu, hlt⟩
end
/-- How memory stands in the course of a round: S. -/
structure CpS (w0 wr w : World) (c0 : Array Value) (vr : Value) (p : Pg) (vs : List Value) : Prop where
  bel : Below w0.heap.size w0 w
  le : wr.heap.size ≤ w.heap.size
  rr : w.ownsRow w0.heap.size 67 3 vr p.rs.length (rowsOf riF p.rs)
  rlt : ∀ r, vr.ownBlock = some r → r < wr.heap.size
  inn : Inners w w0.heap.size wr.heap.size p.ts vs
  box : Lies w w0.heap.size 35 c0
  res : Lies w (w0.heap.size + 1) 35 #[.slice none 0 0, .slice none 0 0]
theorem CpS.kept {S : Nat → Prop} {w0 wr w w' : World} {c0 : Array Value} {vr : Value} {p : Pg} {vs : List Value} (h : CpS w0 wr w c0 vr p vs) (k : Kept S w w') (h1 : ∀ i, i < w0.heap.size → ¬ S i) (h4 : ¬ S w0.heap.size) (h5 : ¬ S (w0.heap.size + 1))
    (h2 : ∀ r cur, r < wr.heap.size → Lies w r 67 cur → ¬ S r) (h3 : ∀ r cur, r < wr.heap.size → Lies w r 24 cur → ¬ S r) : CpS w0 wr w' c0 vr p vs :=
  ⟨h.bel.trans (k.below h.bel.size h1), Nat.le_trans h.le k.size, owns_kept h.rr k (fun r cur hr hl => h2 r cur (h.rlt r hr) hl), h.rlt, h.inn.kept k h3, h.box.kept k h4, h.res.kept k h5⟩
/-- What the operations leave. -/
def cpV (w0 wr : World) (n3 nb b o i : Nat) (vr vt vB vl : Value) (p : Pg) (vs : List Value) (l : List In) : Nat → Value → World → Prop
  | 0, v, _ => v = .pointer (some ⟨n3, 1, none⟩)
  | 1, v, _ => v = vt
  | 2, v, w => w.ownsRow wr.heap.size 24 6 v 0 []
  | 3, v, _ => v = .pointer (some ⟨nb, 1, none⟩)
  | 4, v, _ => v = vB
  | 5, v, _ => v = .int .i64 (i : Int)
  | 6, v, _ => v = .pointer (some ⟨b, o + i, none⟩)
  | 7, v, _ => v = vl
  | 8, v, w => OwnIn w wr.heap.size v l
  | 9, v, w => ∃ g u, v = .slice (some ⟨g, 0, none⟩) 1 1 ∧ wr.heap.size ≤ g ∧ Lies w g 51 #[u] ∧ OwnIn w wr.heap.size u l
  | 10, v, w => ∃ u, w.ownsRow w0.heap.size 51 1 v (i + 1) (vs ++ [u]) ∧ OwnIn w wr.heap.size u l
  | 11, v, _ => v = .pointer (some ⟨n3, 1, none⟩)
  | 12, _, w => ∃ v u, Lies w n3 35 #[vr, v] ∧ w.ownsRow w0.heap.size 51 1 v (i + 1) (vs ++ [u]) ∧ OwnIn w wr.heap.size u l
  | 13, _, w => Lies w n3 35 #[vr, vt]
  | 14, _, w => w.ownsRow w0.heap.size 51 1 vt i vs
  | _, _, _ => True
/-- What is no row of the round's own stays. -/
def cpLow : Nat → Bool
  | 2 => false
  | 8 => false
  | 9 => false
  | 10 => false
  | 12 => false
  | _ => true
section
variable {w0 wr w w' : World} {n3 nb b o i : Nat} {vr vt vB vl : Value} {p : Pg} {vs : List Value} {l : List In}
theorem cpV_low {S : Nat → Prop} (k : Kept S w w') (h1 : ¬ S n3) (h2 : ∀ r cur, vt.ownBlock = some r → Lies w r 51 cur → ¬ S r) {j : Nat} {u : Value} (hj : cpLow j = true) (h : cpV w0 wr n3 nb b o i vr vt vB vl p vs l j u w) : cpV w0 wr n3 nb b o i vr vt vB vl p vs l j u w' := by
  match j, hj with
  | 0, _ => exact h
  | 1, _ => exact h
  | 3, _ => exact h
  | 4, _ => exact h
  | 5, _ => exact h
  | 6, _ => exact h
  | 7, _ => exact h
  | 11, _ => exact h
  | 13, _ => exact Lies.kept h k h1
  | 14, _ => exact owns_kept h k h2
  | _ + 15, _ => trivial
theorem cpV_low2 {S : Nat → Prop} (k : Kept S w w') (h1 : ¬ S n3) {j : Nat} {u : Value} (hj : (cpLow j && j != 14) = true) (h : cpV w0 wr n3 nb b o i vr vt vB vl p vs l j u w) : cpV w0 wr n3 nb b o i vr vt vB vl p vs l j u w' := by
  match j, hj with
  | 0, _ => exact h
  | 1, _ => exact h
  | 3, _ => exact h
  | 4, _ => exact h
  | 5, _ => exact h
  | 6, _ => exact h
  | 7, _ => exact h
  | 11, _ => exact h
  | 13, _ => exact Lies.kept h k h1
  | _ + 15, _ => trivial
theorem cpV_low3 {j : Nat} {u : Value} (hj : (cpLow j && (j != 14 && j != 13)) = true) (h : cpV w0 wr n3 nb b o i vr vt vB vl p vs l j u w) : cpV w0 wr n3 nb b o i vr vt vB vl p vs l j u w' := by
  match j, hj with
  | 0, _ => exact h
  | 1, _ => exact h
  | 3, _ => exact h
  | 4, _ => exact h
  | 5, _ => exact h
  | 6, _ => exact h
  | 7, _ => exact h
  | 11, _ => exact h
  | _ + 15, _ => trivial
theorem cpV_alloc (ob : Obj) {j : Nat} {u : Value} (h : cpV w0 wr n3 nb b o i vr vt vB vl p vs l j u w) : cpV w0 wr n3 nb b o i vr vt vB vl p vs l j u (w.alloc ob) := by
  have hb : Below w.heap.size w (w.alloc ob) := (Below.refl _ _).alloc (Nat.le_refl _) _
  match j with
  | 0 => exact h
  | 1 => exact h
  | 2 => exact owned_below h hb
  | 3 => exact h
  | 4 => exact h
  | 5 => exact h
  | 6 => exact h
  | 7 => exact h
  | 8 => exact owned_below h hb
  | 9 =>
    obtain ⟨g, u, e, h1, h2, h3⟩ := h
    exact ⟨g, u, e, h1, h2.alloc ob, owned_below h3 hb⟩
  | 10 =>
    obtain ⟨u, h1, h2⟩ := h
    exact ⟨u, owned_below h1 hb, owned_below h2 hb⟩
  | 11 => exact h
  | 12 =>
    obtain ⟨v, u, h1, h2, h3⟩ := h
    exact ⟨v, u, h1.alloc ob, owned_below h2 hb, owned_below h3 hb⟩
  | 13 => exact Lies.alloc h ob
  | 14 => exact owned_below h hb
  | _ + 15 => trivial
end
end Go.Proofs.YtebgcehcnenjiaaDoor
