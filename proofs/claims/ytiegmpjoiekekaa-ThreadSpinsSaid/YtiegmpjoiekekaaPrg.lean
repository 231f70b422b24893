/-
  Programs as data: instructions, rings, threads; how they lie in memory; which instructions may be.
-/
import Derived.Test.YtiegmpjoiekekaaRowsof
namespace Go.Proofs.Ytiegmpjoiekekaa
open Go.RowKit
set_option linter.unusedVariables false
set_option linter.unusedSimpArgs false
structure In where
  op : Int
  a : Int
  b : Int
  c : Int
  d : Int
  k : Nat
instance : Inhabited In := ⟨⟨0, 0, 0, 0, 0, 0⟩⟩
def inF (x : In) : List Value := [.int .i64 x.op, .int .i64 x.a, .int .i64 x.b, .int .i64 x.c, .int .i64 x.d, .int .u64 (x.k : Int)]
abbrev inC (x : In) : Array Value := #[.int .i64 x.op, .int .i64 x.a, .int .i64 x.b, .int .i64 x.c, .int .i64 x.d, .int .u64 (x.k : Int)]
theorem inF_length (x : In) : (inF x).length = 6 := rfl
def i64 (z : Int) : Prop := -9223372036854775808 ≤ z ∧ z ≤ 9223372036854775807
def inOk (x : In) : Prop := i64 x.op ∧ i64 x.a ∧ i64 x.b ∧ i64 x.c ∧ i64 x.d ∧ x.k ≤ 18446744073709551615
structure Ri where
  k : Int
  c : Int
  r : Int
instance : Inhabited Ri := ⟨⟨0, 0, 0⟩⟩
def riF (x : Ri) : List Value := [.int .i64 x.k, .int .i64 x.c, .int .i64 x.r]
abbrev riC (x : Ri) : Array Value := #[.int .i64 x.k, .int .i64 x.c, .int .i64 x.r]
theorem riF_length (x : Ri) : (riF x).length = 3 := rfl
def riOk (x : Ri) : Prop := i64 x.k ∧ i64 x.c ∧ i64 x.r
structure Pg where
  rs : List Ri
  ts : List (List In)
def pgOk (p : Pg) : Prop := (∀ x ∈ p.rs, riOk x) ∧ ∀ l ∈ p.ts, ∀ x ∈ l, inOk x
/-- A slice of instructions. -/
abbrev InsAt (w : World) (A : Option Addr) (c : Nat) (l : List In) : Prop := SeqS w 6 (.slice A l.length c) l.length (rowsOf inF l)
abbrev RisAt (w : World) (A : Option Addr) (c : Nat) (l : List Ri) : Prop := SeqS w 3 (.slice A l.length c) l.length (rowsOf riF l)
/-- A slice of threads. -/
def ThsAt (w : World) (A : Option Addr) (c : Nat) (ts : List (List In)) : Prop :=
  ∃ vs : List Value, SeqS w 1 (.slice A ts.length c) ts.length vs ∧ ∀ (i : Nat) (l : List In), ts[i]? = some l → ∃ B d, vs[i]? = some (Value.slice B l.length d) ∧ InsAt w B d l
def PgAt (w : World) (A : Option Addr) (c : Nat) (B : Option Addr) (d : Nat) (p : Pg) : Prop := RisAt w A c p.rs ∧ ThsAt w B d p.ts
abbrev pgC (A : Option Addr) (c : Nat) (B : Option Addr) (d : Nat) (p : Pg) : Array Value := #[.slice A p.rs.length c, .slice B p.ts.length d]
section
variable {w w' : World} {A B : Option Addr} {c d : Nat} {p : Pg} {ts : List (List In)}
theorem ThsAt.later (h : ThsAt w A c ts) (k : Below w.heap.size w w') : ThsAt w' A c ts := by
  obtain ⟨vs, h1, h2⟩ := h
  refine ⟨vs, h1.later k, fun i l hl => ?_⟩
  obtain ⟨B, d, h3, h4⟩ := h2 i l hl
  exact ⟨B, d, h3, h4.later k⟩
theorem PgAt.later (h : PgAt w A c B d p) (k : Below w.heap.size w w') : PgAt w' A c B d p := ⟨h.1.later k, h.2.later k⟩
theorem seq_form {sz n : Nat} {xs : List Value} (h : SeqS w sz (.slice A n c) n xs) : n ≤ c ∧ c ≤ 9223372036854775807 := by
  obtain ⟨A', c', e, h1, h2, _⟩ := h.form
  simp only [Value.slice.injEq, true_and] at e
  obtain ⟨rfl, rfl⟩ := e
  unfold maxLen at h2
  exact ⟨h1, h2⟩
theorem ThsAt.form (h : ThsAt w A c ts) : ts.length ≤ c ∧ c ≤ 9223372036854775807 := by
  obtain ⟨vs, h1, _⟩ := h
  exact seq_form h1
/-- One thread's slice, where it lies. -/
theorem ThsAt.at_ (h : ThsAt w A c ts) {i : Nat} {l : List In} (hl : ts[i]? = some l) : ∃ b off B d, A = some ⟨b, off, none⟩ ∧ w.cell? ⟨b, off + i, none⟩ = some (.slice B l.length d) ∧ InsAt w B d l := by
  obtain ⟨vs, h1, h2⟩ := h
  obtain ⟨B, d, h3, h4⟩ := h2 i l hl
  obtain ⟨_, A', c', e, _, _, _, hc⟩ := h1
  simp only [Value.slice.injEq, true_and] at e
  obtain ⟨rfl, rfl⟩ := e
  obtain ⟨b, off, e2, hc⟩ := hc i _ h3
  exact ⟨b, off, B, d, e2, hc, h4⟩
/-- One instruction, where it lies. -/
theorem InsAt.at_ {l : List In} (h : InsAt w A c l) {i : Nat} {x : In} (hx : l[i]? = some x) : ∃ b off, A = some ⟨b, off, none⟩ ∧ b < w.heap.size ∧ ∀ j u, j < 6 → (inF x)[j]? = some u → w.cell? ⟨b, off + i * 6 + j, none⟩ = some u :=
  SeqS.at_ inF_length (by decide) h hx
theorem RisAt.at_ {l : List Ri} (h : RisAt w A c l) {i : Nat} {x : Ri} (hx : l[i]? = some x) : ∃ b off, A = some ⟨b, off, none⟩ ∧ b < w.heap.size ∧ ∀ j u, j < 3 → (riF x)[j]? = some u → w.cell? ⟨b, off + i * 3 + j, none⟩ = some u :=
  SeqS.at_ riF_length (by decide) h hx
end
/-! ## Which instructions may be -/
def opB (op : Int) : Bool := decide (1 ≤ op ∧ op ≤ 25)
/-- How great A, B, C, D may be. -/
def gL (op : Int) : Int × Int × Int × Int :=
  if op = 1 then (7, 0, 0, 0) else if op = 2 then (7, 7, 0, 0) else if op = 23 then (7, 7, 0, 0) else if op = 15 then (0, 0, 0, 0) else
  if op = 16 then (7, 0, 0, 0) else if op = 17 then (7, 0, 0, 0) else if op = 18 then (7, 7, 7, 2) else if op = 19 then (7, 7, 7, 2) else if op = 20 then (0, 0, 7, 0) else
  if op = 21 then (7, 0, 0, 0) else if op = 22 then (7, 0, 0, 0) else if op = 24 then (7, 0, 0, 0) else if op = 25 then (0, 0, 0, 0) else (7, 7, 7, 0)
/-- How great K may be. -/
def gK (op : Int) : Nat :=
  if op = 1 then 18446744073709551615 else if op = 15 then 256 else if op = 16 then 256 else if op = 17 then 256 else if op = 19 then 7 else 0
def wB (n m : Int) : Bool := decide (0 ≤ n) && decide (n ≤ m)
def kB (x : In) : Bool := decide (x.k ≤ gK x.op)
def rightB (x : In) : Bool := opB x.op && (wB x.a (gL x.op).1 && (wB x.b (gL x.op).2.1 && (wB x.c (gL x.op).2.2.1 && (wB x.d (gL x.op).2.2.2 && kB x))))
def jumpsB (op : Int) : Bool := decide (15 ≤ op) && decide (op ≤ 17)
def onRingB (op : Int) : Bool := op == 18 || (op == 19 || op == 20)
theorem gK_wf (op : Int) : gK op ≤ 18446744073709551615 := by
  unfold gK
  repeat' split
  all_goals decide
end Go.Proofs.Ytiegmpjoiekekaa
