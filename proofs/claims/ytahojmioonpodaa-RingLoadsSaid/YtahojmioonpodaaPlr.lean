import Derived.Test.YtahojmioonpodaaLaw5
import Derived.Test.YtahojmioonpodaaRgref6
import Derived.Test.YtahojmioonpodaaRgstate2
import Derived.Test.YtahojmioonpodaaRgsame
import Derived.Deep.CutBlock
namespace Go.Proofs.Ytahojmioonpodaa
open Go.RowKit
set_option linter.unusedVariables false
set_option linter.unusedSimpArgs false
/-- How all stands within a round: the document's ring in block b, the program's in block g, the call that is looked at in block q. -/
def PlR (w0 w : World) (b g q : Nat) (x : Op5) (R : Rg) (Ah : Option Addr) (ch : Nat) (As : Addr) (cs : Nat) : Prop :=
  RgAt w g 83 [] [] R ∧ Lies w b 38 (rgV R.cap R.tail Ah R.rd ch R.cl (some As) R.L.length cs R.rd) ∧ Lies w q 51 #[.int .i64 x.k, .int .i64 x.j, .int .u64 (x.t : Int), .int .u64 (x.v : Int)] ∧
    HdAt w R Ah ch ∧ SeqS w 3 (.slice (some As) R.L.length cs) R.L.length (rowsOf slF R.L) ∧ Kept (oneRow g) w0 w
section
variable {w0 w w' : World} {b g q : Nat} {x : Op5} {R : Rg} {Ah : Option Addr} {ch cs : Nat} {As : Addr}
theorem PlR.later (h : PlR w0 w b g q x R Ah ch As cs) (hb : Below w.heap.size w w') : PlR w0 w' b g q x R Ah ch As cs :=
  ⟨h.1.later hb, h.2.1.below hb h.2.1.lt, h.2.2.1.below hb h.2.2.1.lt, h.2.2.2.1.later hb, h.2.2.2.2.1.later hb, kept_below_ h.2.2.2.2.2 hb⟩
theorem PlR.drewN (h : PlR w0 w b g q x R Ah ch As cs) (n : Nat) : PlR w0 (w.drewN n) b g q x R Ah ch As cs := h.later (below_drewN (Below.refl _ _) n)
theorem PlR.boxed (h : PlR w0 w b g q x R Ah ch As cs) : w.cell? ⟨b, 0, none⟩ = some (.int .u64 (R.cap : Int)) ∧ w.cell? ⟨b, 1, none⟩ = some (.int .u64 (R.tail : Int)) ∧ w.cell? ⟨b, 2, none⟩ = some (.slice Ah R.rd ch) ∧ w.cell? ⟨b, 3, none⟩ = some (.bool R.cl) ∧
    w.cell? ⟨b, 4, none⟩ = some (.slice (some As) R.L.length cs) ∧ w.cell? ⟨b, 5, none⟩ = some (.int .i64 (R.rd : Int)) ∧ b < w.heap.size := ⟨h.2.1.cell 0, h.2.1.cell 1, h.2.1.cell 2, h.2.1.cell 3, h.2.1.cell 4, h.2.1.cell 5, h.2.1.lt⟩
theorem PlR.call (h : PlR w0 w b g q x R Ah ch As cs) : w.cell? ⟨q, 0, none⟩ = some (.int .i64 x.k) ∧ w.cell? ⟨q, 1, none⟩ = some (.int .i64 x.j) ∧ w.cell? ⟨q, 2, none⟩ = some (.int .u64 (x.t : Int)) ∧ w.cell? ⟨q, 3, none⟩ = some (.int .u64 (x.v : Int)) ∧ q < w.heap.size :=
  ⟨h.2.2.1.cell 0, h.2.2.1.cell 1, h.2.2.1.cell 2, h.2.2.1.cell 3, h.2.2.1.lt⟩
end
/-- .. and what the document's ring would be behind a publish, in block nb. -/
def PlN (w0 w : World) (b g q nb : Nat) (x : Op5) (R : Rg) (Ah : Option Addr) (ch : Nat) (As : Addr) (cs : Nat) (V : Array Value) : Prop := PlR w0 w b g q x R Ah ch As cs ∧ Lies w nb 38 V
theorem PlN.later {w0 w w' : World} {b g q nb : Nat} {x : Op5} {R : Rg} {Ah : Option Addr} {ch cs : Nat} {As : Addr} {V : Array Value} (h : PlN w0 w b g q nb x R Ah ch As cs V) (hb : Below w.heap.size w w') : PlN w0 w' b g q nb x R Ah ch As cs V := ⟨h.1.later hb, h.2.below hb h.2.lt⟩
theorem PlN.drewN {w0 w : World} {b g q nb : Nat} {x : Op5} {R : Rg} {Ah : Option Addr} {ch cs : Nat} {As : Addr} {V : Array Value} (h : PlN w0 w b g q nb x R Ah ch As cs V) (n : Nat) : PlN w0 (w.drewN n) b g q nb x R Ah ch As cs V := h.later (below_drewN (Below.refl _ _) n)
/-- How all stands between the rounds. -/
def StR (w0 w : World) (b g : Nat) (R : Rg) (Ah : Option Addr) (ch : Nat) (As : Addr) (cs : Nat) : Prop :=
  RgAt w g 83 [] [] R ∧ Lies w b 38 (rgV R.cap R.tail Ah R.rd ch R.cl (some As) R.L.length cs R.rd) ∧ HdAt w R Ah ch ∧ SeqS w 3 (.slice (some As) R.L.length cs) R.L.length (rowsOf slF R.L) ∧ Kept (oneRow g) w0 w
theorem empty_take {R : Rg} (j : Int) : (((takeE R j : Nat) : Int) != 0) = emptyB R j := by
  unfold takeE emptyB
  cases hr : readsB R j
  · simp
  · rw [if_neg (by decide)]
    by_cases h1 : headN R j = R.tail
    · rw [if_pos h1]
      simp [h1]
      split <;> omega
    · rw [if_neg h1]
      simp [h1]
/-- Heads that lie neither in the ring's block nor in the document's ring's. -/
def HdAway (g b : Nat) (A : Option Addr) : Prop := ∀ c o, A = some ⟨c, o, none⟩ → c ≠ g ∧ c ≠ b
theorem HdAway.next {g b B : Nat} {A A' : Option Addr} (h : HdAway g b A) (hn : HdNext A B A') (hg : g < B) (hb : b < B) : HdAway g b A' := by
  rcases hn with rfl | hn
  · exact h
  · intro c o e
    have := hn c o e
    omega
theorem seqAt_kept {S : Nat → Prop} {w w' : World} {A : Option Addr} {n c : Nat} {xs : List Value} (h : SeqAt w (.slice A n c) xs) (k : Kept S w w') (hn : ∀ b o, A = some ⟨b, o, none⟩ → ¬ S b) : SeqAt w' (.slice A n c) xs := by
  obtain ⟨A', c', e, h1, h2, h3⟩ := h
  refine ⟨A', c', e, h1, h2, fun j u hu => ?_⟩
  obtain ⟨b, off, rfl, hc⟩ := h3 j u hu
  simp only [Value.slice.injEq] at e
  have hlt := World.block_lt_of_cell? w _ hc
  refine ⟨b, off, rfl, ?_⟩
  unfold World.cell? at hc ⊢
  rw [k.at_ b hlt (hn b off e.1)]
  exact hc
section
variable {w0 w w7 : World} {b g q : Nat} {x : Op5} {R R' : Rg} {Ah : Option Addr} {ch cs : Nat} {As : Addr}
/-- Behind a step of the ring itself. -/
theorem PlR.own (h : PlR w0 w b g q x R Ah ch As cs) (ha : HdAway g b Ah) (hbg : b ≠ g) (hqg : q ≠ g) (hS : g + 1 ≤ As.block) (hr : RgAt w7 g 83 [] [] R') (hk : Kept (oneRow g) w w7) :
    RgAt w7 g 83 [] [] R' ∧ Lies w7 b 38 (rgV R.cap R.tail Ah R.rd ch R.cl (some As) R.L.length cs R.rd) ∧ Lies w7 q 51 #[.int .i64 x.k, .int .i64 x.j, .int .u64 (x.t : Int), .int .u64 (x.v : Int)] ∧
      HdAt w7 R Ah ch ∧ SeqS w7 3 (.slice (some As) R.L.length cs) R.L.length (rowsOf slF R.L) ∧ Kept (oneRow g) w0 w7 := by
  refine ⟨hr, h.2.1.kept hk hbg, h.2.2.1.kept hk hqg, seqAt_kept h.2.2.2.1 hk (fun c o e => (ha c o e).1), h.2.2.2.2.1.keptT hk (fun c _ o e => ?_), h.2.2.2.2.2.trans hk (fun _ _ e => e)⟩
  simp only [Value.slice.injEq, Option.some.injEq] at e
  obtain ⟨rfl, _⟩ := e
  intro (e : c = g)
  simp only at hS
  omega
/-- The document's ring, stored anew. -/
theorem StR.next {v0 v1 : Value} {A2 A4 : Option Addr} {n2 c2 n4 c4 : Nat} {kb : Bool} {l5 : Int} {A' : Option Addr} {As' : Addr} {n c' l d' : Nat} {c t : Nat} {k : Bool}
    (hr : RgAt w7 g 83 [] [] R') (hb : Lies w7 b 38 #[v0, v1, .slice A2 n2 c2, .bool kb, .slice A4 n4 c4, .int .i64 l5]) (hk : Kept (oneRow g) w0 w7)
    (hh : SeqAt w7 (.slice A' n c') (cellsH (R'.h8.take n))) (hs : SeqS w7 3 (.slice (some As') l d') l (rowsOf slF R'.L)) (ha : HdAway g b A') (hbg : b ≠ g) (hb0 : w0.heap.size ≤ b)
    (e1 : R'.cap = c) (e2 : R'.tail = t) (e3 : R'.rd = n) (e4 : R'.cl = k) (e5 : R'.L.length = l) :
    StR w0 (st6 w7 b (.int .u64 (c : Int)) (.int .u64 (t : Int)) (.slice A' n c') (.bool k) (.slice (some As') l d') (.int .i64 (n : Int))) b g R' A' c' As' d' := by
  subst e1 e2 e3 e4 e5
  obtain ⟨b8, o8, rfl⟩ := seq_addr hs hr.1.2.1.1
  have hne := r13_ne hb hs hr.1.2.1.1
  have hkb := st6_kept w7 b (.int .u64 (R'.cap : Int)) (.int .u64 (R'.tail : Int)) (.slice A' R'.rd c') (.bool R'.cl) (.slice (some ⟨b8, o8, none⟩) R'.L.length d') (.int .i64 (R'.rd : Int))
  refine ⟨hr.kept hkb (fun (e : g = b) => hbg e.symm), st6_lies hb rfl, seqAt_kept hh hkb (fun c o e => (ha c o e).2), hs.keptT hkb (fun c _ o e => ?_), hk.trans hkb (fun i hi (e : i = b) => by omega)⟩
  simp only [Value.slice.injEq, Option.some.injEq, Addr.mk.injEq] at e
  obtain ⟨⟨rfl, _⟩, _⟩ := e
  exact hne
/-- .. and closed. -/
theorem StR.shut (hr : RgAt w7 g 83 [] [] { R with cl := true }) (hb : Lies w7 b 38 (rgV R.cap R.tail Ah R.rd ch R.cl (some As) R.L.length cs R.rd)) (hk : Kept (oneRow g) w0 w7)
    (hh : HdAt w7 R Ah ch) (hs : SeqS w7 3 (.slice (some As) R.L.length cs) R.L.length (rowsOf slF R.L)) (ha : HdAway g b Ah) (hbg : b ≠ g) (hb0 : w0.heap.size ≤ b) :
    StR w0 (w7.setCell ⟨b, 3, none⟩ (.bool true)) b g { R with cl := true } Ah ch As cs := by
  obtain ⟨b8, o8, rfl⟩ := seq_addr hs hr.1.2.1.1
  have hne := r13_ne hb hs hr.1.2.1.1
  have hkb := Kept.put w7 b 3 (.bool true)
  refine ⟨hr.kept hkb (fun (e : g = b) => hbg e.symm), hb.put 3 (.bool true), seqAt_kept hh hkb (fun c o e => (ha c o e).2), hs.keptT hkb (fun c _ o e => ?_), hk.trans hkb (fun i hi (e : i = b) => by omega)⟩
  simp only [Value.slice.injEq, Option.some.injEq, Addr.mk.injEq] at e
  obtain ⟨⟨rfl, _⟩, _⟩ := e
  exact hne
theorem StR.boxed (h : StR w0 w b g R Ah ch As cs) : w.cell? ⟨b, 0, none⟩ = some (.int .u64 (R.cap : Int)) ∧ w.cell? ⟨b, 1, none⟩ = some (.int .u64 (R.tail : Int)) ∧ w.cell? ⟨b, 2, none⟩ = some (.slice Ah R.rd ch) ∧ w.cell? ⟨b, 3, none⟩ = some (.bool R.cl) ∧
    w.cell? ⟨b, 4, none⟩ = some (.slice (some As) R.L.length cs) ∧ w.cell? ⟨b, 5, none⟩ = some (.int .i64 (R.rd : Int)) ∧ b < w.heap.size := ⟨h.2.1.cell 0, h.2.1.cell 1, h.2.1.cell 2, h.2.1.cell 3, h.2.1.cell 4, h.2.1.cell 5, h.2.1.lt⟩
theorem StR.later (h : StR w0 w b g R Ah ch As cs) (hb : Below w.heap.size w w7) : StR w0 w7 b g R Ah ch As cs :=
  ⟨h.1.later hb, h.2.1.below hb h.2.1.lt, h.2.2.1.later hb, h.2.2.2.1.later hb, kept_below_ h.2.2.2.2 hb⟩
end
theorem st_same {R : Rg} (h : RgOk R) (A1 A2 A3 A4 : Option Addr) (c1 c2 c3 c4 : Nat) (w : World) (h1 : SeqAt w (.slice A1 R.rd c1) (cellsH (R.h8.take R.rd))) (h2 : SeqAt w (.slice A2 R.rd c2) (cellsH (R.h8.take R.rd)))
    (s1 : SeqS w 3 (.slice A3 R.L.length c3) R.L.length (rowsOf slF R.L)) (s2 : SeqS w 3 (.slice A4 R.L.length c4) R.L.length (rowsOf slF R.L)) :
    Calls Try.prog 19 #[.agg #[.int .u64 (R.tail : Int), .slice A1 R.rd c1, .bool R.cl, .slice A3 R.L.length c3], .agg #[.int .u64 (R.tail : Int), .slice A2 R.rd c2, .bool R.cl, .slice A4 R.L.length c4]] w fun e w' => e = .returned (.bool true) ∧ Below w.heap.size w w' := by
  have hl : (R.h8.take R.rd).length = R.rd := by rw [List.length_take]; have := h.1; have := h.2.1.2.2.2.1; omega
  have := ref13Same R.tail (R.h8.take R.rd) R.cl R.L A1 A2 A3 A4 c1 c2 c3 c4 w (by rw [hl]; exact h1) (by rw [hl]; exact h2) s1 s2
  rw [hl] at this
  exact this
theorem claim_same (R : Rg) : (claimR R).cap = R.cap ∧ (claimR R).rd = R.rd ∧ (claimR R).cl = R.cl ∧ (claimR R).h8 = R.h8 ∧ (claimR R).L = R.L ∧ (claimR R).tail ≤ R.tail + 1 := by
  unfold claimR; split <;> simp
theorem pub_same (R : Rg) (t v : Nat) : (pubR R t v).cap = R.cap ∧ (pubR R t v).rd = R.rd ∧ (pubR R t v).cl = R.cl ∧ (pubR R t v).h8 = R.h8 ∧ (pubR R t v).L.length = R.L.length ∧ (pubR R t v).tail = R.tail := by
  unfold pubR; split <;> simp [putS_length]
theorem take_same (R : Rg) (j : Int) : (takeR R j).cap = R.cap ∧ (takeR R j).rd = R.rd ∧ (takeR R j).cl = R.cl ∧ (takeR R j).L = R.L ∧ (takeR R j).tail = R.tail := by
  unfold takeR; split <;> simp
theorem rel_same (R : Rg) (j : Int) (t : Nat) : (relR R j t).cap = R.cap ∧ (relR R j t).rd = R.rd ∧ (relR R j t).cl = R.cl ∧ (relR R j t).h8 = R.h8 ∧ (relR R j t).L.length = R.L.length ∧ (relR R j t).tail = R.tail := by
  unfold relR; split <;> simp [getS_length]
end Go.Proofs.Ytahojmioonpodaa
