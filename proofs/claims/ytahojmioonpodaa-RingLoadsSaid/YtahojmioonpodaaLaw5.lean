import Derived.Test.YtahojmioonpodaaLaw2
import Derived.Test.YtahojmioonpodaaRgmath
import Derived.Test.YtahojmioonpodaaRgsame
import Derived.Deep.DeepCutAuto
namespace Go.Proofs.Ytahojmioonpodaa
open Go.RowKit
set_option linter.unusedVariables false
set_option linter.unusedSimpArgs false
theorem Inv.do_ {R : Rg} (h : Inv R) (x : Op5) (hx : op5Ok x) (ht : R.tail ≤ 1000) : Inv (doR R x) := by
  unfold doR
  rcases doK_cases x with ⟨e, _⟩ | ⟨e, _⟩ | ⟨e, _⟩ | ⟨e, _⟩ | ⟨e, _⟩ <;> rw [e] <;> simp only
  · exact h.claim (by omega)
  · exact h.pub _ _ (by have := hx.2.2.2.2.2; omega)
  · exact h.take _
  · exact h.rel _ _ (by omega)
  · exact h.close
theorem free_pub (R : Rg) (t : Nat) : (((pubE R t : Nat) : Int) == 0) = rfreeB R t := by
  unfold pubE rfreeB freeB putE
  rw [Bool.eq_iff_iff]
  simp only [beq_iff_eq, Bool.and_eq_true, decide_eq_true_eq]
  by_cases h1 : R.tail ≤ t
  · rw [if_pos h1]; omega
  · rw [if_neg h1]
    by_cases h2 : 4611686018427387904 ≤ t
    · rw [if_pos h2]; omega
    · rw [if_neg h2]
      by_cases h3 : (slX R.L t).s < 2 * t
      · rw [if_pos h3]; omega
      · rw [if_neg h3]
        by_cases h4 : 2 * t < (slX R.L t).s
        · rw [if_pos h4]; omega
        · rw [if_neg h4]; omega
theorem has_rel (R : Rg) (j : Int) (t : Nat) : (((relE R j t : Nat) : Int) == 0) = rhasB R j t := by
  unfold relE rhasB
  rw [Bool.eq_iff_iff]
  simp only [beq_iff_eq, Bool.and_eq_true, decide_eq_true_eq]
  cases hr : readsB R j
  · simp
  · rw [if_neg (by decide)]
    by_cases h1 : headN R j ≤ t
    · rw [if_pos h1]
      constructor
      · intro h; omega
      · rintro ⟨_, h, _⟩; omega
    · rw [if_neg h1]
      constructor
      · intro h; exact ⟨rfl, by omega, by omega⟩
      · rintro ⟨_, _, h⟩; omega
/-- How all stands, of a law with a ring in block g, what it was made of and a call, both boxed. -/
def RdAt (w wx : World) (g : Nat) (k : Int) (cap rd : Nat) (x : Op5) (R : Rg) : Prop :=
  RgAt wx g 83 [] [] R ∧ Lies wx w.heap.size 23 #[.int .i64 k, .int .i64 (cap : Int), .int .i64 (rd : Int)] ∧
    Lies wx (w.heap.size + 1) 51 #[.int .i64 x.k, .int .i64 x.j, .int .u64 (x.t : Int), .int .u64 (x.v : Int)] ∧ Below w.heap.size w wx
def RdCells (w wx : World) (k : Int) (cap rd : Nat) (x : Op5) : Prop :=
  wx.cell? ⟨w.heap.size, 0, none⟩ = some (.int .i64 k) ∧ wx.cell? ⟨w.heap.size, 1, none⟩ = some (.int .i64 (cap : Int)) ∧ wx.cell? ⟨w.heap.size, 2, none⟩ = some (.int .i64 (rd : Int)) ∧
  wx.cell? ⟨w.heap.size + 1, 0, none⟩ = some (.int .i64 x.k) ∧ wx.cell? ⟨w.heap.size + 1, 1, none⟩ = some (.int .i64 x.j) ∧ wx.cell? ⟨w.heap.size + 1, 2, none⟩ = some (.int .u64 (x.t : Int)) ∧ wx.cell? ⟨w.heap.size + 1, 3, none⟩ = some (.int .u64 (x.v : Int)) ∧ w.heap.size + 1 < wx.heap.size
section
variable {w a b : World} {g q : Nat} {k : Int} {cap rd : Nat} {x : Op5} {R R' : Rg}
theorem RdAt.later (h : RdAt w a g k cap rd x R) (hb : Below a.heap.size a b) : RdAt w b g k cap rd x R := ⟨h.1.later hb, h.2.1.below hb h.2.1.lt, h.2.2.1.below hb h.2.2.1.lt, h.2.2.2.trans (hb.mono h.2.2.2.size)⟩
theorem RdAt.cells (h : RdAt w a g k cap rd x R) : RdCells w a k cap rd x := ⟨h.2.1.cell 0, h.2.1.cell 1, h.2.1.cell 2, h.2.2.1.cell 0, h.2.2.1.cell 1, h.2.2.1.cell 2, h.2.2.1.cell 3, h.2.2.1.lt⟩
/-- A step of the ring itself. -/
theorem RdAt.own (h : RdAt w a g k cap rd x R) (hg : w.heap.size + 1 < g) (hr : RgAt b g 83 [] [] R') (hk : Kept (oneRow g) a b) : RdAt w b g k cap rd x R' :=
  ⟨hr, h.2.1.kept hk (fun (e : w.heap.size = g) => by omega), h.2.2.1.kept hk (fun (e : w.heap.size + 1 = g) => by omega), h.2.2.2.trans (hk.below h.2.2.2.size (fun j hj (e : j = g) => by omega))⟩
/-- A step of another ring. -/
theorem RdAt.other (h : RdAt w a g k cap rd x R) (hg : w.heap.size + 1 < q) (hq : g ≠ q) (hk : Kept (oneRow q) a b) : RdAt w b g k cap rd x R :=
  ⟨h.1.kept hk hq, h.2.1.kept hk (fun (e : w.heap.size = q) => by omega), h.2.2.1.kept hk (fun (e : w.heap.size + 1 = q) => by omega), h.2.2.2.trans (hk.below h.2.2.2.size (fun j hj (e : j = q) => by omega))⟩
theorem slIn_of {r : Nat} {L : List Sl} (h : SlOk r L) : ∀ y ∈ L, slIn y := fun y hy => by
  obtain ⟨h1, h2, h3, h4⟩ := h.2.2.2.2 y hy
  have := everyN_pos h.2.2.2.1
  exact ⟨h1, h2, by omega, by omega⟩
theorem rdState (q : Nat) (R2 : Rg) (h : RdAt w a g k cap rd x R) (hq : RgAt a q 83 [] [] R2) :
    Calls Try.prog 20 #[.pointer (some ⟨q, 0, none⟩)] a fun e w' => ∃ A1 c1 A2 c2, e = .returned (.agg #[.int .u64 (R2.tail : Int), .slice A1 R2.rd c1, .bool R2.cl, .slice A2 R2.L.length c2]) ∧ RdCells w w' k cap rd x ∧ Hid (RdAt w w' g k cap rd x R) ∧
      Hid (RgAt w' q 83 [] [] R2) ∧ Hid (SeqAt w' (.slice A1 R2.rd c1) (cellsH (R2.h8.take R2.rd))) ∧ Hid (SeqS w' 3 (.slice A2 R2.L.length c2) R2.L.length (rowsOf slF R2.L)) ∧ Hid (Below a.heap.size a w') := by
  refine (rgState hq rfl).mono ?_
  rintro e w' ⟨A1, c1, A2, c2, rfl, o1, o2, hb⟩
  exact ⟨A1, c1, A2, c2, rfl, (h.later hb).cells, h.later hb, hq.later hb, SeqAt.of_owns o1, SeqS.of_owns o2, hb⟩
theorem rdLoad (h : RdAt w a g k cap rd x R) (hi : Inv R) (ht : R.tail < 4611686018427387904) (hc : R.cap = cap) (hr : R.rd = rd) (hk : k = 1 ∧ rd = 1 ∨ k = 2) (A1 : Option Addr) (c1 : Nat) (A2 : Option Addr) (c2 : Nat)
    (h1 : SeqAt a (.slice A1 R.rd c1) (cellsH (R.h8.take R.rd))) (h2 : SeqS a 3 (.slice A2 R.L.length c2) R.L.length (rowsOf slF R.L)) :
    Calls Try.prog 15 #[.agg #[.int .i64 k, .int .i64 (cap : Int), .int .i64 (rd : Int)], .agg #[.int .u64 (R.tail : Int), .slice A1 R.rd c1, .bool R.cl, .slice A2 R.L.length c2]] a fun e w' =>
      ∃ q, e = .returned (.tuple #[.pointer (some ⟨q, 0, none⟩), .int .i64 0]) ∧ g < q ∧ RdCells w w' k cap rd x ∧ Hid (RdAt w w' g k cap rd x R) ∧ Hid (RgAt w' q 83 [] [] R) := by
  have hok := hi.ok
  obtain ⟨l1, l2⟩ := hi.loads ht
  subst hc hr
  refine (rgLoad k R.cap R.rd R.tail R.cl (R.h8.take R.rd) R.L A1 R.rd c1 A2 R.L.length c2 a (by rw [hok.2.2.1]; exact hok.2.1.1) (by rw [hok.2.2.1]; exact hok.2.1.2.1) hok.2.1.2.2.1 hok.2.1.2.2.2.1 hk h1 h2 (slIn_of hok.2.1)).mono ?_
  rintro e w' ⟨hb, hp⟩
  unfold RLoadPost at hp
  rw [l1, if_pos rfl] at hp
  obtain ⟨q, hq, rfl, hr⟩ := hp
  rw [l2] at hr
  exact ⟨q, rfl, Nat.lt_of_lt_of_le h.1.lt hq, (h.later hb).cells, h.later hb, hr⟩
theorem rdFree (h : RdAt w a g k cap rd x R) (hq : RgAt a q 83 [] [] R) (hx : op5Ok x) :
    Calls Try.prog 22 #[.pointer (some ⟨g, 0, none⟩), .int .u64 (x.t : Int)] a fun e w' => e = .returned (.bool (rfreeB R x.t)) ∧ RdCells w w' k cap rd x ∧ Hid (RdAt w w' g k cap rd x R) ∧ Hid (RgAt w' q 83 [] [] R) := by
  refine (rgFree x.t h.1 rfl hx.2.2.2.2.1).mono ?_
  rintro e w' ⟨rfl, n, rfl⟩
  have hb := below_drewN (Below.refl a.heap.size a) n
  exact ⟨rfl, (h.later hb).cells, h.later hb, hq.later hb⟩
theorem rdHas (h : RdAt w a g k cap rd x R) (hq : RgAt a q 83 [] [] R) (hx : op5Ok x) :
    Calls Try.prog 23 #[.pointer (some ⟨g, 0, none⟩), .int .i64 x.j, .int .u64 (x.t : Int)] a fun e w' => e = .returned (.bool (rhasB R x.j x.t)) ∧ RdCells w w' k cap rd x ∧ Hid (RdAt w w' g k cap rd x R) ∧ Hid (RgAt w' q 83 [] [] R) := by
  refine (rgHas x.j x.t h.1 rfl hx.2.2.2.2.1).mono ?_
  rintro e w' ⟨rfl, hb⟩
  exact ⟨rfl, (h.later hb).cells, h.later hb, hq.later hb⟩
end
end Go.Proofs.Ytahojmioonpodaa
