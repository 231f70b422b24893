/-
  How the document's ring stands: State, Of, New: what is copied into empty literals in whatever order.
-/
import Derived.Test.YtahojmioonpodaaRgref5
import Derived.Deep.DeepCutAuto
import Derived.Deep.RegionLaw
namespace Go.Proofs.Ytahojmioonpodaa
open Go.RowKit
set_option linter.unusedVariables false
set_option linter.unusedSimpArgs false
theorem owns_of_lies_empty {w : World} {b base : Nat} {e : TypeId} {sz : Nat} (h : Lies w b e #[]) (hB : base ≤ b) : w.ownsRow base e sz (.slice (some ⟨b, 0, none⟩) 0 0) 0 [] :=
  ⟨by simp, .inr ⟨b, 0, #[], rfl, hB, h, Nat.le_refl _, by unfold maxLen; omega, by simp, by simp⟩⟩
/-- 'append([]T{}, l...)', l not empty, as a step of a region that draws its order: the literal in block b. -/
theorem step_copy {P : Program} {ops : Array Oper} {o : Oper} {a : Act} {K : Act → World → Prop} {Q : Exit → Act → World → Prop} {E : Prop} {w : World} (hgd : o.guard = none) (s x : Operand) (t : TypeId)
    (ho : o.op = .call { callee := .builtin .append, args := #[s, x], argTypes := #[t, t] }) (e : TypeId) (i : TypeInfo) (z : Value) (size bytes : Nat) (ht : P.underlying t = some (.slice e)) (hi : P.info? e = some i) (hz : i.zero = some z)
    (hsize : i.size = size) (hby : i.bytes = bytes) (hzs : z.cells.size = size) (hsz : 0 < size) (b : Nat) (hs : a.eval s = .slice (some ⟨b, 0, none⟩) 0 0) (hl : Lies w b e #[])
    (ad : Addr) (m c : Nat) (news : List Value) (hx : a.eval x = .slice (some ad) m c) (hln : news.length = m * size) (hnews : ∀ j u, news[j]? = some u → w.cell? (ad.add j) = some u) (h1 : ∀ u ∈ news, u.oneCell' = true)
    (hm : 0 < m) (h63 : m ≤ 1000000) (hb0 : bytes ≤ 1000)
    (h : ∀ g cap w', w'.ownsRow b e size (.slice (some ⟨g, 0, none⟩) m cap) m news → Kept (oneRow b) w w' → K (a.put o.dst (.slice (some ⟨g, 0, none⟩) m cap)) w') :
    if Region.wanted o (yielded ops a.tmps) = true then Oper.wp P o a w K Q else E := by
  have hmb : m * bytes ≤ 1000000 * 1000 := Nat.mul_le_mul h63 hb0
  refine step_append_lies w hgd s x t ho b e i z size bytes ht hi hz hsize hby hzs hsz _ 0 [] hs (owns_of_lies_empty hl (Nat.le_refl _)) ad m c news hx hln hnews h1 hm (by unfold maxLen; omega) (by rw [Nat.zero_add]; omega) (Nat.le_of_lt hl.lt) w.heap.size rfl (fun g cap w' ho hg _ _ => ?_)
  rw [Nat.zero_add] at ho ⊢
  rw [List.nil_append] at ho
  exact h g cap w' ho ((Kept.of_grown hg).mono (fun j _ hj => by simp [Value.ownBlock] at hj; exact hj.symm))
abbrev stZ : Array Value := #[.int .u64 0, .slice none 0 0, .bool false, .slice none 0 0]
/-- How memory stands within State: what is read lies in V's block, what is told will lie behind it. -/
def StB (w wc : World) (V : Array Value) : Prop := Below w.heap.size w wc ∧ Lies wc w.heap.size 38 V ∧ Lies wc (w.heap.size + 1) 42 stZ
section
variable {w a b : World} {V : Array Value}
theorem StB.alloc (h : StB w a V) (o : Obj) : StB w (a.alloc o) V := ⟨h.1.alloc h.1.size o, h.2.1.alloc o, h.2.2.alloc o⟩
theorem StB.drew (h : StB w a V) : StB w a.drew V := ⟨below_drewN h.1 1, Lies.drew h.2.1, Lies.drew h.2.2⟩
theorem StB.lt (h : StB w a V) : w.heap.size + 2 ≤ a.heap.size := h.2.2.lt
theorem StB.copy {q : Nat} (h : StB w a V) (hk : Kept (oneRow q) a b) (hq : w.heap.size + 2 ≤ q) : StB w b V :=
  ⟨h.1.trans (hk.below h.1.size (fun j hj (e : j = q) => by omega)), h.2.1.kept hk (fun (e : w.heap.size = q) => by omega), h.2.2.kept hk (fun (e : w.heap.size + 1 = q) => by omega)⟩
end
theorem Lies.made2 (w : World) (o : Obj) (t : TypeId) (cs : Array Value) : Lies ((w.alloc o).alloc (.cells cs t)) (w.heap.size + 1) t cs := by
  have := Lies.made (w.alloc o) t cs
  rwa [World.size_alloc] at this
theorem hd_news {w a : World} {R : Rg} {b9 o9 ch : Nat} {V : Array Value} (h : HdAt w R (some ⟨b9, o9, none⟩) ch) (hb : StB w a V) : ∀ j u, (cellsH (R.h8.take R.rd))[j]? = some u → a.cell? ((⟨b9, o9, none⟩ : Addr).add j) = some u := by
  intro j u hu
  obtain ⟨b, o, e, _, hc⟩ := SeqAt.get h hb.1 hu
  simp only [Option.some.injEq, Addr.mk.injEq, and_true] at e
  obtain ⟨rfl, rfl⟩ := e
  rw [addr_plus]; exact hc
theorem sl_news {w a : World} {L : List Sl} {b8 o8 n c : Nat} {V : Array Value} (h : SeqS w 3 (.slice (some ⟨b8, o8, none⟩) n c) n (rowsOf slF L)) (hb : StB w a V) : ∀ j u, (rowsOf slF L)[j]? = some u → a.cell? ((⟨b8, o8, none⟩ : Addr).add j) = some u := by
  intro j u hu
  obtain ⟨_, A, c', e, _, _, _, hc⟩ := h.later hb.1
  simp only [Value.slice.injEq, Option.some.injEq] at e
  obtain ⟨rfl, _, _⟩ := e
  obtain ⟨b, o, e2, hc⟩ := hc j u hu
  simp only [Option.some.injEq, Addr.mk.injEq, and_true] at e2
  obtain ⟨rfl, rfl⟩ := e2
  rw [addr_plus]; exact hc
end Go.Proofs.Ytahojmioonpodaa
