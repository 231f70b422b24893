import Derived.Test.YtflaaogopcgdaaaLaw4
import Derived.Test.YtflaaogopcgdaaaM14c
import Derived.Deep.DeepCutAuto
namespace Go.Proofs.Ytflaaogopcgdaaa
open Go.RowKit
set_option linter.unusedVariables false
set_option linter.unusedSimpArgs false
theorem seqAt_kept {S : Nat → Prop} {w w' : World} {A : Option Addr} {n c : Nat} {xs : List Value} (h : SeqAt w (.slice A n c) xs) (k : Kept S w w') (hn : ∀ b o, A = some ⟨b, o, none⟩ → ¬ S b) : SeqAt w' (.slice A n c) xs := by
  obtain ⟨A', c', e, h1, h2, h3⟩ := h
  refine ⟨A', c', e, h1, h2, fun j u hu => ?_⟩
  obtain ⟨b, off, rfl, hc⟩ := h3 j u hu
  simp only [Value.slice.injEq] at e
  have hlt := World.block_lt_of_cell? w _ hc
  refine ⟨b, off, rfl, ?_⟩
  unfold World.cell? at hc ⊢
  rw [k.at_ b hlt (hn b off e.1)]
  exact hc
theorem MdAt.apart {w : World} {B g gb q : Nat} {vb : Option Nat} {M : Md} {T : TypeId} {cs : Array Value} (h : MdAt w B g gb vb M) (hl : Lies w q T cs) (h1 : T ≠ 36) (h2 : T ≠ 68) : q ≠ g ∧ q ≠ gb ∧ vb ≠ some q := by
  obtain ⟨_, _, _, _, _, _, A, c, cg, hm, ho, hg, rfl⟩ := h
  refine ⟨?_, ?_, ?_⟩
  · rintro rfl; exact h2 (hl.same hm).1
  · rintro rfl
    obtain ⟨cur, hc⟩ := row_lies hg rfl
    exact h1 (hl.same hc).1
  · intro e
    obtain ⟨cur, hc⟩ := off_lies ho e
    exact h1 (hl.same hc).1
/-- A list that lies in none of these blocks. -/
def Apart (w : World) (g gb : Nat) (vb : Option Nat) (q : Nat) (A : Option Addr) : Prop := ∀ b o, A = some ⟨b, o, none⟩ → b < w.heap.size ∧ b ≠ g ∧ b ≠ gb ∧ vb ≠ some b ∧ b ≠ q
/-- A log, and the document's log boxed in block q. -/
def PlS (wA w : World) (g gb : Nat) (vb : Option Nat) (q : Nat) (M : Md) (V : Array Value) (L : List Int) (G : List Nat) (AL : Option Addr) (cL : Nat) (AG : Option Addr) (cG : Nat) : Prop :=
  MdAt w wA.heap.size g gb vb M ∧ Lies w q 34 V ∧ SeqAt w (.slice AL L.length cL) (vals L) ∧ SeqAt w (.slice AG G.length cG) (cellsI G) ∧ Apart w g gb vb q AL ∧ Apart w g gb vb q AG ∧ wA.heap.size ≤ q ∧ Below wA.heap.size wA w
section
variable {wA w w' w8 : World} {g gb q : Nat} {vb : Option Nat} {M M' : Md} {V : Array Value} {L L' : List Int} {G G' : List Nat} {AL AG AL' AG' : Option Addr} {cL cG cL' cG' : Nat}
theorem Apart.later {A : Option Addr} (h : Apart w g gb vb q A) (k : w.heap.size ≤ w'.heap.size) : Apart w' g gb vb q A := fun b o e => by
  obtain ⟨h1, h2⟩ := h b o e
  exact ⟨Nat.lt_of_lt_of_le h1 k, h2⟩
theorem PlS.later (h : PlS wA w g gb vb q M V L G AL cL AG cG) (k : Below w.heap.size w w') : PlS wA w' g gb vb q M V L G AL cL AG cG := by
  obtain ⟨h1, h2, h3, h4, h5, h6, h7, h8⟩ := h
  exact ⟨h1.later k, h2.below k h2.lt, h3.later_ k, h4.later_ k, h5.later k.size, h6.later k.size, h7, h8.trans (k.mono h8.size)⟩
theorem PlS.step (h : PlS wA w g gb vb q M V L G AL cL AG cG) (hs : MdStep w w' wA.heap.size g gb vb M') : ∃ vb', PlS wA w' g gb vb' q M' V L G AL cL AG cG := by
  obtain ⟨h1, h2, h3, h4, h5, h6, h7, h8⟩ := h
  have hb := hs.below h1 h8
  obtain ⟨p1, p2, p3⟩ := h1.apart h2 (by decide) (by decide)
  have h2' := h2.step hs p1 p2 p3
  obtain ⟨vb', m1, hk, hv⟩ := hs
  have hap : ∀ A, Apart w g gb vb q A → Apart w' g gb vb' q A := fun A ha b o e => by
    obtain ⟨a1, a2, a3, a4, a5⟩ := ha b o e
    refine ⟨Nat.lt_of_lt_of_le a1 hk.size, a2, a3, fun e2 => ?_, a5⟩
    rcases hv with rfl | ⟨k, rfl, hk⟩
    · exact a4 e2
    · simp only [Option.some.injEq] at e2
      omega
  have hkp : ∀ A n c xs, Apart w g gb vb q A → SeqAt w (.slice A n c) xs → SeqAt w' (.slice A n c) xs := fun A n c xs ha hs => seqAt_kept hs hk (fun b o e hr => by
    obtain ⟨a1, a2, a3, a4, a5⟩ := ha b o e
    rcases hr with hr | hr | hr
    · exact a2 hr
    · exact a3 hr
    · exact a4 hr)
  exact ⟨vb', m1, h2', hkp _ _ _ _ h5 h3, hkp _ _ _ _ h6 h4, hap _ h5, hap _ h6, h7, hb⟩
theorem Apart.next {A A' : Option Addr} (h : Apart w g gb vb q A) (hm : MdAt w wA.heap.size g gb vb M) (hq : q < w.heap.size) (hn : NewAt w w8 A A') (hk : w.heap.size ≤ w8.heap.size) : Apart w8 g gb vb q A' := by
  rcases hn with rfl | hn
  · exact h.later hk
  · intro b o e
    obtain ⟨n1, n2⟩ := hn b o e
    obtain ⟨v1, v2, v3⟩ := hm.vlt
    exact ⟨n2, by omega, by omega, fun e2 => by have := v3 b e2; omega, by omega⟩
/-- Behind a call of the document's log, its result stored. -/
theorem PlS.next (h : PlS wA w g gb vb q M V L G AL cL AG cG) (k : Below w.heap.size w w8) (hL : SeqAt w8 (.slice AL' L'.length cL') (vals L')) (hG : SeqAt w8 (.slice AG' G'.length cG') (cellsI G')) (nL : NewAt w w8 AL AL') (nG : NewAt w w8 AG AG') (hV : V.size = 4) (a0 a1 a2 a3 : Value) :
    PlS wA (stf w8 q a0 a1 a2 a3) g gb vb q M #[a0, a1, a2, a3] L' G' AL' cL' AG' cG' := by
  obtain ⟨h1, h2, h3, h4, h5, h6, h7, h8⟩ := h
  have hq := h2.lt
  have m8 := h1.later k
  have l8 := h2.below k hq
  obtain ⟨p1, p2, p3⟩ := m8.apart l8 (by decide) (by decide)
  have hk := stf_kept w8 q a0 a1 a2 a3
  have aL := Apart.next h5 h1 hq nL k.size
  have aG := Apart.next h6 h1 hq nG k.size
  exact ⟨m8.kept hk (fun (e : g = q) => p1 e.symm) (fun (e : gb = q) => p2 e.symm) (fun r e (e2 : r = q) => p3 (by rw [e, e2])), stf_lies l8 hV, seqAt_kept hL hk (fun b o e (e2 : b = q) => (aL b o e).2.2.2.2 e2), seqAt_kept hG hk (fun b o e (e2 : b = q) => (aG b o e).2.2.2.2 e2),
    aL.later hk.size, aG.later hk.size, h7, (h8.trans (k.mono h8.size)).trans (hk.below (Nat.le_trans h8.size k.size) (fun i hi (e : i = q) => by omega))⟩
theorem PlS.shut {cap : Int} {nl ng : Nat} {b : Bool} (h : PlS wA w g gb vb q M (m4V cap AL nl cL AG ng cG b) L G AL cL AG cG) : PlS wA (w.setCell ⟨q, 3, none⟩ (.bool true)) g gb vb q M (m4V cap AL nl cL AG ng cG true) L G AL cL AG cG := by
  obtain ⟨h1, h2, h3, h4, h5, h6, h7, h8⟩ := h
  obtain ⟨p1, p2, p3⟩ := h1.apart h2 (by decide) (by decide)
  have hk := Kept.put w q 3 (.bool true)
  exact ⟨h1.kept hk (fun (e : g = q) => p1 e.symm) (fun (e : gb = q) => p2 e.symm) (fun r e (e2 : r = q) => p3 (by rw [e, e2])), h2.put 3 (.bool true), seqAt_kept h3 hk (fun b o e (e2 : b = q) => (h5 b o e).2.2.2.2 e2), seqAt_kept h4 hk (fun b o e (e2 : b = q) => (h6 b o e).2.2.2.2 e2),
    h5.later hk.size, h6.later hk.size, h7, h8.trans (hk.below h8.size (fun i hi (e : i = q) => by omega))⟩
end
theorem mput_same (M : Md) (v : Int) : (mputM M v).cap = M.cap ∧ (mputM M v).cl = M.cl ∧ (mputM M v).G = M.G ∧ (mputM M v).p = M.p := by
  unfold mputM; split <;> exact ⟨rfl, rfl, rfl, rfl⟩
theorem mget_same (M : Md) (j : Int) : (mgetM M j).cap = M.cap ∧ (mgetM M j).cl = M.cl := by
  unfold mgetM; split <;> exact ⟨rfl, rfl⟩
theorem mget_least {M : Md} (h : M.p = leastG M.G) (j : Int) : (mgetM M j).p = leastG (mgetM M j).G := by
  unfold mgetM; split
  · rfl
  · exact h
theorem AllOk.put_ {M : Md} {l : List Int} (h : AllOk M l) (v : Int) : AllOk (mputM M v) (putL M l v) := by
  unfold mputM putL
  split
  · exact h.put v
  · exact h
theorem AllOk.get_ {M : Md} {l : List Int} (h : AllOk M l) (hM : MdOk M) (j : Int) : AllOk (mgetM M j) l := by
  by_cases hE : mgetE M j = 0
  · exact (h.get hM hE).1
  · rw [(get_same hE).1]; exact h
theorem putL_length (M : Md) (l : List Int) (v : Int) : (putL M l v).length ≤ l.length + 1 := by unfold putL; split <;> simp
def k3 (k : Int) : Int := wrap64 ((IntKind.u64.wrap k).tmod 3)
end Go.Proofs.Ytflaaogopcgdaaa
