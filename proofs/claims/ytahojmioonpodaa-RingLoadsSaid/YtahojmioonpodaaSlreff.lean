import Derived.Test.YtahojmioonpodaaSlref5
namespace Go.Proofs.Ytahojmioonpodaa
open Go.RowKit
set_option linter.unusedVariables false
set_option linter.unusedSimpArgs false
theorem RefSl.from_ {w : World} {v : Value} {r : Nat} {L : List Sl} {B : Nat} (h : RefSl w v r L) (hf : RefFrom B v) (hl : 1 ≤ L.length) :
    ∃ A c, v = .agg #[.slice (some A) L.length c, .int .i64 (r : Int)] ∧ SeqS w 3 (.slice (some A) L.length c) L.length (rowsOf slF L) ∧ B ≤ A.block := by
  obtain ⟨A, c, rfl, hs⟩ := h
  obtain ⟨A', n', c', R, e, hb⟩ := hf
  simp only [Value.agg.injEq, Array.mk.injEq, List.cons.injEq, Value.slice.injEq] at e
  obtain ⟨⟨rfl, _, _⟩, _⟩ := e
  obtain ⟨x, hx⟩ : ∃ x, L[0]? = some x := ⟨_, List.getElem?_eq_getElem (by omega)⟩
  obtain ⟨b, o, rfl, _⟩ := SeqS.at_ slF_length (by decide) hs hx
  exact ⟨_, c, rfl, hs, hb b o rfl⟩
theorem ref12PutF {w : World} {A : Addr} {c r t v p B : Nat} {L : List Sl} (hs : SeqS w 3 (.slice (some A) p c) p (rowsOf slF L)) (hL : L.length = p) (hl : SlOk r L) (ht : t ≤ 18446744073709551615) (hv : v ≤ 18446744073709551615) (hB : B ≤ A.block) (hBw : B ≤ w.heap.size) :
    Calls Try.prog 56 #[.agg #[.slice (some A) p c, .int .i64 (r : Int)], .int .u64 t, .int .u64 v] w fun e w' => ∃ b o c', e = .returned (.tuple #[.int .i64 (putE L t : Nat), .agg #[.slice (some ⟨b, o, none⟩) p c', .int .i64 (r : Int)]]) ∧
      SeqS w' 3 (.slice (some ⟨b, o, none⟩) p c') p (rowsOf slF (putS r L t v)) ∧ B ≤ b ∧ Below w.heap.size w w' := by
  subst hL
  refine (ref12Put _ r t v L w ⟨some A, c, rfl, hs⟩ hl ht hv).mono fun e w' ⟨v', he, hr, hb, hf⟩ => ?_
  obtain ⟨A', c', rfl, hq, hB'⟩ := hr.from_ (hf B ⟨_, _, _, _, rfl, fun b o e => by simp at e; rw [e] at hB; exact hB⟩ hBw) (by rw [putS_length]; exact hl.1)
  rw [putS_length] at he hq
  obtain ⟨x, hx⟩ : ∃ x, (putS r L t v)[0]? = some x := ⟨_, List.getElem?_eq_getElem (by rw [putS_length]; exact hl.1)⟩
  obtain ⟨b, o, e, _⟩ := SeqS.at_ slF_length (by decide) hq hx
  simp only [Option.some.injEq] at e
  subst e
  exact ⟨b, o, c', he, hq, hB', hb⟩
theorem ref12GetF {w : World} {A : Addr} {c r t p B : Nat} {j : Int} {L : List Sl} (hs : SeqS w 3 (.slice (some A) p c) p (rowsOf slF L)) (hL : L.length = p) (hl : SlOk r L) (ht : t ≤ 18446744073709551615) (hB : B ≤ A.block) (hBw : B ≤ w.heap.size) :
    Calls Try.prog 57 #[.agg #[.slice (some A) p c, .int .i64 (r : Int)], .int .i64 j, .int .u64 t] w fun e w' => ∃ b o c', e = .returned (.tuple #[.int .u64 (getV r L j t : Nat), .int .i64 (getE r L j t : Nat), .agg #[.slice (some ⟨b, o, none⟩) p c', .int .i64 (r : Int)]]) ∧
      SeqS w' 3 (.slice (some ⟨b, o, none⟩) p c') p (rowsOf slF (getS r L j t)) ∧ B ≤ b ∧ Below w.heap.size w w' := by
  subst hL
  refine (ref12Get _ r t j L w ⟨some A, c, rfl, hs⟩ hl ht).mono fun e w' ⟨v', he, hr, hb, hf⟩ => ?_
  obtain ⟨A', c', rfl, hq, hB'⟩ := hr.from_ (hf B ⟨_, _, _, _, rfl, fun b o e => by simp at e; rw [e] at hB; exact hB⟩ hBw) (by rw [getS_length]; exact hl.1)
  rw [getS_length] at he hq
  obtain ⟨x, hx⟩ : ∃ x, (getS r L j t)[0]? = some x := ⟨_, List.getElem?_eq_getElem (by rw [getS_length]; exact hl.1)⟩
  obtain ⟨b, o, e, _⟩ := SeqS.at_ slF_length (by decide) hq hx
  simp only [Option.some.injEq] at e
  subst e
  exact ⟨b, o, c', he, hq, hB', hb⟩
theorem seq_ne {w : World} {b b' o p c n c0 : Nat} {T : TypeId} {A : Option Addr} {r : Int} {L : List Sl} (hb : Lies w b T #[.slice A n c0, .int .i64 r]) (hs : SeqS w 3 (.slice (some ⟨b', o, none⟩) p c) p (rowsOf slF L)) (hp : 1 ≤ L.length) : b' ≠ b := by
  rintro rfl
  obtain ⟨x, hx⟩ : ∃ x, L[0]? = some x := ⟨_, List.getElem?_eq_getElem (by omega)⟩
  obtain ⟨b2, o2, e, _, g⟩ := SeqS.at_ slF_length (by decide) hs hx
  simp only [Option.some.injEq, Addr.mk.injEq, and_true] at e
  obtain ⟨rfl, rfl⟩ := e
  have h0 := g 0 _ (by decide) rfl
  have h1 := g 1 _ (by decide) rfl
  rw [hb.cell] at h0 h1
  match o, h0, h1 with
  | 0, h0, _ => simp at h0
  | 1, h0, _ => simp at h0
  | o + 2, h0, _ => simp at h0
end Go.Proofs.Ytahojmioonpodaa
