import Derived.Test.YtflaaogopcgdaaaLaw8
import Derived.Deep.MidRow
import Derived.Deep.CutBlock
import Derived.Deep.DeepCutAuto
namespace Go.Proofs.Ytflaaogopcgdaaa
open Go.RowKit
set_option linter.unusedVariables false
set_option linter.unusedSimpArgs false
theorem lies_cells {g : Nat} {T : TypeId} : ∀ (vs : List Value) (pre ob post : List Value) (w : World), vs.length = ob.length → Lies w g T (pre ++ (ob ++ post)).toArray → Lies (w.setCells g pre.length vs) g T (pre ++ (vs ++ post)).toArray
  | [], pre, ob, post, w, hl, h => by
    obtain rfl : ob = [] := List.length_eq_zero_iff.1 hl.symm
    exact h
  | v :: vs, pre, [], post, w, hl, h => by simp at hl
  | v :: vs, pre, x :: ob, post, w, hl, h => by
    have h1 := Lies.putL h pre.length v
    rw [List.set_append_right _ _ (Nat.le_refl _), Nat.sub_self] at h1
    simp only [List.cons_append, List.set_cons_zero] at h1
    rw [show pre ++ v :: (ob ++ post) = (pre ++ [v]) ++ (ob ++ post) by simp] at h1
    have h2 := lies_cells vs (pre ++ [v]) ob post _ (by simpa using hl) h1
    rw [List.length_append] at h2
    simp only [List.append_assoc, List.cons_append, List.nil_append] at h2
    exact h2
theorem kept_cells {g : Nat} : ∀ (vs : List Value) (o : Nat) (w : World), Kept (oneRow g) w (w.setCells g o vs)
  | [], o, w => Kept.refl _ _
  | v :: vs, o, w => (Kept.put w g o v).trans (kept_cells vs (o + 1) _) (fun _ _ h => h)
theorem lies_there {w : World} {g : Nat} {T : TypeId} {cs : Array Value} (h : Lies w g T cs) {o n : Nat} (hn : o + n ≤ cs.size) : w.there g o n := fun j hj => ⟨by rw [h.cell, Array.getElem?_eq_getElem (by omega)]; rfl, h.free _⟩
abbrev pdF (p : Pd) : List Value := [.int .i64 (p.k : Int), .int .i64 p.j, .int .u64 (p.t : Int), .int .u64 (p.v : Int)]
theorem pdF_length (p : Pd) : (pdF p).length = 4 := rfl
theorem pdF_one (P : List Pd) : ∀ u ∈ rowsOf pdF P, u.oneCell' = true := fun u hu => by
  obtain ⟨x, _, hx⟩ := rowsOf_mem hu
  simp at hx
  rcases hx with rfl | rfl | rfl | rfl <;> rfl
/-- The pending operations of six clients in block n. -/
def NowAt (w : World) (n : Nat) (P : List Pd) : Prop := P.length = 6 ∧ Lies w n 56 (rowsOf pdF P).toArray
theorem Try.info6 : (Try.prog.info? 56).map (·.size) = some 24 := by kernel_rfl
theorem Try.infoP : (Try.prog.info? 55).map (·.size) = some 4 := by kernel_rfl
theorem under6 : Try.prog.underlying 56 = some (.array 6 55) := by kernel_rfl
theorem underP : Try.prog.underlying 55 = some (.struct (Try.prog.fieldsOf 55)) := by kernel_rfl
section
variable {w w' : World} {n m : Nat} {P : List Pd} {p : Pd}
theorem NowAt.kept {S : Nat → Prop} (h : NowAt w n P) (k : Kept S w w') (hn : ¬ S n) : NowAt w' n P := ⟨h.1, h.2.kept k hn⟩
theorem NowAt.later (h : NowAt w n P) (k : Below w.heap.size w w') : NowAt w' n P := ⟨h.1, h.2.below k h.2.lt⟩
theorem NowAt.rows (h : NowAt w n P) : (rowsOf pdF P).length = 24 := by rw [rowsOf_length pdF_length, h.1]
theorem NowAt.range (h : NowAt w n P) : w.rangeAt n 0 (rowsOf pdF P) := fun j v hv => by
  rw [Nat.zero_add, h.2.cell, List.getElem?_toArray]; exact hv
theorem NowAt.one (h : NowAt w n P) (hp : P[m]? = some p) : w.rangeAt n (m * 4) (pdF p) := fun j v hv => by
  have hj : j < 4 := (List.getElem?_eq_some_iff.1 hv).1
  rw [h.2.cell, List.getElem?_toArray, rowsOf_get pdF_length hp hj]; exact hv
theorem NowAt.there (h : NowAt w n P) (hm : m < 6) : w.there n (m * 4) 4 := lies_there h.2 (by simp only [List.size_toArray]; rw [h.rows]; omega)
theorem NowAt.set (h : NowAt w n P) (hm : m < 6) (p' : Pd) : NowAt (w.setCells n (m * 4) (pdF p')) n (P.set m p') := by
  refine ⟨by rw [List.length_set]; exact h.1, ?_⟩
  have hr := h.rows
  have e1 : rowsOf pdF P = (rowsOf pdF P).take (m * 4) ++ (((rowsOf pdF P).drop (m * 4)).take 4 ++ (rowsOf pdF P).drop ((m + 1) * 4)) := by
    have h2 : (rowsOf pdF P).drop ((m + 1) * 4) = ((rowsOf pdF P).drop (m * 4)).drop 4 := by rw [List.drop_drop]; congr 1; omega
    rw [h2, List.take_append_drop, List.take_append_drop]
  have hl : ((rowsOf pdF P).take (m * 4)).length = m * 4 := by rw [List.length_take]; omega
  have h1 := h.2
  rw [e1] at h1
  have h3 := lies_cells (pdF p') _ _ _ _ (by rw [List.length_take, List.length_drop]; simp; omega) h1
  rw [hl, ← List.append_assoc, rowsOf_set pdF_length P m p' (by rw [h.1]; exact hm)] at h3
  exact h3
end
def Distinct (P : List Pd) : Prop := ∀ (i k : Nat) (p r : Pd), i ≠ k → P[i]? = some p → P[k]? = some r → PdNe p r
theorem Distinct.set {P : List Pd} (h : Distinct P) {m : Nat} {p' : Pd} (hn : ∀ (i : Nat) (r : Pd), i ≠ m → P[i]? = some r → PdNe p' r ∧ PdNe r p') : Distinct (P.set m p') := by
  intro i k p r hik hp hr
  rw [List.getElem?_set] at hp hr
  by_cases h1 : m = i
  · rw [if_pos h1] at hp
    rw [if_neg (by omega)] at hr
    split at hp
    · injection hp with hp
      subst hp
      exact (hn k r (by omega) hr).1
    · cases hp
  · rw [if_neg h1] at hp
    by_cases h2 : m = k
    · rw [if_pos h2] at hr
      split at hr
      · injection hr with hr
        subst hr
        exact (hn i p (by omega) hp).2
      · cases hr
    · rw [if_neg h2] at hr
      exact h i k p r hik hp hr
/-- All pending operations are as they should be. -/
def SixOk (R : Rg) (all : List Int) (P : List Pd) : Prop := (∀ p ∈ P, PdOk R all p ∧ p.v < 18446744073709551616) ∧ Distinct P
theorem SixOk.zero {R : Rg} {all : List Int} : SixOk R all (List.replicate 6 pd0) := by
  refine ⟨fun p hp => ?_, fun i k p r _ hp hr => ?_⟩
  · have := List.eq_of_mem_replicate hp
    subst this
    exact ⟨.inl rfl, by decide⟩
  · have := List.eq_of_mem_replicate (List.mem_of_getElem? hp)
    subst this
    exact (ne_pd0 r).1
theorem SixOk.begin_ {R R' : Rg} {all all' : List Int} {P : List Pd} (h : SixOk R all P) {m : Nat} {p' : Pd} (h1 : ∀ z, PdOk R all z → PdOk R' all' z) (h2 : PdOk R' all' p') (h3 : ∀ z, PdOk R all z → PdNe p' z ∧ PdNe z p') (h4 : p'.v < 18446744073709551616) : SixOk R' all' (P.set m p') := by
  refine ⟨fun p hp => ?_, h.2.set (fun i r _ hr => h3 r (h.1 r (List.mem_of_getElem? hr)).1)⟩
  rcases List.mem_or_eq_of_mem_set hp with hp | rfl
  · exact ⟨h1 p (h.1 p hp).1, (h.1 p hp).2⟩
  · exact ⟨h2, h4⟩
theorem SixOk.further_ {R R' : Rg} {all : List Int} {P : List Pd} (h : SixOk R all P) {m : Nat} {p p' : Pd} (hp : P[m]? = some p) (h0 : p' = p ∨ p' = pd0) (h1 : ∀ x, PdNe x p → PdOk R all x → PdOk R' all x) (h2 : PdOk R' all p') : SixOk R' all (P.set m p') := by
  refine ⟨fun z hz => ?_, h.2.set (fun i r hi hr => ?_)⟩
  · obtain ⟨i, hi⟩ := List.mem_iff_getElem?.1 hz
    rw [List.getElem?_set] at hi
    split at hi
    · split at hi
      · injection hi with hi
        subst hi
        refine ⟨h2, ?_⟩
        rcases h0 with rfl | rfl
        · exact (h.1 _ (List.mem_of_getElem? hp)).2
        · decide
      · cases hi
    · rename_i hne
      have hzo := h.1 z (List.mem_of_getElem? hi)
      exact ⟨h1 z (h.2 i m z p (fun e => hne e.symm) hi hp) hzo.1, hzo.2⟩
  · rcases h0 with rfl | rfl
    · exact ⟨h.2 m i _ r (fun e => hi e.symm) hp hr, h.2 i m r _ hi hr hp⟩
    · exact ne_pd0 r
theorem six_is (a : Int) : ∃ m : Nat, wrap64 ((IntKind.u64.wrap a).tmod 6) = (m : Int) ∧ m < 6 := by
  have e0 : 0 ≤ IntKind.u64.wrap a := by rw [IntKind.wrap_u64]; omega
  have e1 : (IntKind.u64.wrap a).tmod 6 = IntKind.u64.wrap a % 6 := Int.tmod_eq_emod_of_nonneg e0
  rw [e1]
  generalize IntKind.u64.wrap a = u at *
  refine ⟨(u % 6).toNat, ?_, by omega⟩
  unfold wrap64; omega
theorem lin_new {cap rd : Nat} (h1 : 1 ≤ cap) (h2 : cap ≤ 64) (h3 : 1 ≤ rd) (h4 : rd ≤ 8) : Lin (newR cap rd) (newM cap rd) [] := by
  have hG : (newM cap rd).G.length = rd := by unfold newM; simp
  refine ⟨Inv.new h1 h2 h3 h4, rfl, hG.symm, ?_, rfl, rfl, ⟨rfl, rfl⟩, ?_, fun i x hi ho => ?_⟩
  · unfold newR newM
    simp only
    rw [show [0, 0, 0, 0, 0, 0, 0, 0] = List.replicate 8 0 from rfl, List.take_replicate, Nat.min_eq_left h4]
  · exact (List.eq_of_mem_replicate (show leastG (newM cap rd).G ∈ List.replicate rd 0 from leastG_in (by simp; omega))).symm
  · unfold newR newS at hi
    simp only at hi
    obtain ⟨k, _, rfl⟩ := List.mem_map.1 (List.mem_of_getElem? hi)
    simp only at ho; omega
end Go.Proofs.Ytflaaogopcgdaaa
