import Derived.Test.YtflaaogopcgdaaaLaw2
namespace Go.Proofs.Ytflaaogopcgdaaa
open Go.RowKit
set_option linter.unusedVariables false
set_option linter.unusedSimpArgs false
/-- A ring as it is asked for. -/
structure Rc where
  k : Int
  c : Int
  r : Int
def rcOk (z : Rc) : Prop := (-9223372036854775808 ≤ z.k ∧ z.k ≤ 9223372036854775807) ∧ (-9223372036854775808 ≤ z.c ∧ z.c ≤ 9223372036854775807) ∧ (-9223372036854775808 ≤ z.r ∧ z.r ≤ 9223372036854775807)
theorem list3_ {l : List Value} (h : l.length = 3) : ∃ a b c, l = [a, b, c] := by
  match l, h with
  | [a, b, c], _ => exact ⟨a, b, c, rfl⟩
set_option maxRecDepth 100000 in
theorem opened23 {W : World} {H : Type} {enc : TypeId × Value → H} {base : Nat} {v : Value} {d : DataW H} {p : List MemPlace}
    (hok : Value.okWide Try.prog W .any base 23 v) (h : DataW.Trod enc Try.prog W 0 (fun _ => true) true 23 v d p) :
    ∃ z : Rc, v = .agg #[.int .i64 z.k, .int .i64 z.c, .int .i64 z.r] ∧ rcOk z := by
  obtain ⟨cs, rfl, hl⟩ := WideShapes.okWide_struct Try.underlying23 hok
  obtain ⟨n, h⟩ := h
  obtain ⟨z0, g0, b0⟩ := int_field (i := 0) (k := .i64) Try.underlying23 h rfl ⟨Try.underlying3, rfl, by kernel_rfl⟩
  obtain ⟨z1, g1, b1⟩ := int_field (i := 1) (k := .i64) Try.underlying23 h rfl ⟨Try.underlying3, rfl, by kernel_rfl⟩
  obtain ⟨z2, g2, b2⟩ := int_field (i := 2) (k := .i64) Try.underlying23 h rfl ⟨Try.underlying3, rfl, by kernel_rfl⟩
  have hl4 : cs.toList.length = 3 := by rw [Array.length_toList, hl]; kernel_rfl
  obtain ⟨x0, x1, x2, hx⟩ := list3_ hl4
  have hcs : cs = #[x0, x1, x2] := Array.toList_inj.1 hx
  subst hcs
  simp [Value.cells] at g0 g1 g2
  subst g0 g1 g2
  exact ⟨⟨z0, z1, z2⟩, rfl, Go.bounds_i64 b0, Go.bounds_i64 b1, Go.bounds_i64 b2⟩
set_option maxHeartbeats 1000000 in
theorem refMay (k c r : Int) (w : World) : Calls Try.prog 11 #[.agg #[.int .i64 k, .int .i64 c, .int .i64 r]] w fun e w' => e = .returned (.bool (mayB k c r)) ∧ Below w.heap.size w w' := by
  go_enter Try.func11, Try.ntmps11
  go_wp2
  all_goals
    go_ret
    refine ⟨ret_bool ?_, (Below.refl _ _).alloc (Nat.le_refl _) _⟩
    unfold mayB
    rw [Bool.eq_iff_iff]
    simp
    try omega
theorem Try.infoI64 : (Try.prog.info? 3).map (fun i => (i.zero, i.size, i.bytes)) = some (some (.int .i64 0), 1, 8) := by kernel_rfl
def cellsI (l : List Nat) : List Value := l.map fun (n : Nat) => Value.int .i64 (n : Int)
theorem cellsI_get {l : List Nat} {k n : Nat} (h : l[k]? = some n) : (cellsI l)[k]? = some (.int .i64 (n : Int)) := by simp [cellsI, h]
theorem cellsI_set (l : List Nat) (i x : Nat) : cellsI (l.set i x) = (cellsI l).set i (.int .i64 (x : Int)) := by unfold cellsI; rw [List.map_set]
theorem off_lies {w : World} {B : Nat} {e : TypeId} {v : Value} {n r : Nat} {xs : List Value} (h : OwnsOff w B e v n xs) (hv : v.ownBlock = some r) : ∃ cur, Lies w r e cur := by
  rcases h.2 with ⟨rfl, _⟩ | ⟨g, off, cap, cur, rfl, _, hg, _⟩
  · simp [Value.ownBlock] at hv
  · simp [Value.ownBlock] at hv
    subst hv
    exact ⟨cur, hg⟩
theorem row_lies {w : World} {B : Nat} {e : TypeId} {v : Value} {n r sz : Nat} {xs : List Value} (h : w.ownsRow B e sz v n xs) (hv : v.ownBlock = some r) : ∃ cur, Lies w r e cur := by
  rcases h.2 with ⟨rfl, _⟩ | ⟨g, cap, cur, rfl, _, hg, _⟩
  · simp [Value.ownBlock] at hv
  · simp [Value.ownBlock] at hv
    subst hv
    exact ⟨cur, hg⟩
section
variable {wA w w' : World} {g gb q : Nat} {vb : Option Nat} {M M' : Md} {lv : Value} {l : List Int} {T : TypeId} {cs : Array Value}
/-- A block of another type is none of the log's, and not the list's. -/
theorem QAt.apart (h : QAt wA w g gb vb M lv l) (hl : Lies w q T cs) (h1 : T ≠ 36) (h2 : T ≠ 68) : q ≠ g ∧ q ≠ gb ∧ vb ≠ some q ∧ lv.ownBlock ≠ some q := by
  obtain ⟨⟨_, _, _, _, _, _, A, c, cg, hm, ho, hg, rfl⟩, ho2, _, _⟩ := h
  refine ⟨?_, ?_, ?_, ?_⟩
  · rintro rfl; exact h2 (hl.same hm).1
  · rintro rfl
    obtain ⟨cur, hc⟩ := row_lies hg rfl
    exact h1 (hl.same hc).1
  · intro e
    obtain ⟨cur, hc⟩ := off_lies ho e
    exact h1 (hl.same hc).1
  · intro e
    obtain ⟨cur, hc⟩ := off_lies ho2 e
    exact h1 (hl.same hc).1
theorem QAt.other (h : QAt wA w g gb vb M lv l) (hk : Kept (oneRow q) w w') (ha : q ≠ g ∧ q ≠ gb ∧ vb ≠ some q ∧ lv.ownBlock ≠ some q) (hB : wA.heap.size ≤ q) : QAt wA w' g gb vb M lv l :=
  ⟨h.1.kept hk (fun (e : g = q) => ha.1 e.symm) (fun (e : gb = q) => ha.2.1 e.symm) (fun r e (e2 : r = q) => ha.2.2.1 (by rw [e, e2])), h.2.1.kept hk (fun r e (e2 : r = q) => ha.2.2.2 (by rw [e, e2])), h.2.2.1,
    h.2.2.2.trans (hk.below h.2.2.2.size (fun i hi (e : i = q) => by omega))⟩
/-- A row of ints beside a log. -/
theorem row_step {B n : Nat} {v : Value} {xs : List Value} (ho : w.ownsRow B 3 1 v n xs) (h : QAt wA w g gb vb M lv l) (hs : MdStep w w' wA.heap.size g gb vb M') : w'.ownsRow B 3 1 v n xs := by
  obtain ⟨_, _, hk, _⟩ := hs
  refine owns_kept ho hk (fun r cur e hl hr => ?_)
  obtain ⟨a, b, c, _⟩ := h.apart hl (by decide) (by decide)
  rcases hr with hr | hr | hr
  · exact a hr
  · exact b hr
  · exact c hr
theorem row_push {B n : Nat} {v : Value} {xs : List Value} (ho : w.ownsRow B 3 1 v n xs) (h : QAt wA w g gb vb M lv l) (hk : Kept (fun k => lv.ownBlock = some k) w w') : w'.ownsRow B 3 1 v n xs :=
  owns_kept ho hk (fun r cur e hl hr => (h.apart hl (by decide) (by decide)).2.2.2 hr)
end
/-- What of all was put is kept. -/
def AllOk (M : Md) (l : List Int) : Prop := M.p + M.L.length = l.length ∧ l.drop M.p = M.L
theorem AllOk.put {M : Md} {l : List Int} (h : AllOk M l) (v : Int) : AllOk { M with L := M.L ++ [v] } (l ++ [v]) := by
  obtain ⟨h1, h2⟩ := h
  refine ⟨by simp; omega, ?_⟩
  simp only
  rw [List.drop_append_of_le_length (by omega), h2]
theorem AllOk.get {M : Md} {l : List Int} (h : AllOk M l) (hM : MdOk M) {j : Int} (hE : mgetE M j = 0) : AllOk (mgetM M j) l ∧ l[gotM M j]? = some (mgetV M j) ∧ readsM M j = true ∧ gotM M j < l.length ∧ (mgetM M j).G = M.G.set j.toNat (gotM M j + 1) ∧ (mgetM M j).cap = M.cap ∧ (mgetM M j).cl = M.cl := by
  obtain ⟨h1, h2⟩ := h
  have hr : readsM M j = true := by
    cases hr : readsM M j
    · unfold mgetE at hE; rw [hr, if_neg (by decide)] at hE; omega
    · rfl
  have hn : restM M j ≠ [] := fun hn => by
    unfold mgetE at hE
    rw [hr, if_pos rfl, if_pos hn] at hE
    split at hE <;> omega
  obtain ⟨g1, g2⟩ := got_get hr
  obtain ⟨b1, b2⟩ := hM.2.2.2.2.2.1 _ (List.mem_of_getElem? g1)
  have h3 : gotM M j - M.p < M.L.length := by
    refine Nat.lt_of_not_le (fun h => hn ?_)
    unfold restM; exact List.drop_eq_nil_of_le h
  have hs := hM.step hr hn
  obtain ⟨l1, l2⟩ := hs.2.2.2.2.2.1 _ (leastG_in hs.2.2.1)
  have hm : mgetM M j = dropM (stepG M j) := by unfold mgetM; rw [hE, if_pos rfl]
  rw [hm]
  have e1 : (stepG M j).p = M.p := rfl
  have e2 : (stepG M j).L = M.L := rfl
  rw [e1, e2] at l2
  rw [e1] at l1
  refine ⟨⟨?_, ?_⟩, ?_, hr, by omega, rfl, rfl, rfl⟩
  · unfold dropM; simp only [List.length_drop]; rw [e1, e2]; omega
  · unfold dropM; simp only; rw [e1, e2, ← h2, List.drop_drop]; congr 1; omega
  · have hv : (restM M j)[0]? = l[gotM M j]? := by
      unfold restM
      rw [List.getElem?_drop, ← h2, List.getElem?_drop]; congr 1; omega
    obtain ⟨v, hvv⟩ : ∃ v, l[gotM M j]? = some v := ⟨_, List.getElem?_eq_getElem (by omega)⟩
    rw [hvv] at hv ⊢
    unfold mgetV
    rw [hE, if_pos rfl, List.headD_eq_head?_getD, List.head?_eq_getElem?, hv]; rfl
end Go.Proofs.Ytflaaogopcgdaaa
