import Derived.Test.YtahojmioonpodaaKit
import Derived.Deep.RegionHeld
import Derived.Test.YtahojmioonpodaaOwn
import Derived.Deep.RegionLaw
import Derived.Test.YtahojmioonpodaaRgsame
import Derived.Test.YtahojmioonpodaaRgmath
import Derived.Test.YtahojmioonpodaaSlload2
import Derived.Test.YtahojmioonpodaaSlref
import Derived.StillTailTactics
import Derived.Test.YtahojmioonpodaaLaw2
import Derived.Test.YtahojmioonpodaaSlload
import Derived.Test.YtahojmioonpodaaLaw7
/-
  A region that draws its order, told operation by operation: each one's value by a predicate that the others keep. No order is gone through.
-/
namespace Go.Proofs.Ytahojmioonpodaa
open Go.RowKit
set_option linter.unusedVariables false
set_option linter.unusedSimpArgs false
section
variable {P : Program} {ops : Array Oper}
/-- Whom an operation waits for at once. -/
def dirs (ops : Array Oper) (i : Nat) : List Nat := match ops[i]? with | some o => (o.after.toList.filter (fun e => Region.binds .any e)).map (·.on) | none => []
/-- The frame with the values of some operations put. -/
def putsOf (ds : List (Option Tmp)) (x : Nat → Value) (a : Act) (js : List Nat) : Act := js.foldl (fun a j => a.put (ds.getD j none) (x j)) a
def QF : Exit → Act → World → Prop := fun _ _ _ => False
/-- One operation's step out of the frame b. -/
def StepV (P : Program) (ops : Array Oper) (i : Nat) (b : Act) (w : World) (R : Value → World → Prop) : Prop :=
  ∀ o, ops[i]? = some o → ∀ K' : Act → World → Prop, Shut (∀ a' w', (∃ v, a' = b.put o.dst v ∧ R v w') → K' a' w') → if Region.wanted o (yielded ops b.tmps) = true then Oper.wp P o b w K' QF else K' (b.put o.dst undef) w
theorem StepV.mk {i : Nat} {o : Oper} {b : Act} {w : World} {R : Value → World → Prop} (ho : ops[i]? = some o)
    (h : ∀ K' : Act → World → Prop, Shut (∀ a' w', (∃ v, a' = b.put o.dst v ∧ R v w') → K' a' w') → if Region.wanted o (yielded ops b.tmps) = true then Oper.wp P o b w K' QF else K' (b.put o.dst undef) w) : StepV P ops i b w R := by
  intro o' ho' K hK
  rw [ho] at ho'
  cases ho'
  exact h K hK
theorem all_in {l : List Nat} (q : Nat → Bool) (h : l.all q = true) {j : Nat} (hj : j ∈ l) : q j = true := List.all_eq_true.1 h j hj
/-- What a law for a list of operations says of one alone. -/
def QK (K : Act → World → Prop) : Exit → Act → World → Prop
  | .normal, a, w => K a w
  | _, _, _ => False
theorem step_list {o : Oper} {a : Act} {w : World} {K : Act → World → Prop} (hw : Region.wanted o (yielded ops a.tmps) = true) (h : wpList P ops (QK K) [o] a w) : Oper.wp P o a w K QF := by
  unfold wpList at h
  rw [if_pos hw] at h
  rcases h with h | ⟨_, hl⟩
  · unfold Oper.wp at *
    generalize (execOp a.eval o).run P w = r at *
    cases r with
    | ok n w' =>
      cases n <;> simp only [Oper.upon] at h ⊢
      case value u => exact h
      case skip => exact h
      case defer d => exact h
      case enter f args =>
        refine Calls.mono h fun e w'' he => ?_
        cases e with
        | returned u => exact he
        | panicked c => exact he.elim
        | outgrown => obtain ⟨_, _, h⟩ := he; exact h.elim
      case row row args => exact h
    | halt x w' =>
      cases x <;> simp only [Oper.upon] at h ⊢
      case panic u => exact h.elim
  · obtain ⟨_, _, h⟩ := hl
    exact h.elim
theorem put_tmps (a : Act) (d : Option Tmp) (v : Value) : (a.put d v).tmps.size = a.tmps.size ∧ (a.put d v).defers = a.defers := by
  cases d with
  | none => exact ⟨rfl, rfl⟩
  | some d => exact ⟨Array.size_setIfInBounds, rfl⟩
theorem act_ext {a b : Act} (h1 : a.tmps = b.tmps) (h2 : a.defers = b.defers) : a = b := by
  obtain ⟨_, _⟩ := a
  obtain ⟨_, _⟩ := b
  simp only at h1 h2
  rw [h1, h2]
theorem put_cong {a b : Act} {d : Option Tmp} {v v' : Value} (hs : a.tmps.size = b.tmps.size) (h : b.put d v = b.put d v') : a.put d v = a.put d v' := by
  cases d with
  | none => rfl
  | some d =>
    by_cases hd : d < b.tmps.size
    · have := congrArg (fun c => c.tmps[d]?) h
      simp only [Act.put] at this
      rw [Array.getElem?_setIfInBounds_self_of_lt hd, Array.getElem?_setIfInBounds_self_of_lt hd] at this
      injection this with this
      rw [this]
    · refine act_ext ?_ rfl
      simp only [Act.put]
      rw [Array.setIfInBounds, dif_neg (by rw [hs]; exact hd), Array.setIfInBounds, dif_neg (by rw [hs]; exact hd)]
theorem StepV.move {i : Nat} {o : Oper} {a b : Act} {w : World} {R : Value → World → Prop} {Q : Exit → Act → World → Prop} (ho : ops[i]? = some o) (hsel : ∀ cs b, o.op ≠ .select cs b)
    (hsz : a.tmps.size = b.tmps.size) (he : ∀ d ∈ o.looksAt ops, a.tmps[d]? = b.tmps[d]?) (h : StepV P ops i b w R) : wpOp P ops Q i (fun a' w' => ∃ v, a' = a.put o.dst v ∧ R v w') a w := by
  have h0 := h o ho (fun a' w' => ∃ v, a' = b.put o.dst v ∧ R v w') (fun _ _ h => h)
  have hex : execOp a.eval o = execOp b.eval o := by
    refine execOp_congr o hsel (fun x hx => ?_)
    cases x with
    | tmp t =>
      have := he t (List.mem_append_left _ (List.mem_filterMap.2 ⟨.tmp t, by simpa using hx, rfl⟩))
      show a.tmps.getD t undef = b.tmps.getD t undef
      rw [Array.getD_eq_getD_getElem?, Array.getD_eq_getD_getElem?, this]
    | _ => rfl
  have hwa : Region.wanted o (yielded ops a.tmps) = Region.wanted o (yielded ops b.tmps) := by
    unfold Region.wanted
    cases hg : o.guard with
    | none => rfl
    | some gw =>
      obtain ⟨g, want⟩ := gw
      have hy : yielded ops a.tmps g = yielded ops b.tmps g := by
        unfold yielded
        cases ht : (ops[g]?).bind (·.dst) with
        | none => rfl
        | some t =>
          have := he t (by simp [Oper.looksAt, hg, ht])
          simp only [Option.bind_some, this]
      simp only [hy]
  unfold wpOp
  simp only [ho]
  rw [hwa]
  split
  · rename_i hw
    rw [if_pos hw] at h0
    refine .inl ?_
    unfold Oper.wp at *
    rw [hex]
    generalize (execOp b.eval o).run P w = r at *
    cases r with
    | ok n w' =>
      cases n <;> simp only [Oper.upon] at h0 ⊢
      case value u => obtain ⟨v, e, hR⟩ := h0; exact ⟨v, put_cong hsz e, hR⟩
      case skip => obtain ⟨v, e, hR⟩ := h0; exact ⟨v, put_cong hsz e, hR⟩
      case defer d =>
        obtain ⟨v, e, hR⟩ := h0
        have := congrArg Act.defers e
        rw [(put_tmps _ _ _).2, (put_tmps _ _ _).2] at this
        exact absurd (congrArg List.length this) (by simp)
      case enter f args =>
        refine Calls.mono h0 fun e w'' he => ?_
        cases e with
        | returned u => obtain ⟨v, e, hR⟩ := he; exact ⟨v, put_cong hsz e, hR⟩
        | panicked c => exact he.elim
        | outgrown => obtain ⟨_, _, h⟩ := he; exact h.elim
      case row row args => exact Rows.mono h0 fun u w'' he => by obtain ⟨v, e, hR⟩ := he; exact ⟨v, put_cong hsz e, hR⟩
    | halt x w' =>
      cases x <;> simp only [Oper.upon] at h0 ⊢
      case panic u => exact h0.elim
  · rename_i hw
    rw [if_neg hw] at h0
    obtain ⟨v, e, hR⟩ := h0
    exact ⟨v, put_cong hsz e, hR⟩
/-- What is asked of the region's text: edges lead back; no temporary is written twice; what an operation looks at was written by one that it waits for, or is written by one that waits for it; what it eats nobody else looks at behind it. -/
def relyB (ops : Array Oper) (ds : List (Option Tmp)) (js es ps : List (List Nat)) (N : Nat) : Bool :=
  (ds == ops.toList.map (·.dst)) && Region.noSelect ops &&
  (List.range ops.size).all (fun i => (dirs ops i).all (fun e => decide (e < i)) && (js.getD i []).all (fun j => (dirs ops i).contains j || decide (ops.size ≤ j)) &&
    (List.range ops.size).all (fun j => (match ds.getD j none with
      | some t => (i == j || ds.getD i none != some t) && (i == j || (js.getD i []).contains j || (dirs ops j).contains i || !((ops.getD i default).looksAt ops).contains t)
      | none => true) && ((es.getD j []).all (fun e => !(js.getD i []).contains e || i == j || (dirs ops j).contains i))) &&
    (List.range N).all (fun j => i == j || (ps.getD i []).contains j || (es.getD i []).contains j || (dirs ops j).contains i || (dirs ops i).any (fun k => (es.getD k []).contains j)))
structure Rely (ops : Array Oper) (ds : List (Option Tmp)) (js es ps : List (List Nat)) (N : Nat) : Prop where
  ds_ : ds = ops.toList.map (·.dst)
  sel : Region.noSelect ops = true
  back : ∀ i e, i < ops.size → e ∈ dirs ops i → e < i
  sub : ∀ i j, i < ops.size → j ∈ js.getD i [] → j ∈ dirs ops i ∨ ops.size ≤ j
  one : ∀ i j t, i < ops.size → j < ops.size → ds.getD j none = some t → ds.getD i none = some t → i = j
  looks : ∀ i j t, i < ops.size → j < ops.size → ds.getD j none = some t → t ∈ (ops.getD i default).looksAt ops → i = j ∨ j ∈ js.getD i [] ∨ i ∈ dirs ops j
  eats : ∀ i j e, i < ops.size → j < ops.size → e ∈ es.getD j [] → e ∈ js.getD i [] → i = j ∨ i ∈ dirs ops j
  pres : ∀ i j, i < ops.size → j < N → i = j ∨ j ∈ ps.getD i [] ∨ j ∈ es.getD i [] ∨ i ∈ dirs ops j ∨ ∃ k ∈ dirs ops i, j ∈ es.getD k []
theorem Rely.of {ds : List (Option Tmp)} {js es ps : List (List Nat)} {N : Nat} (h : relyB ops ds js es ps N = true) : Rely ops ds js es ps N := by
  unfold relyB at h
  rw [Bool.and_eq_true, Bool.and_eq_true, List.all_eq_true] at h
  obtain ⟨⟨h1, h2⟩, h3⟩ := h
  have h4 := fun i (hi : i < ops.size) => h3 i (List.mem_range.2 hi)
  simp only [Bool.and_eq_true, List.all_eq_true] at h4
  have h5 := fun i hi j (hj : j < ops.size) => (h4 i hi).1.2 j (List.mem_range.2 hj)
  have h6 := fun i hi j (hj : j < N) => (h4 i hi).2 j (List.mem_range.2 hj)
  refine ⟨by simpa using h1, h2, fun i e hi he => ?_, fun i j hi hj => ?_, fun i j t hi hj h1 h2 => ?_, fun i j t hi hj h1 h2 => ?_, fun i j e hi hj h1 h2 => ?_, fun i j hi hj => ?_⟩
  · simpa using (h4 i hi).1.1.1 e he
  · have := (h4 i hi).1.1.2 j hj
    simpa using this
  · have := (h5 i hi j hj).1
    rw [h1] at this
    simp only [Bool.and_eq_true, Bool.or_eq_true, beq_iff_eq, bne_iff_ne] at this
    rcases this.1 with h | h
    · exact h
    · exact absurd h2 h
  · have := (h5 i hi j hj).1
    rw [h1] at this
    simp only [Bool.and_eq_true, Bool.or_eq_true, beq_iff_eq, bne_iff_ne, List.contains_iff_mem, Bool.not_eq_true'] at this
    rcases this.2 with ((h | h) | h) | h
    · exact .inl h
    · exact .inr (.inl h)
    · exact .inr (.inr h)
    · rw [List.contains_eq_mem, decide_eq_false_iff_not] at h
      exact absurd h2 h
  · have := (h5 i hi j hj).2 e h1
    simp only [Bool.or_eq_true, beq_iff_eq, List.contains_iff_mem, Bool.not_eq_true'] at this
    rcases this with (h | h) | h
    · rw [List.contains_eq_mem, decide_eq_false_iff_not] at h
      exact absurd h2 h
    · exact .inl h
    · exact .inr h
  · have := h6 i hi j hj
    simp only [Bool.or_eq_true, beq_iff_eq, List.contains_iff_mem, List.any_eq_true] at this
    rcases this with (((h | h) | h) | h) | h
    · exact .inl h
    · exact .inr (.inl h)
    · exact .inr (.inr (.inl h))
    · exact .inr (.inr (.inr (.inl h)))
    · exact .inr (.inr (.inr (.inr h)))
/-- Some facts are kept. -/
def AllP (V : Nat → Value → World → Prop) (w w' : World) : List Nat → Prop
  | [] => True
  | j :: l => (∀ u, V j u w → V j u w') ∧ AllP V w w' l
theorem AllP.get {V : Nat → Value → World → Prop} {w w' : World} : ∀ {l : List Nat}, AllP V w w' l → ∀ j ∈ l, ∀ u, V j u w → V j u w'
  | [], _, _, h => by cases h
  | k :: l, h, j, hj => by
    rcases List.mem_cons.1 hj with rfl | hj
    · exact h.1
    · exact h.2.get j hj
theorem AllP.same {V : Nat → Value → World → Prop} {w : World} : ∀ (l : List Nat), AllP V w w l
  | [] => trivial
  | _ :: l => ⟨fun _ h => h, AllP.same l⟩
theorem AllP.of {V : Nat → Value → World → Prop} {w w' : World} : ∀ (l : List Nat), (∀ j ∈ l, ∀ u, V j u w → V j u w') → AllP V w w' l
  | [], _ => trivial
  | k :: l, h => ⟨h k List.mem_cons_self, AllP.of l (fun j hj => h j (List.mem_cons_of_mem _ hj))⟩
/-- Some facts hold. -/
def AllV (V : Nat → Value → World → Prop) (x : Nat → Value) (w : World) : List Nat → Prop
  | [] => True
  | j :: l => V j (x j) w ∧ AllV V x w l
theorem AllV.of {V : Nat → Value → World → Prop} {x : Nat → Value} {w : World} : ∀ (l : List Nat), (∀ j ∈ l, V j (x j) w) → AllV V x w l
  | [], _ => trivial
  | k :: l, h => ⟨h k List.mem_cons_self, AllV.of l (fun j hj => h j (List.mem_cons_of_mem _ hj))⟩
/-- The frame in the course of the region. -/
structure FrV (ops : Array Oper) (ds : List (Option Tmp)) (a0 : Act) (x : Nat → Value) (listed : Array Bool) (a : Act) : Prop where
  size : a.tmps.size = a0.tmps.size
  defers : a.defers = a0.defers
  put : ∀ j t, j < ops.size → listed.getD j false = true → ds.getD j none = some t → t < a0.tmps.size → a.tmps[t]? = some (x j)
  old : ∀ t, (∀ j, j < ops.size → listed.getD j false = true → ds.getD j none ≠ some t) → a.tmps[t]? = a0.tmps[t]?
theorem putsOf_size (ds : List (Option Tmp)) (x : Nat → Value) : ∀ (js : List Nat) (a : Act), (putsOf ds x a js).tmps.size = a.tmps.size ∧ (putsOf ds x a js).defers = a.defers
  | [], a => ⟨rfl, rfl⟩
  | j :: js, a => by
    have h := putsOf_size ds x js (a.put (ds.getD j none) (x j))
    exact ⟨h.1.trans (put_tmps _ _ _).1, h.2.trans (put_tmps _ _ _).2⟩
theorem put_get (a : Act) (d : Option Tmp) (v : Value) (t : Nat) : (a.put d v).tmps[t]? = if d = some t ∧ t < a.tmps.size then some v else a.tmps[t]? := by
  cases d with
  | none => simp [Act.put]
  | some d =>
    simp only [Act.put, Option.some.injEq]
    by_cases h : d = t
    · subst h
      by_cases h2 : d < a.tmps.size
      · rw [Array.getElem?_setIfInBounds_self_of_lt h2, if_pos ⟨rfl, h2⟩]
      · rw [if_neg (fun h => h2 h.2), Array.setIfInBounds, dif_neg h2]
    · rw [Array.getElem?_setIfInBounds_ne h, if_neg (fun h2 => h h2.1)]
theorem putsOf_old (ds : List (Option Tmp)) (x : Nat → Value) (t : Nat) : ∀ (js : List Nat) (a : Act), (∀ j ∈ js, ds.getD j none ≠ some t) → (putsOf ds x a js).tmps[t]? = a.tmps[t]?
  | [], a, _ => rfl
  | j :: js, a, h => by
    have := putsOf_old ds x t js (a.put (ds.getD j none) (x j)) (fun k hk => h k (List.mem_cons_of_mem _ hk))
    exact this.trans (by rw [put_get, if_neg (fun e => h j List.mem_cons_self e.1)])
theorem putsOf_new (ds : List (Option Tmp)) (x : Nat → Value) (t i : Nat) : ∀ (js : List Nat) (a : Act), (∀ j ∈ js, ds.getD j none = some t → j = i) → i ∈ js → ds.getD i none = some t → t < a.tmps.size → (putsOf ds x a js).tmps[t]? = some (x i)
  | [], a, _, h, _, _ => by cases h
  | j :: js, a, h1, h2, h3, h4 => by
    by_cases hi : i ∈ js
    · exact putsOf_new ds x t i js (a.put (ds.getD j none) (x j)) (fun k hk => h1 k (List.mem_cons_of_mem _ hk)) hi h3 (by rw [(put_tmps _ _ _).1]; exact h4)
    · have hij : i = j := (List.mem_cons.1 h2).resolve_right hi
      subst hij
      have := putsOf_old ds x t js (a.put (ds.getD i none) (x i)) (fun k hk e => hi (by rw [← h1 k (List.mem_cons_of_mem _ hk) e]; exact hk))
      exact this.trans (by rw [put_get, if_pos ⟨h3, h4⟩])
theorem dirs_mem {i e : Nat} {o : Oper} (ho : ops[i]? = some o) : e ∈ dirs ops i ↔ ∃ g ∈ o.after, Region.binds .any g = true ∧ g.on = e := by
  unfold dirs
  rw [ho]
  simp only [List.mem_map, List.mem_filter, Array.mem_toList_iff]
  constructor
  · rintro ⟨g, ⟨h1, h2⟩, h3⟩; exact ⟨g, h1, h2, h3⟩
  · rintro ⟨g, h1, h2, h3⟩; exact ⟨g, ⟨h1, h2⟩, h3⟩
theorem getD_tf {listed : Array Bool} {j : Nat} (h : j < listed.size) (d d' : Bool) : listed.getD j d = listed.getD j d' := by
  simp [h]
def unl (listed : Array Bool) : Nat := listed.toList.countP (fun b => !b)
theorem unl_set {listed : Array Bool} {i : Nat} (hi : i < listed.size) (h : listed.getD i false = false) : unl (listed.setIfInBounds i true) + 1 = unl listed := by
  have hl : i < listed.toList.length := by simpa using hi
  have he : listed.toList[i] = false := by
    simpa [hi] using h
  have hp : 0 < listed.toList.countP (fun b => !b) := List.countP_pos_iff.2 ⟨false, by rw [← he]; exact List.getElem_mem hl, rfl⟩
  unfold unl
  rw [Array.toList_setIfInBounds, List.countP_set hl, he]
  simp only [Bool.not_false, if_true, Bool.not_true, Bool.false_eq_true, if_false]
  omega
theorem unl_zero {listed : Array Bool} (h : unl listed = 0) (j : Nat) (hj : j < listed.size) : listed.getD j false = true := by
  have := List.countP_eq_zero.1 h (listed.toList[j]'(by simpa using hj)) (List.getElem_mem _)
  simpa [hj] using this
theorem set_getD {listed : Array Bool} {i j : Nat} (hi : i < listed.size) : (listed.setIfInBounds i true).getD j false = true ↔ j = i ∨ listed.getD j false = true := by
  by_cases e : i = j
  · subst e
    simp [hi]
  · rw [getD_set_ne false e]
    constructor
    · exact .inr
    · rintro (h | h)
      · exact absurd h.symm e
      · exact h
theorem FrV.full {ds : List (Option Tmp)} {js es ps : List (List Nat)} {N : Nat} {a0 a : Act} {x : Nat → Value} {listed : Array Bool} (hok : Rely ops ds js es ps N) (h : FrV ops ds a0 x listed a) (hall : ∀ j, j < ops.size → listed.getD j false = true) :
    a = putsOf ds x a0 (List.range ops.size) := by
  have hz := putsOf_size ds x (List.range ops.size) a0
  refine act_ext ?_ (h.defers.trans hz.2.symm)
  apply Array.ext_getElem?
  intro t
  by_cases ht : t < a0.tmps.size
  · by_cases hex : ∃ j, j < ops.size ∧ ds.getD j none = some t
    · obtain ⟨j, hj, hd⟩ := hex
      rw [h.put j t hj (hall j hj) hd ht]
      exact (putsOf_new ds x t j _ a0 (fun k hk e => hok.one k j t (List.mem_range.1 hk) hj hd e) (List.mem_range.2 hj) hd ht).symm
    · rw [h.old t (fun j hj _ e => hex ⟨j, hj, e⟩)]
      exact (putsOf_old ds x t _ a0 (fun j hj e => hex ⟨j, List.mem_range.1 hj, e⟩)).symm
  · rw [Array.getElem?_eq_none (by rw [h.size]; omega), Array.getElem?_eq_none (by rw [hz.1]; omega)]
theorem FrV.step {ds : List (Option Tmp)} {js es ps : List (List Nat)} {N : Nat} {a0 a : Act} {x : Nat → Value} {listed : Array Bool} {i : Nat} {v : Value} (hok : Rely ops ds js es ps N) (h : FrV ops ds a0 x listed a) (hi : i < ops.size) (hs : listed.size = ops.size) (hu : listed.getD i false = false) :
    FrV ops ds a0 (fun j => if j = i then v else x j) (listed.setIfInBounds i true) (a.put (ds.getD i none) v) := by
  refine ⟨(put_tmps _ _ _).1.trans h.size, (put_tmps _ _ _).2.trans h.defers, fun j t hj hl hd ht => ?_, fun t hn => ?_⟩
  · rw [put_get]
    by_cases e : j = i
    · subst e
      rw [if_pos ⟨hd, by rw [h.size]; exact ht⟩, if_pos rfl]
    · rw [if_neg (fun e2 => e (hok.one j i t hj hi e2.1 hd)), if_neg e]
      exact h.put j t hj (((set_getD (by omega)).1 hl).resolve_left e) hd ht
  · rw [put_get, if_neg (fun e => hn i hi ((set_getD (by omega)).2 (.inl rfl)) e.1)]
    exact h.old t (fun j hj hl => hn j hj ((set_getD (by omega)).2 (.inr hl)))
theorem wpAny_rely {ds : List (Option Tmp)} {js es ps : List (List Nat)} {N : Nat} {Q : Exit → Act → World → Prop} {a0 : Act} {S : World → Prop} {V : Nat → Value → World → Prop} (hok : Rely ops ds js es ps N)
    (hjs : ∀ i j, i < ops.size → j ∈ js.getD i [] → j < N) (hstep : ∀ i, i < ops.size → ∀ (x : Nat → Value) (w : World), S w → AllV V x w (js.getD i []) →
      StepV P ops i (putsOf ds x a0 (js.getD i [])) w (fun v w' => S w' ∧ V i v w' ∧ AllP V w w' (ps.getD i [])))
    (hend : ∀ (x : Nat → Value) (w : World), S w → (∀ j, j < N → (∀ i, i < ops.size → j ∉ es.getD i []) → V j (x j) w) → Q .normal (putsOf ds x a0 (List.range ops.size)) w) :
    ∀ (fuel : Nat) (listed : Array Bool) (a : Act) (x : Nat → Value) (w : World), listed.size = ops.size → (∀ j, j < ops.size → listed.getD j false = true → ∀ e ∈ dirs ops j, listed.getD e false = true) → unl listed ≤ fuel → S w →
      (∀ j, j < N → (j < ops.size → listed.getD j false = true) → (∀ i, i < ops.size → listed.getD i false = true → j ∉ es.getD i []) → V j (x j) w) → FrV ops ds a0 x listed a → wpAny P .any ops Q fuel listed a w := by
  have hfin : ∀ (listed : Array Bool) (a : Act) (x : Nat → Value) (w : World), S w → (∀ j, j < ops.size → listed.getD j false = true) →
      (∀ j, j < N → (j < ops.size → listed.getD j false = true) → (∀ i, i < ops.size → listed.getD i false = true → j ∉ es.getD i []) → V j (x j) w) → FrV ops ds a0 x listed a → Q .normal a w := by
    intro listed a x w hS hall hV hF
    rw [hF.full hok hall]
    exact hend x w hS (fun j hj hn => hV j hj (hall j) (fun i hi _ => hn i hi))
  intro fuel
  induction fuel with
  | zero =>
    intro listed a x w hsz hdc hu hS hV hF
    have hall : ∀ j, j < ops.size → listed.getD j false = true := fun j hj => unl_zero (by omega) j (by omega)
    refine ⟨?_, hfin listed a x w hS hall hV hF⟩
    cases hr : Region.ready .any ops listed with
    | nil => rfl
    | cons i rs =>
      exfalso
      have hm : i ∈ Region.ready .any ops listed := by rw [hr]; exact List.mem_cons_self
      obtain ⟨h0, o, ho, _⟩ := mem_ready.1 hm
      have hi := (Array.getElem?_eq_some_iff.1 ho).1
      have := hall i hi
      rw [getD_tf (by omega) false true, h0] at this
      cases this
  | succ fuel ih =>
    intro listed a x w hsz hdc hu hS hV hF
    refine ⟨fun hr => hfin listed a x w hS ?_ hV hF, fun i hi => ?_⟩
    · intro j
      induction j using Nat.strongRecOn with
      | ind j ihj =>
        intro hj
        cases hl : listed.getD j false with
        | true => rfl
        | false =>
          exfalso
          have hm : j ∈ Region.ready .any ops listed := by
            refine mem_ready.2 ⟨by rw [getD_tf (by omega) true false]; exact hl, ops[j], Array.getElem?_eq_getElem hj, fun e he hb => ?_⟩
            have hd := (dirs_mem (Array.getElem?_eq_getElem hj)).2 ⟨e, he, hb, rfl⟩
            have hlt := hok.back j e.on hj hd
            exact ihj e.on hlt (by omega)
          rw [hr] at hm
          cases hm
    · obtain ⟨h0, o, ho, hall⟩ := mem_ready.1 hi
      have hin := (Array.getElem?_eq_some_iff.1 ho).1
      have hun : listed.getD i false = false := by rw [getD_tf (by omega) false true]; exact h0
      have hdi : ∀ e ∈ dirs ops i, listed.getD e false = true := fun e he => by
        obtain ⟨g, h1, h2, h3⟩ := (dirs_mem ho).1 he
        rw [← h3]; exact hall g h1 h2
      have hdl : ∀ e ∈ dirs ops i, e < ops.size := fun e he => Nat.lt_trans (hok.back i e hin he) hin
      have hds : o.dst = ds.getD i none := by
        rw [hok.ds_, List.getD_eq_getElem?_getD, List.getElem?_map, Array.getElem?_toList, ho]; rfl
      have hpre : ∀ j ∈ js.getD i [], V j (x j) w := fun j hj => by
        have hjd := hok.sub i j hin hj
        refine hV j (hjs i j hin hj) (fun hjn => hdi j (hjd.resolve_right (by omega))) (fun k hk hkl hjk => ?_)
        rcases hok.eats i k j hin hk hjk hj with e | e
        · subst e
          rw [hun] at hkl; cases hkl
        · have := hdc k hk hkl i e
          rw [hun] at this; cases this
      have hst := hstep i hin x w hS (AllV.of _ hpre)
      have hz := putsOf_size ds x (js.getD i []) a0
      have hmv := StepV.move (Q := Q) (a := a) ho (Region.noSelect_spec hok.sel i o · · ho) (hF.size.trans hz.1.symm) (fun t ht => ?_) hst
      · refine wpOp_mono (fun a' w' h => ?_) hmv
        obtain ⟨v, rfl, hS', hVi, hpr⟩ := h
        rw [hds]
        refine ih (listed.setIfInBounds i true) _ (fun j => if j = i then v else x j) w' (by simpa using hsz) ?_ ?_ hS' ?_ (hF.step hok hin hsz hun)
        · intro j hj hl e he
          refine (set_getD (by omega)).2 (.inr ?_)
          rcases (set_getD (by omega)).1 hl with e2 | e2
          · subst e2; exact hdi e he
          · exact hdc j hj e2 e he
        · have := unl_set (by omega) hun
          omega
        · intro j hjN hl hn
          by_cases e : j = i
          · subst e
            simpa using hVi
          · simp only [if_neg e]
            have hps : j ∈ ps.getD i [] := by
              rcases hok.pres i j hin hjN with e2 | e2 | e2 | e2 | ⟨k, hk, e2⟩
              · exact absurd e2.symm e
              · exact e2
              · exact absurd e2 (hn i hin ((set_getD (by omega)).2 (.inl rfl)))
              · exfalso
                by_cases hjn : j < ops.size
                · have := hdc j hjn (((set_getD (by omega)).1 (hl hjn)).resolve_left e) i e2
                  rw [hun] at this; cases this
                · unfold dirs at e2
                  rw [Array.getElem?_eq_none (by omega)] at e2
                  cases e2
              · exact absurd e2 (hn k (hdl k hk) ((set_getD (by omega)).2 (.inr (hdi k hk))))
            refine hpr.get j hps _ ?_
            exact hV j hjN (fun hj => ((set_getD (by omega)).1 (hl hj)).resolve_left e) (fun k hk hkl => hn k hk ((set_getD (by omega)).2 (.inr hkl)))
      · have hnone : ∀ k, ops.size ≤ k → ds.getD k none = none := fun k hk => by
          rw [List.getD_eq_getElem?_getD, List.getElem?_eq_none (by rw [hok.ds_]; simpa using hk)]; rfl
        have hget : (ops.getD i default) = o := by
          rw [Array.getD_eq_getD_getElem?, ho]; rfl
        by_cases hsz2 : t < a0.tmps.size
        · by_cases hex : ∃ j, j < ops.size ∧ listed.getD j false = true ∧ ds.getD j none = some t
          · obtain ⟨j, hj, hl, hd⟩ := hex
            rw [hF.put j t hj hl hd hsz2]
            rcases hok.looks i j t hin hj hd (by rw [hget]; exact ht) with e | e | e
            · subst e; rw [hun] at hl; cases hl
            · refine (putsOf_new ds x t j _ a0 (fun k hk e2 => ?_) e hd hsz2).symm
              rcases hok.sub i k hin hk with e3 | e3
              · exact hok.one k j t (hdl k e3) hj hd e2
              · rw [hnone k e3] at e2; cases e2
            · have := hdc j hj hl i e
              rw [hun] at this; cases this
          · rw [hF.old t (fun j hj hl e => hex ⟨j, hj, hl, e⟩)]
            refine (putsOf_old ds x t _ a0 (fun j hj e => ?_)).symm
            rcases hok.sub i j hin hj with e3 | e3
            · exact hex ⟨j, hdl j e3, hdi j e3, e⟩
            · rw [hnone j e3] at e; cases e
        · rw [Array.getElem?_eq_none (by rw [hF.size]; exact Nat.le_of_not_lt hsz2), Array.getElem?_eq_none (by rw [hz.1]; exact Nat.le_of_not_lt hsz2)]
/-- What is asked of each operation. -/
def RelyStep (P : Program) (ops : Array Oper) (ds : List (Option Tmp)) (js ps : List (List Nat)) (a0 : Act) (S : World → Prop) (V : Nat → Value → World → Prop) (i : Nat) : Prop :=
  ∀ (x : Nat → Value) (w : World), S w → AllV V x w (js.getD i []) → StepV P ops i (putsOf ds x a0 (js.getD i [])) w (fun v w' => S w' ∧ V i v w' ∧ AllP V w w' (ps.getD i []))
def RelySteps (P : Program) (ops : Array Oper) (ds : List (Option Tmp)) (js ps : List (List Nat)) (a0 : Act) (S : World → Prop) (V : Nat → Value → World → Prop) (is : List Nat) : Prop :=
  ∀ i ∈ is, RelyStep P ops ds js ps a0 S V i
theorem RelySteps.nil {ds : List (Option Tmp)} {js ps : List (List Nat)} {a0 : Act} {S : World → Prop} {V : Nat → Value → World → Prop} : RelySteps P ops ds js ps a0 S V [] := fun _ h => by cases h
/-- One operation: J, D, K: what it looks at, their temporaries, what it keeps. -/
theorem RelySteps.cons {ds : List (Option Tmp)} {js ps : List (List Nat)} {a0 : Act} {S : World → Prop} {V : Nat → Value → World → Prop} {i : Nat} {is : List Nat} (h : RelyStep P ops ds js ps a0 S V i)
    (hs : RelySteps P ops ds js ps a0 S V is) : RelySteps P ops ds js ps a0 S V (i :: is) := fun k hk => by
  rcases List.mem_cons.1 hk with rfl | hk
  · exact h
  · exact hs k hk
theorem RelyStep.mk {ds : List (Option Tmp)} {js ps : List (List Nat)} {a0 : Act} {S : World → Prop} {V : Nat → Value → World → Prop} {i : Nat} {o : Oper} (J K : List Nat) (ho : ops[i]? = some o) (hJ : js.getD i [] = J) (hK : ps.getD i [] = K)
    (h : ∀ (x : Nat → Value) (w : World), S w → AllV V x w J → ∀ (b : Act), b = putsOf ds x a0 J → ∀ K' : Act → World → Prop, Shut (∀ a' w', (∃ v, a' = b.put o.dst v ∧ S w' ∧ V i v w' ∧ AllP V w w' K) → K' a' w') →
      if Region.wanted o (yielded ops b.tmps) = true then Oper.wp P o b w K' QF else K' (b.put o.dst undef) w) : RelyStep P ops ds js ps a0 S V i := by
  intro x w hS hV
  rw [hJ] at hV ⊢
  rw [hK]
  exact StepV.mk ho (fun K' hK' => h x w hS hV _ rfl K' hK')
/-- THE REGION. -/
theorem wp_region_rely {id : Nat} {a0 : Act} {w : World} {Q : Exit → Act → World → Prop} (S : World → Prop) (V : Nat → Value → World → Prop) (ds : List (Option Tmp)) (js es ps : List (List Nat)) (is : List Nat) (N : Nat) (hm : P.follows .mixedOrders = true)
    (hok : relyB ops ds js es ps N = true) (hjs : js.all (fun l => l.all (fun j => decide (j < N))) = true) (his : List.range ops.size = is) (hS : S w.drew) (hI : ∀ j, j < N → ops.size ≤ j → V j undef w.drew) (hsteps : RelySteps P ops ds js ps a0 S V is)
    (hend : ∀ (x : Nat → Value) (w : World), S w → (∀ j, j < N → (is.all fun i => !(es.getD i []).contains j) = true → V j (x j) w) → Q .normal (putsOf ds x a0 is) w) : (Code.region id ops true).wp P Q a0 w := by
  subst his
  have hjs2 : ∀ i j, i < ops.size → j ∈ js.getD i [] → j < N := fun i j _ hj => by
    rw [List.getD_eq_getElem?_getD] at hj
    cases hg : js[i]? with
    | none => rw [hg] at hj; cases hj
    | some l =>
      rw [hg] at hj
      have := List.all_eq_true.1 (List.all_eq_true.1 hjs l (List.mem_of_getElem? hg)) j hj
      simpa using this
  refine wp_region_any hm (wpAny_rely (Rely.of hok) hjs2 (fun i hi => hsteps i (List.mem_range.2 hi)) (fun x w h1 h2 => hend x w h1 (fun j hj hn => h2 j hj (fun i hi hc => ?_))) ops.size _ a0 (fun _ => undef) _ (by simp) (fun j hj h => ?_) ?_ hS (fun j hj h hn => ?_) ⟨rfl, rfl, fun j t hj h => ?_, fun _ _ => rfl⟩)
  · have := List.all_eq_true.1 hn i (List.mem_range.2 hi)
    rw [List.contains_iff_mem.2 hc] at this
    cases this
  · simp [hj] at h
  · unfold unl
    refine Nat.le_trans List.countP_le_length (by simp)
  · refine hI j hj (Nat.le_of_not_lt fun hj => ?_)
    have := h hj
    simp [hj] at this
  · simp [hj] at h
end
end Go.Proofs.Ytahojmioonpodaa
/-
  A region that draws its order, told operation by operation, where what is kept speaks of all values that are there: which of them lie apart.
-/
namespace Go.Proofs.Ytahojmioonpodaa
open Go.RowKit
set_option linter.unusedVariables false
set_option linter.unusedSimpArgs false
section
variable {P : Program} {ops : Array Oper}
def updX (x : Nat → Value) (i : Nat) (v : Value) : Nat → Value := fun j => if j = i then v else x j
def updL (L : Nat → Bool) (i : Nat) : Nat → Bool := fun j => (j == i) || L j
theorem updL_set {listed : Array Bool} {i : Nat} (hi : i < listed.size) : updL (fun k => listed.getD k false) i = fun k => (listed.setIfInBounds i true).getD k false := by
  funext k
  unfold updL
  rw [Bool.eq_iff_iff, Bool.or_eq_true, beq_iff_eq, set_getD hi]
theorem none_listed {n : Nat} : (fun k => (Array.replicate n false).getD k false) = fun _ => false := by
  funext k
  by_cases h : k < n
  · simp [h]
  · simp [h]
/-- Some facts are kept, of the values that are there. -/
def AllPX (V : Nat → Value → World → Prop) (x : Nat → Value) (L : Nat → Bool) (w w' : World) : List Nat → Prop
  | [] => True
  | j :: l => ((j < ops.size → L j = true) → V j (x j) w → V j (x j) w') ∧ AllPX V x L w w' l
theorem AllPX.get {V : Nat → Value → World → Prop} {x : Nat → Value} {L : Nat → Bool} {w w' : World} : ∀ {l : List Nat}, AllPX (ops := ops) V x L w w' l → ∀ j ∈ l, (j < ops.size → L j = true) → V j (x j) w → V j (x j) w'
  | [], _, _, h => by cases h
  | k :: l, h, j, hj => by
    rcases List.mem_cons.1 hj with rfl | hj
    · exact h.1
    · exact h.2.get j hj
theorem AllPX.same {V : Nat → Value → World → Prop} {x : Nat → Value} {L : Nat → Bool} {w : World} : ∀ (l : List Nat), AllPX (ops := ops) V x L w w l
  | [] => trivial
  | _ :: l => ⟨fun _ h => h, AllPX.same l⟩
theorem AllPX.of {V : Nat → Value → World → Prop} {x : Nat → Value} {L : Nat → Bool} {w w' : World} : ∀ (l : List Nat), (∀ j ∈ l, (j < ops.size → L j = true) → V j (x j) w → V j (x j) w') → AllPX (ops := ops) V x L w w' l
  | [], _ => trivial
  | k :: l, h => ⟨h k List.mem_cons_self, AllPX.of l (fun j hj => h j (List.mem_cons_of_mem _ hj))⟩
theorem wpAny_relyx {ds : List (Option Tmp)} {js es ps : List (List Nat)} {N : Nat} {Q : Exit → Act → World → Prop} {a0 : Act} {S : (Nat → Value) → (Nat → Bool) → World → Prop} {V : Nat → Value → World → Prop} (hok : Rely ops ds js es ps N)
    (hjs : ∀ i j, i < ops.size → j ∈ js.getD i [] → j < N) (hstep : ∀ i, i < ops.size → ∀ (x : Nat → Value) (L : Nat → Bool) (w : World), S x L w → L i = false → AllV V x w (js.getD i []) → (∀ e ∈ dirs ops i, L e = true) →
      StepV P ops i (putsOf ds x a0 (js.getD i [])) w (fun v w' => S (updX x i v) (updL L i) w' ∧ V i v w' ∧ AllPX (ops := ops) V x L w w' (ps.getD i [])))
    (hend : ∀ (x : Nat → Value) (L : Nat → Bool) (w : World), S x L w → (∀ j, j < ops.size → L j = true) → (∀ j, j < N → (∀ i, i < ops.size → j ∉ es.getD i []) → V j (x j) w) → Q .normal (putsOf ds x a0 (List.range ops.size)) w) :
    ∀ (fuel : Nat) (listed : Array Bool) (a : Act) (x : Nat → Value) (w : World), listed.size = ops.size → (∀ j, j < ops.size → listed.getD j false = true → ∀ e ∈ dirs ops j, listed.getD e false = true) → unl listed ≤ fuel → S x (fun k => listed.getD k false) w →
      (∀ j, j < N → (j < ops.size → listed.getD j false = true) → (∀ i, i < ops.size → listed.getD i false = true → j ∉ es.getD i []) → V j (x j) w) → FrV ops ds a0 x listed a → wpAny P .any ops Q fuel listed a w := by
  have hfin : ∀ (listed : Array Bool) (a : Act) (x : Nat → Value) (w : World), S x (fun k => listed.getD k false) w → (∀ j, j < ops.size → listed.getD j false = true) →
      (∀ j, j < N → (j < ops.size → listed.getD j false = true) → (∀ i, i < ops.size → listed.getD i false = true → j ∉ es.getD i []) → V j (x j) w) → FrV ops ds a0 x listed a → Q .normal a w := by
    intro listed a x w hS hall hV hF
    rw [hF.full hok hall]
    exact hend x _ w hS hall (fun j hj hn => hV j hj (hall j) (fun i hi _ => hn i hi))
  intro fuel
  induction fuel with
  | zero =>
    intro listed a x w hsz hdc hu hS hV hF
    have hall : ∀ j, j < ops.size → listed.getD j false = true := fun j hj => unl_zero (by omega) j (by omega)
    refine ⟨?_, hfin listed a x w hS hall hV hF⟩
    cases hr : Region.ready .any ops listed with
    | nil => rfl
    | cons i rs =>
      exfalso
      have hm : i ∈ Region.ready .any ops listed := by rw [hr]; exact List.mem_cons_self
      obtain ⟨h0, o, ho, _⟩ := mem_ready.1 hm
      have hi := (Array.getElem?_eq_some_iff.1 ho).1
      have := hall i hi
      rw [getD_tf (by omega) false true, h0] at this
      cases this
  | succ fuel ih =>
    intro listed a x w hsz hdc hu hS hV hF
    refine ⟨fun hr => hfin listed a x w hS ?_ hV hF, fun i hi => ?_⟩
    · intro j
      induction j using Nat.strongRecOn with
      | ind j ihj =>
        intro hj
        cases hl : listed.getD j false with
        | true => rfl
        | false =>
          exfalso
          have hm : j ∈ Region.ready .any ops listed := by
            refine mem_ready.2 ⟨by rw [getD_tf (by omega) true false]; exact hl, ops[j], Array.getElem?_eq_getElem hj, fun e he hb => ?_⟩
            have hd := (dirs_mem (Array.getElem?_eq_getElem hj)).2 ⟨e, he, hb, rfl⟩
            have hlt := hok.back j e.on hj hd
            exact ihj e.on hlt (by omega)
          rw [hr] at hm
          cases hm
    · obtain ⟨h0, o, ho, hall⟩ := mem_ready.1 hi
      have hin := (Array.getElem?_eq_some_iff.1 ho).1
      have hun : listed.getD i false = false := by rw [getD_tf (by omega) false true]; exact h0
      have hdi : ∀ e ∈ dirs ops i, listed.getD e false = true := fun e he => by
        obtain ⟨g, h1, h2, h3⟩ := (dirs_mem ho).1 he
        rw [← h3]; exact hall g h1 h2
      have hdl : ∀ e ∈ dirs ops i, e < ops.size := fun e he => Nat.lt_trans (hok.back i e hin he) hin
      have hds : o.dst = ds.getD i none := by
        rw [hok.ds_, List.getD_eq_getElem?_getD, List.getElem?_map, Array.getElem?_toList, ho]; rfl
      have hpre : ∀ j ∈ js.getD i [], V j (x j) w := fun j hj => by
        have hjd := hok.sub i j hin hj
        refine hV j (hjs i j hin hj) (fun hjn => hdi j (hjd.resolve_right (by omega))) (fun k hk hkl hjk => ?_)
        rcases hok.eats i k j hin hk hjk hj with e | e
        · subst e
          rw [hun] at hkl; cases hkl
        · have := hdc k hk hkl i e
          rw [hun] at this; cases this
      have hst := hstep i hin x _ w hS hun (AllV.of _ hpre) hdi
      have hz := putsOf_size ds x (js.getD i []) a0
      have hmv := StepV.move (Q := Q) (a := a) ho (Region.noSelect_spec hok.sel i o · · ho) (hF.size.trans hz.1.symm) (fun t ht => ?_) hst
      · refine wpOp_mono (fun a' w' h => ?_) hmv
        obtain ⟨v, rfl, hS', hVi, hpr⟩ := h
        rw [hds]
        refine ih (listed.setIfInBounds i true) _ (fun j => if j = i then v else x j) w' (by simpa using hsz) ?_ ?_ (by rw [updL_set (by omega)] at hS'; exact hS') ?_ (hF.step hok hin hsz hun)
        · intro j hj hl e he
          refine (set_getD (by omega)).2 (.inr ?_)
          rcases (set_getD (by omega)).1 hl with e2 | e2
          · subst e2; exact hdi e he
          · exact hdc j hj e2 e he
        · have := unl_set (by omega) hun
          omega
        · intro j hjN hl hn
          by_cases e : j = i
          · subst e
            simpa using hVi
          · simp only [if_neg e]
            have hps : j ∈ ps.getD i [] := by
              rcases hok.pres i j hin hjN with e2 | e2 | e2 | e2 | ⟨k, hk, e2⟩
              · exact absurd e2.symm e
              · exact e2
              · exact absurd e2 (hn i hin ((set_getD (by omega)).2 (.inl rfl)))
              · exfalso
                by_cases hjn : j < ops.size
                · have := hdc j hjn (((set_getD (by omega)).1 (hl hjn)).resolve_left e) i e2
                  rw [hun] at this; cases this
                · unfold dirs at e2
                  rw [Array.getElem?_eq_none (by omega)] at e2
                  cases e2
              · exact absurd e2 (hn k (hdl k hk) ((set_getD (by omega)).2 (.inr (hdi k hk))))
            refine hpr.get j hps (fun hjo => ?_) ?_
            · exact ((set_getD (by omega)).1 (hl hjo)).resolve_left e
            exact hV j hjN (fun hj => ((set_getD (by omega)).1 (hl hj)).resolve_left e) (fun k hk hkl => hn k hk ((set_getD (by omega)).2 (.inr hkl)))
      · have hnone : ∀ k, ops.size ≤ k → ds.getD k none = none := fun k hk => by
          rw [List.getD_eq_getElem?_getD, List.getElem?_eq_none (by rw [hok.ds_]; simpa using hk)]; rfl
        have hget : (ops.getD i default) = o := by
          rw [Array.getD_eq_getD_getElem?, ho]; rfl
        by_cases hsz2 : t < a0.tmps.size
        · by_cases hex : ∃ j, j < ops.size ∧ listed.getD j false = true ∧ ds.getD j none = some t
          · obtain ⟨j, hj, hl, hd⟩ := hex
            rw [hF.put j t hj hl hd hsz2]
            rcases hok.looks i j t hin hj hd (by rw [hget]; exact ht) with e | e | e
            · subst e; rw [hun] at hl; cases hl
            · refine (putsOf_new ds x t j _ a0 (fun k hk e2 => ?_) e hd hsz2).symm
              rcases hok.sub i k hin hk with e3 | e3
              · exact hok.one k j t (hdl k e3) hj hd e2
              · rw [hnone k e3] at e2; cases e2
            · have := hdc j hj hl i e
              rw [hun] at this; cases this
          · rw [hF.old t (fun j hj hl e => hex ⟨j, hj, hl, e⟩)]
            refine (putsOf_old ds x t _ a0 (fun j hj e => ?_)).symm
            rcases hok.sub i j hin hj with e3 | e3
            · exact hex ⟨j, hdl j e3, hdi j e3, e⟩
            · rw [hnone j e3] at e; cases e
        · rw [Array.getElem?_eq_none (by rw [hF.size]; exact Nat.le_of_not_lt hsz2), Array.getElem?_eq_none (by rw [hz.1]; exact Nat.le_of_not_lt hsz2)]
/-- What is asked of each operation. -/
def RelyStepX (P : Program) (ops : Array Oper) (ds : List (Option Tmp)) (js ps : List (List Nat)) (a0 : Act) (S : (Nat → Value) → (Nat → Bool) → World → Prop) (V : Nat → Value → World → Prop) (i : Nat) : Prop :=
  ∀ (x : Nat → Value) (L : Nat → Bool) (w : World), S x L w → L i = false → AllV V x w (js.getD i []) → (∀ e ∈ dirs ops i, L e = true) → StepV P ops i (putsOf ds x a0 (js.getD i [])) w (fun v w' => S (updX x i v) (updL L i) w' ∧ V i v w' ∧ AllPX (ops := ops) V x L w w' (ps.getD i []))
def RelyStepsX (P : Program) (ops : Array Oper) (ds : List (Option Tmp)) (js ps : List (List Nat)) (a0 : Act) (S : (Nat → Value) → (Nat → Bool) → World → Prop) (V : Nat → Value → World → Prop) (is : List Nat) : Prop :=
  ∀ i ∈ is, RelyStepX P ops ds js ps a0 S V i
theorem RelyStepsX.nil {ds : List (Option Tmp)} {js ps : List (List Nat)} {a0 : Act} {S : (Nat → Value) → (Nat → Bool) → World → Prop} {V : Nat → Value → World → Prop} : RelyStepsX P ops ds js ps a0 S V [] := fun _ h => by cases h
/-- One operation: J, D, K: what it looks at, their temporaries, what it keeps. -/
theorem RelyStepsX.cons {ds : List (Option Tmp)} {js ps : List (List Nat)} {a0 : Act} {S : (Nat → Value) → (Nat → Bool) → World → Prop} {V : Nat → Value → World → Prop} {i : Nat} {is : List Nat} (h : RelyStepX P ops ds js ps a0 S V i)
    (hs : RelyStepsX P ops ds js ps a0 S V is) : RelyStepsX P ops ds js ps a0 S V (i :: is) := fun k hk => by
  rcases List.mem_cons.1 hk with rfl | hk
  · exact h
  · exact hs k hk
theorem RelyStepX.mk {ds : List (Option Tmp)} {js ps : List (List Nat)} {a0 : Act} {S : (Nat → Value) → (Nat → Bool) → World → Prop} {V : Nat → Value → World → Prop} {i : Nat} {o : Oper} (J K : List Nat) (ho : ops[i]? = some o) (hJ : js.getD i [] = J) (hK : ps.getD i [] = K)
    (h : ∀ (x : Nat → Value) (L : Nat → Bool) (w : World), S x L w → L i = false → (∀ e ∈ dirs ops i, L e = true) → AllV V x w J → ∀ (b : Act), b = putsOf ds x a0 J → ∀ K' : Act → World → Prop, Shut (∀ a' w', (∃ v, a' = b.put o.dst v ∧ S (updX x i v) (updL L i) w' ∧ V i v w' ∧ AllPX (ops := ops) V x L w w' K) → K' a' w') →
      if Region.wanted o (yielded ops b.tmps) = true then Oper.wp P o b w K' QF else K' (b.put o.dst undef) w) : RelyStepX P ops ds js ps a0 S V i := by
  intro x L w hS hL hV hd
  rw [hJ] at hV ⊢
  rw [hK]
  exact StepV.mk ho (fun K' hK' => h x L w hS hL hd hV _ rfl K' hK')
/-- THE REGION. -/
theorem wp_region_relyx {id : Nat} {a0 : Act} {w : World} {Q : Exit → Act → World → Prop} (S : (Nat → Value) → (Nat → Bool) → World → Prop) (V : Nat → Value → World → Prop) (ds : List (Option Tmp)) (js es ps : List (List Nat)) (is : List Nat) (N : Nat) (hm : P.follows .mixedOrders = true)
    (hok : relyB ops ds js es ps N = true) (hjs : js.all (fun l => l.all (fun j => decide (j < N))) = true) (his : List.range ops.size = is) (hS : S (fun _ => undef) (fun _ => false) w.drew) (hI : ∀ j, j < N → ops.size ≤ j → V j undef w.drew) (hsteps : RelyStepsX P ops ds js ps a0 S V is)
    (hend : ∀ (x : Nat → Value) (L : Nat → Bool) (w : World), S x L w → (∀ j, j < ops.size → L j = true) → (∀ j, j < N → (is.all fun i => !(es.getD i []).contains j) = true → V j (x j) w) → Q .normal (putsOf ds x a0 is) w) : (Code.region id ops true).wp P Q a0 w := by
  subst his
  have hjs2 : ∀ i j, i < ops.size → j ∈ js.getD i [] → j < N := fun i j _ hj => by
    rw [List.getD_eq_getElem?_getD] at hj
    cases hg : js[i]? with
    | none => rw [hg] at hj; cases hj
    | some l =>
      rw [hg] at hj
      have := List.all_eq_true.1 (List.all_eq_true.1 hjs l (List.mem_of_getElem? hg)) j hj
      simpa using this
  refine wp_region_any hm (wpAny_relyx (Rely.of hok) hjs2 (fun i hi => hsteps i (List.mem_range.2 hi)) (fun x L w h1 hL h2 => hend x L w h1 hL (fun j hj hn => h2 j hj (fun i hi hc => ?_))) ops.size _ a0 (fun _ => undef) _ (by simp) (fun j hj h => ?_) ?_ (by rw [none_listed]; exact hS) (fun j hj h hn => ?_) ⟨rfl, rfl, fun j t hj h => ?_, fun _ _ => rfl⟩)
  · have := List.all_eq_true.1 hn i (List.mem_range.2 hi)
    rw [List.contains_iff_mem.2 hc] at this
    cases this
  · simp [hj] at h
  · unfold unl
    refine Nat.le_trans List.countP_le_length (by simp)
  · refine hI j hj (Nat.le_of_not_lt fun hj => ?_)
    have := h hj
    simp [hj] at this
  · simp [hj] at h
end
end Go.Proofs.Ytahojmioonpodaa
/-
  What the operations of a region leave that copies two rows and stores a struct of them: values, rows of the call's own, the struct.
-/
namespace Go.Proofs.Ytahojmioonpodaa
open Go.RowKit
set_option linter.unusedVariables false
set_option linter.unusedSimpArgs false
structure RowT where
  e : TypeId
  sz : Nat
  n : Nat
  xs : List Value
def RowT.own (r : RowT) (N : Nat) (u : Value) (q : World) : Prop := q.ownsRow N r.e r.sz u r.n r.xs
inductive Fr where
  | eq (v : Value)
  | row (r : RowT)
  | agg2 (mk : Value → Value → Array Value) (r s : RowT)
  | at2 (b : Nat) (T : TypeId) (mk : Value → Value → Array Value) (r s : RowT)
  | lies (b : Nat) (T : TypeId) (cs : Array Value)
  | any
def Fr.holds (N : Nat) (f : Fr) (u : Value) (q : World) : Prop :=
  match f with
  | .eq v => u = v
  | .row r => r.own N u q
  | .agg2 mk r s => ∃ u1 u2, u = .agg (mk u1 u2) ∧ r.own N u1 q ∧ s.own N u2 q
  | .at2 b T mk r s => ∃ u1 u2, Lies q b T (mk u1 u2) ∧ r.own N u1 q ∧ s.own N u2 q
  | .lies b T cs => Lies q b T cs
  | .any => True
/-- Which rows' types a fact speaks of. -/
def Fr.typs (f : Fr) : List TypeId :=
  match f with
  | .row r => [r.e]
  | .agg2 _ r s => [r.e, s.e]
  | .at2 _ _ _ r s => [r.e, s.e]
  | _ => []
/-- Which blocks it names. -/
def Fr.blks (f : Fr) : List Nat :=
  match f with
  | .at2 b _ _ _ _ => [b]
  | .lies b _ _ => [b]
  | _ => []
def frV (N : Nat) (fs : List Fr) (j : Nat) (u : Value) (q : World) : Prop := (fs.getD j .any).holds N u q
section
variable {N : Nat} {f : Fr} {fs : List Fr} {j : Nat} {u : Value} {q q' : World}
theorem rowT_kept {r : RowT} {S : Nat → Prop} (k : Kept S q q') (h : ∀ b a, Lies q b r.e a → ¬ S b) (hh : r.own N u q) : r.own N u q' := owns_kept hh k (fun b cur _ hl => h b cur hl)
theorem fr_kept {S : Nat → Prop} (k : Kept S q q') (h : ∀ e ∈ f.typs, ∀ b a, Lies q b e a → ¬ S b) (hb : ∀ b ∈ f.blks, ¬ S b) (hh : f.holds N u q) : f.holds N u q' := by
  cases f with
  | eq v => exact hh
  | row r => exact rowT_kept k (h _ (by simp [Fr.typs])) hh
  | agg2 mk r s =>
    obtain ⟨u1, u2, h1, h2, h3⟩ := hh
    exact ⟨u1, u2, h1, rowT_kept k (h _ (by simp [Fr.typs])) h2, rowT_kept k (h _ (by simp [Fr.typs])) h3⟩
  | at2 b T mk r s =>
    obtain ⟨u1, u2, h1, h2, h3⟩ := hh
    exact ⟨u1, u2, h1.kept k (hb b (by simp [Fr.blks])), rowT_kept k (h _ (by simp [Fr.typs])) h2, rowT_kept k (h _ (by simp [Fr.typs])) h3⟩
  | lies b T cs => exact Lies.kept hh k (hb b (by simp [Fr.blks]))
  | any => trivial
theorem frV_below (hb : Below q.heap.size q q') (h : frV N fs j u q) : frV N fs j u q' := fr_kept (Kept.of_below hb) (fun _ _ _ _ _ e => e) (fun _ _ e => e) h
/-- A row of the region's own grows. -/
theorem frV_grow {sz n : Nat} {E : TypeId} {y : Value} {xs : List Value} (ho : q.ownsRow N E sz y n xs) (k : Kept (fun i => y.ownBlock = some i) q q') (hT : ((fs.getD j .any).typs.all (fun e => e != E)) = true) (hb : ∀ b ∈ (fs.getD j .any).blks, b < N) (h : frV N fs j u q) : frV N fs j u q' := by
  refine fr_kept k (fun e he b a hl hs => ?_) (fun b hbb hs => ?_) h
  · have := List.all_eq_true.1 hT e he
    exact own_ne ho hl (fun e2 => (bne_iff_ne.1 this) e2.symm) hs
  · have h1 := (ho.lt b hs).1
    have := hb b hbb
    omega
/-- A value alone. -/
theorem frV_low (hj : (match fs.getD j .any with | .eq _ => true | .any => true | _ => false) = true) (h : frV N fs j u q) : frV N fs j u q' := by
  unfold frV at h ⊢
  cases hv : fs.getD j .any with
  | eq v => rw [hv] at h; exact h
  | any => trivial
  | row r => rw [hv] at hj; cases hj
  | agg2 mk r s => rw [hv] at hj; cases hj
  | at2 b T mk r s => rw [hv] at hj; cases hj
  | lies b T cs => rw [hv] at hj; cases hj
theorem all_grow {l : List Nat} {E : TypeId} (h : l.all (fun j => (fs.getD j .any).typs.all (fun e => e != E)) = true) (hj : j ∈ l) : ((fs.getD j .any).typs.all (fun e => e != E)) = true := List.all_eq_true.1 h j hj
end
theorem kept_frm {B : Nat} {w w' : World} (h : Below B w w') : Kept (fun k => B ≤ k) w w' := ⟨h.os, h.tape, h.output, h.size, fun k hk hn => h.block k (by omega)⟩
end Go.Proofs.Ytahojmioonpodaa
/-
  The document's Of (rondeauref13): a ring that stands as a state says, of the call's own rows.
-/
namespace Go.Proofs.Ytahojmioonpodaa
open Go.RowKit
set_option linter.unusedVariables false
set_option linter.unusedSimpArgs false
theorem Try.info64O : (Try.prog.info? 32).map (fun i => (i.zero, i.size, i.bytes)) = some (some (.int .u64 0), 1, 8) := by kernel_rfl
theorem Try.infoSlO : (Try.prog.info? 78).map (fun i => (i.zero, i.size, i.bytes)) = some (some (.agg #[.int .u64 0, .int .u64 0, .int .i64 0]), 3, 24) := by kernel_rfl
abbrev rofC (cap tl : Int) (vh : Value) (cl : Bool) (vs : Value) (rd : Int) : Array Value := #[.int .u64 cap, .int .u64 tl, vh, .bool cl, vs, .int .i64 rd]
abbrev rofZ : Array Value := #[.int .u64 0, .int .u64 0, .slice none 0 0, .bool false, .slice none 0 0, .int .i64 0]
abbrev rofA (ki cp rd : Int) : Array Value := #[.int .i64 ki, .int .i64 cp, .int .i64 rd]
abbrev rofS (tl : Int) (vh : Value) (cl : Bool) (vs : Value) : Array Value := #[.int .u64 tl, vh, .bool cl, vs]
def rofR (nh : Nat) (hs : List Value) : RowT := ⟨32, 1, nh, hs⟩
def rofQ (ns : Nat) (xs : List Value) : RowT := ⟨78, 3, ns, xs⟩
def rofF (b0 b1 b2 : Nat) (cp tl rd : Int) (cl : Bool) (vh vs : Value) (nh ns : Nat) (hs xs : List Value) : List Fr :=
  [.eq (.pointer (some ⟨b0, 1, none⟩)), .eq (.int .i64 cp), .eq (.int .u64 (IntKind.u64.wrap cp)), .eq (.pointer (some ⟨b1, 0, none⟩)), .eq (.int .u64 tl), .row (rofR 0 []), .eq (.pointer (some ⟨b1, 1, none⟩)), .eq vh, .row (rofR nh hs),
   .eq (.pointer (some ⟨b1, 2, none⟩)), .eq (.bool cl), .row (rofQ 0 []), .eq (.pointer (some ⟨b1, 3, none⟩)), .eq vs, .row (rofQ ns xs), .eq (.pointer (some ⟨b0, 2, none⟩)), .eq (.int .i64 rd),
   .agg2 (fun _ u2 => #[u2, .int .i64 rd]) (rofQ ns xs) (rofQ ns xs), .agg2 (fun u1 u2 => rofC (IntKind.u64.wrap cp) tl u1 cl u2 rd) (rofR nh hs) (rofQ ns xs), .at2 b2 38 (fun u1 u2 => rofC (IntKind.u64.wrap cp) tl u1 cl u2 rd) (rofR nh hs) (rofQ ns xs), .lies b2 38 rofZ]
theorem blk_low {N : Nat} {fs : List Fr} (h : ∀ f ∈ fs, ∀ b ∈ f.blks, b < N) (j : Nat) : ∀ b ∈ (fs.getD j .any).blks, b < N := by
  rw [List.getD_eq_getElem?_getD]
  cases hv : fs[j]? with
  | none => intro b hb; cases hb
  | some f => exact h f (List.mem_of_getElem? hv)
theorem rofF_low {b0 b1 b2 N : Nat} (cp tl rd : Int) (cl : Bool) (vh vs : Value) (nh ns : Nat) (hs xs : List Value) (h : b2 < N) : ∀ f ∈ rofF b0 b1 b2 cp tl rd cl vh vs nh ns hs xs, ∀ b ∈ f.blks, b < N := by
  unfold rofF
  simp [Fr.blks, h]
theorem rof_grow14 {b0 b1 b2 : Nat} {cp tl rd : Int} {cl : Bool} {vh vs : Value} {nh ns : Nat} {hs xs : List Value} {j : Nat} (h : (j != 5 && (j == 18 || ((j != 11 && j != 14) && (j != 17 && j != 19)))) = true) (h18 : j ≠ 18) : (((rofF b0 b1 b2 cp tl rd cl vh vs nh ns hs xs).getD j .any).typs.all (fun e => e != 78)) = true := by
  rcases j with _ | _ | _ | _ | _ | _ | _ | _ | _ | _ | _ | _ | _ | _ | _ | _ | _ | _ | _ | _ | _ | j
  all_goals first | rfl | (exact absurd h (by decide)) | (exact absurd rfl h18)
/-- What the region keeps: all but one block; and the struct's building stands behind the append that it looks at. -/
structure RofX (A : World → Prop) (x : Nat → Value) (L : Nat → Bool) (q : World) : Prop where
  k : A q
  a : L 18 = true → L 17 = true
  b : L 17 = true → L 14 = true
section
variable {A : World → Prop} {x : Nat → Value} {L : Nat → Bool} {q q' : World} {i : Nat} {v : Value}
theorem RofX.step (h : RofX A x L q) (hi : (i != 17 && i != 18) = true) (hq : A q') : RofX A (updX x i v) (updL L i) q' := by
  rw [Bool.and_eq_true, bne_iff_ne, bne_iff_ne] at hi
  have e1 : ∀ {j}, j ≠ i → updL L i j = L j := fun {j} hj => by unfold updL; rw [beq_false_of_ne hj, Bool.false_or]
  have e2 : ∀ {j}, L j = true → updL L i j = true := fun {j} hj => by unfold updL; rw [hj, Bool.or_true]
  refine ⟨hq, fun hl => ?_, fun hl => ?_⟩
  · rw [e1 (fun e => hi.2 e.symm)] at hl; exact e2 (h.a hl)
  · rw [e1 (fun e => hi.1 e.symm)] at hl; exact e2 (h.b hl)
theorem RofX.pure (hi : (i != 17 && i != 18) = true) (h : RofX A x L q) : RofX A (updX x i v) (updL L i) q := h.step hi h.k
theorem RofX.s17 (h : RofX A x L q) (h14 : L 14 = true) : RofX A (updX x 17 v) (updL L 17) q :=
  ⟨h.k, fun _ => by unfold updL; simp, fun _ => by unfold updL; rw [h14]; simp⟩
theorem RofX.s18 (h : RofX A x L q) (h17 : L 17 = true) : RofX A (updX x 18 v) (updL L 18) q :=
  ⟨h.k, fun _ => by unfold updL; rw [h17]; simp, fun hl => by unfold updL at hl ⊢; rw [h.b h17]; simp⟩
end
abbrev so6 (w : World) (b : Nat) (a0 a1 a2 a3 a4 a5 : Value) : World := (((((w.setCell ⟨b, 0, none⟩ a0).setCell ⟨b, 1, none⟩ a1).setCell ⟨b, 2, none⟩ a2).setCell ⟨b, 3, none⟩ a3).setCell ⟨b, 4, none⟩ a4).setCell ⟨b, 5, none⟩ a5
theorem so6_kept (w : World) (b : Nat) (a0 a1 a2 a3 a4 a5 : Value) : Kept (oneRow b) w (so6 w b a0 a1 a2 a3 a4 a5) :=
  (((((Kept.put w b 0 a0).trans (Kept.put _ b 1 a1) (fun _ _ h => h)).trans (Kept.put _ b 2 a2) (fun _ _ h => h)).trans (Kept.put _ b 3 a3) (fun _ _ h => h)).trans (Kept.put _ b 4 a4) (fun _ _ h => h)).trans (Kept.put _ b 5 a5) (fun _ _ h => h)
theorem so6_lies {w : World} {b : Nat} {T : TypeId} {z0 z1 z2 z3 z4 z5 a0 a1 a2 a3 a4 a5 : Value} (h : Lies w b T #[z0, z1, z2, z3, z4, z5]) : Lies (so6 w b a0 a1 a2 a3 a4 a5) b T #[a0, a1, a2, a3, a4, a5] := (((((h.put 0 a0).put 1 a1).put 2 a2).put 3 a3).put 4 a4).put 5 a5
theorem rof_slice {w : World} {B : Nat} {e : TypeId} {sz n : Nat} {v : Value} {xs : List Value} (h : w.ownsRow B e sz v n xs) : ∃ A c, v = .slice A n c := by
  rcases owns_row h with ⟨rfl, rfl, _⟩ | ⟨r, cap, cur, rfl, _⟩
  · exact ⟨none, 0, rfl⟩
  · exact ⟨_, _, rfl⟩
set_option maxHeartbeats 8000000 in
set_option maxRecDepth 100000 in
theorem ref13Of (ki cp rd tl : Int) (cl : Bool) (Ah : Option Addr) (nh ch : Nat) (As : Option Addr) (ns cs : Nat) (hs xs : List Value) (w : World) (hh : SeqS w 1 (.slice Ah nh ch) nh hs) (hx : SeqS w 3 (.slice As ns cs) ns xs) (h1 : ∀ u ∈ hs, u.oneCell' = true) (h2 : ∀ u ∈ xs, u.oneCell' = true) (b1 : nh ≤ 1000000) (b2 : ns ≤ 1000000) :
    Calls Try.prog 17 #[.agg (rofA ki cp rd), .agg (rofS tl (.slice Ah nh ch) cl (.slice As ns cs))] w fun e w' => ∃ A1 c1 A2 c2, e = .returned (.agg (rofC (IntKind.u64.wrap cp) tl (.slice A1 nh c1) cl (.slice A2 ns c2) rd)) ∧ w'.ownsRow w.heap.size 32 1 (.slice A1 nh c1) nh hs ∧ w'.ownsRow w.heap.size 78 3 (.slice A2 ns c2) ns xs ∧ Below w.heap.size w w' := by
  have hb3 : Below w.heap.size w (((w.alloc (.cells (rofA ki cp rd) 23)).alloc (.cells (rofS tl (.slice Ah nh ch) cl (.slice As ns cs)) 42)).alloc (.cells rofZ 38)) := (((Below.refl _ _).alloc (Nat.le_refl _) _).alloc (by simp) _).alloc (by simp; omega) _
  have l1 := ((Lies.made w 23 (rofA ki cp rd)).alloc (.cells (rofS tl (.slice Ah nh ch) cl (.slice As ns cs)) 42)).alloc (.cells rofZ 38)
  have l2 := (Lies.made (w.alloc (.cells (rofA ki cp rd) 23)) 42 (rofS tl (.slice Ah nh ch) cl (.slice As ns cs))).alloc (.cells rofZ 38)
  have l3 := Lies.made ((w.alloc (.cells (rofA ki cp rd) 23)).alloc (.cells (rofS tl (.slice Ah nh ch) cl (.slice As ns cs)) 42)) 38 rofZ
  rw [show (w.alloc (.cells (rofA ki cp rd) 23)).heap.size = w.heap.size + 1 by simp] at l2
  rw [show ((w.alloc (.cells (rofA ki cp rd) 23)).alloc (.cells (rofS tl (.slice Ah nh ch) cl (.slice As ns cs)) 42)).heap.size = w.heap.size + 1 + 1 by simp] at l3
  have HB := Lib.hid hb3
  have HG := Lib.hid l1
  have HE := Lib.hid l2
  have H4 := Lib.hid l3
  have HHQ := Lib.hid (fun (q : World) (hq : Below w.heap.size w q) => hh.later hq)
  have HXQ := Lib.hid (fun (q : World) (hq : Below w.heap.size w q) => hx.later hq)
  clear hb3 l1 l2 l3 hh hx
  go_enter Try.func17, Try.ntmps17
  go_wp2_with fail
  generalize hw1 : (((w.alloc (.cells (rofA ki cp rd) 23)).alloc (.cells (rofS tl (.slice Ah nh ch) cl (.slice As ns cs)) 42)).alloc (.cells rofZ 38)) = wr0 at *
  clear hw1
  obtain ⟨N, hN⟩ : ∃ N, wr0.heap.size = N := ⟨_, rfl⟩
  have hBN : w.heap.size + 1 + 1 < N := by rw [← hN]; exact H4.out.lt
  have HNS : Hid (wr0.heap.size = N) := hN
  have HNW : Hid (N ≤ wr0.heap.size) := Nat.le_of_eq hN.symm
  clear hN
  have HGK := Lib.hid (fun (q : World) (hq : Kept (oneRow (w.heap.size + 1 + 1)) wr0 q) => HG.out.kept hq (fun (e : w.heap.size = w.heap.size + 1 + 1) => by omega))
  have HEK := Lib.hid (fun (q : World) (hq : Kept (oneRow (w.heap.size + 1 + 1)) wr0 q) => HE.out.kept hq (fun (e : w.heap.size + 1 = w.heap.size + 1 + 1) => by omega))
  have HHK := Lib.hid (fun (q : World) (hq : Kept (oneRow (w.heap.size + 1 + 1)) wr0 q) => HHQ.out q (HB.out.trans (hq.below HB.out.size (fun k hk (e : k = w.heap.size + 1 + 1) => by omega))))
  have HXK := Lib.hid (fun (q : World) (hq : Kept (oneRow (w.heap.size + 1 + 1)) wr0 q) => HXQ.out q (HB.out.trans (hq.below HB.out.size (fun k hk (e : k = w.heap.size + 1 + 1) => by omega))))
  have HSZ := Lib.hid (fun (q : World) (hq : Kept (oneRow (w.heap.size + 1 + 1)) wr0 q) => Nat.le_trans HNW.out hq.size)
  refine wp_region_relyx (RofX (fun q => Kept (oneRow (w.heap.size + 1 + 1)) wr0 q)) (frV N (rofF w.heap.size (w.heap.size + 1) (w.heap.size + 1 + 1) cp tl rd cl (.slice Ah nh ch) (.slice As ns cs) nh ns hs xs)) [some 5, some 6, some 7, some 8, some 9, some 10, some 11, some 12, some 13, some 14, some 15, some 16, some 17, some 18, some 19, some 20, some 21, some 22, some 23, none] [[], [0], [1], [], [3], [], [], [6], [5, 7], [], [9], [], [], [12], [11, 13], [], [15], [14, 16], [2, 4, 8, 10, 17], [18, 20]] [[], [0], [0, 1], [], [3], [], [], [6], [5, 6, 7], [], [9], [], [], [12], [5, 7, 11, 12, 13], [], [15], [11, 13, 14, 15, 16], [1, 2, 3, 4, 5, 7, 8, 9, 10, 14, 16, 17], [0, 1, 2, 3, 4, 5, 6, 7, 8, 9, 10, 11, 12, 13, 14, 15, 16, 17, 18, 20]] [[2, 3, 4, 5, 6, 7, 8, 9, 10, 11, 12, 13, 14, 15, 16, 17, 18, 20], [3, 4, 5, 6, 7, 8, 9, 10, 11, 12, 13, 14, 15, 16, 17, 18, 20], [3, 4, 5, 6, 7, 8, 9, 10, 11, 12, 13, 14, 15, 16, 17, 20], [0, 1, 2, 5, 6, 7, 8, 9, 10, 11, 12, 13, 14, 15, 16, 17, 18, 20], [0, 1, 2, 5, 6, 7, 8, 9, 10, 11, 12, 13, 14, 15, 16, 17, 20], [0, 1, 2, 3, 4, 6, 7, 9, 10, 11, 12, 13, 14, 15, 16, 17, 18, 20], [0, 1, 2, 3, 4, 5, 8, 9, 10, 11, 12, 13, 14, 15, 16, 17, 18, 20], [0, 1, 2, 3, 4, 5, 9, 10, 11, 12, 13, 14, 15, 16, 17, 18, 20], [0, 1, 2, 3, 4, 9, 10, 11, 12, 13, 15, 16, 17, 20], [0, 1, 2, 3, 4, 5, 6, 7, 8, 11, 12, 13, 14, 15, 16, 17, 18, 20], [0, 1, 2, 3, 4, 5, 6, 7, 8, 11, 12, 13, 14, 15, 16, 17, 20], [0, 1, 2, 3, 4, 5, 6, 7, 8, 9, 10, 12, 13, 15, 16, 17, 18, 20], [0, 1, 2, 3, 4, 5, 6, 7, 8, 9, 10, 11, 14, 15, 16, 17, 18, 20], [0, 1, 2, 3, 4, 5, 6, 7, 8, 9, 10, 11, 15, 16, 17, 18, 20], [0, 1, 2, 3, 4, 8, 9, 10, 15, 16, 18, 20], [0, 1, 2, 3, 4, 5, 6, 7, 8, 9, 10, 11, 12, 13, 14, 17, 18, 20], [0, 1, 2, 3, 4, 5, 6, 7, 8, 9, 10, 11, 12, 13, 14, 18, 20], [0, 1, 2, 3, 4, 6, 8, 9, 10, 20], [12, 20], []] [0, 1, 2, 3, 4, 5, 6, 7, 8, 9, 10, 11, 12, 13, 14, 15, 16, 17, 18, 19] 21 (by kernel_rfl) (by kernel_rfl) (by kernel_rfl) (by kernel_rfl) ?rS ?rI ?rT ?rE
  case rS => exact ⟨Kept.drew _ _, fun h => (by cases h), fun h => (by cases h)⟩
  case rI =>
    intro j h1 h2
    have h1 : j < 21 := h1
    have h2 : 20 ≤ j := h2
    obtain rfl : j = 20 := by omega
    exact H4.out.drewN 1
  case rT =>
    refine RelyStepsX.cons (RelyStepX.mk [] [2, 3, 4, 5, 6, 7, 8, 9, 10, 11, 12, 13, 14, 15, 16, 17, 18, 20] rfl rfl rfl (fun xv Lv wS hS hL hLd hV bq hb K hK => ?_)) ?_
    · clear hV
      simp only [putsOf, List.foldl_cons, List.foldl_nil, List.getD_cons_zero, List.getD_cons_succ, List.getD_nil, cond_true, cond_false, Act.put, List.setIfInBounds_toArray, List.set_cons_zero, List.set_cons_succ] at hb
      subst hb
      rw [if_pos (by rfl)]
      go_wp2_with fail
      exact hK.out _ _ ⟨_, rfl, RofX.pure (i := 0) rfl hS, rfl, AllPX.same _⟩
    refine RelyStepsX.cons (RelyStepX.mk [0] [3, 4, 5, 6, 7, 8, 9, 10, 11, 12, 13, 14, 15, 16, 17, 18, 20] rfl rfl rfl (fun xv Lv wS hS hL hLd hV bq hb K hK => ?_)) ?_
    · obtain ⟨h0, _⟩ := hV
      have h0 : xv 0 = _ := h0
      simp only [putsOf, List.foldl_cons, List.foldl_nil, List.getD_cons_zero, List.getD_cons_succ, List.getD_nil, cond_true, cond_false, Act.put, List.setIfInBounds_toArray, List.set_cons_zero, List.set_cons_succ, h0] at hb
      clear h0
      subst hb
      rw [if_pos (by rfl)]
      (have HZ := Lib.hid (HGK.out _ hS.k); have c9 := (HZ.out.cell 1).trans (show _ = some (Value.int .i64 cp) from rfl); have c8 := HZ.out.lt)
      go_wp2_with fail
      exact hK.out _ _ ⟨_, rfl, RofX.pure (i := 1) rfl hS, rfl, AllPX.same _⟩
    refine RelyStepsX.cons (RelyStepX.mk [1] [3, 4, 5, 6, 7, 8, 9, 10, 11, 12, 13, 14, 15, 16, 17, 20] rfl rfl rfl (fun xv Lv wS hS hL hLd hV bq hb K hK => ?_)) ?_
    · obtain ⟨h1, _⟩ := hV
      have h1 : xv 1 = _ := h1
      simp only [putsOf, List.foldl_cons, List.foldl_nil, List.getD_cons_zero, List.getD_cons_succ, List.getD_nil, cond_true, cond_false, Act.put, List.setIfInBounds_toArray, List.set_cons_zero, List.set_cons_succ, h1] at hb
      clear h1
      subst hb
      rw [if_pos (by rfl)]
      go_wp2_with fail
      exact hK.out _ _ ⟨_, rfl, RofX.pure (i := 2) rfl hS, rfl, AllPX.same _⟩
    refine RelyStepsX.cons (RelyStepX.mk [] [0, 1, 2, 5, 6, 7, 8, 9, 10, 11, 12, 13, 14, 15, 16, 17, 18, 20] rfl rfl rfl (fun xv Lv wS hS hL hLd hV bq hb K hK => ?_)) ?_
    · clear hV
      simp only [putsOf, List.foldl_cons, List.foldl_nil, List.getD_cons_zero, List.getD_cons_succ, List.getD_nil, cond_true, cond_false, Act.put, List.setIfInBounds_toArray, List.set_cons_zero, List.set_cons_succ] at hb
      subst hb
      rw [if_pos (by rfl)]
      go_wp2_with fail
      exact hK.out _ _ ⟨_, rfl, RofX.pure (i := 3) rfl hS, rfl, AllPX.same _⟩
    refine RelyStepsX.cons (RelyStepX.mk [3] [0, 1, 2, 5, 6, 7, 8, 9, 10, 11, 12, 13, 14, 15, 16, 17, 20] rfl rfl rfl (fun xv Lv wS hS hL hLd hV bq hb K hK => ?_)) ?_
    · obtain ⟨h3, _⟩ := hV
      have h3 : xv 3 = _ := h3
      simp only [putsOf, List.foldl_cons, List.foldl_nil, List.getD_cons_zero, List.getD_cons_succ, List.getD_nil, cond_true, cond_false, Act.put, List.setIfInBounds_toArray, List.set_cons_zero, List.set_cons_succ, h3] at hb
      clear h3
      subst hb
      rw [if_pos (by rfl)]
      (have HZ := Lib.hid (HEK.out _ hS.k); have c9 := (HZ.out.cell 0).trans (show _ = some (Value.int .u64 tl) from rfl); have c8 := HZ.out.lt)
      go_wp2_with fail
      exact hK.out _ _ ⟨_, rfl, RofX.pure (i := 4) rfl hS, rfl, AllPX.same _⟩
    refine RelyStepsX.cons (RelyStepX.mk [] [0, 1, 2, 3, 4, 6, 7, 9, 10, 11, 12, 13, 14, 15, 16, 17, 18, 20] rfl rfl rfl (fun xv Lv wS hS hL hLd hV bq hb K hK => ?_)) ?_
    · clear hV
      simp only [putsOf, List.foldl_cons, List.foldl_nil, List.getD_cons_zero, List.getD_cons_succ, List.getD_nil, cond_true, cond_false, Act.put, List.setIfInBounds_toArray, List.set_cons_zero, List.set_cons_succ] at hb
      subst hb
      rw [if_pos (by rfl)]
      have HSS := Lib.hid hS
      clear hS
      go_wp2_with fail
      exact hK.out _ _ ⟨_, rfl, HSS.out.step rfl (HSS.out.k.trans (Kept.alloc noRow wS _) (fun _ _ e => e.elim)), owned_empty _ _ (HSZ.out _ HSS.out.k), AllPX.of _ (fun j _ _ h => frV_below ((Below.refl _ _).alloc (Nat.le_refl _) _) h)⟩
    refine RelyStepsX.cons (RelyStepX.mk [] [0, 1, 2, 3, 4, 5, 8, 9, 10, 11, 12, 13, 14, 15, 16, 17, 18, 20] rfl rfl rfl (fun xv Lv wS hS hL hLd hV bq hb K hK => ?_)) ?_
    · clear hV
      simp only [putsOf, List.foldl_cons, List.foldl_nil, List.getD_cons_zero, List.getD_cons_succ, List.getD_nil, cond_true, cond_false, Act.put, List.setIfInBounds_toArray, List.set_cons_zero, List.set_cons_succ] at hb
      subst hb
      rw [if_pos (by rfl)]
      go_wp2_with fail
      exact hK.out _ _ ⟨_, rfl, RofX.pure (i := 6) rfl hS, rfl, AllPX.same _⟩
    refine RelyStepsX.cons (RelyStepX.mk [6] [0, 1, 2, 3, 4, 5, 9, 10, 11, 12, 13, 14, 15, 16, 17, 18, 20] rfl rfl rfl (fun xv Lv wS hS hL hLd hV bq hb K hK => ?_)) ?_
    · obtain ⟨h6, _⟩ := hV
      have h6 : xv 6 = _ := h6
      simp only [putsOf, List.foldl_cons, List.foldl_nil, List.getD_cons_zero, List.getD_cons_succ, List.getD_nil, cond_true, cond_false, Act.put, List.setIfInBounds_toArray, List.set_cons_zero, List.set_cons_succ, h6] at hb
      clear h6
      subst hb
      rw [if_pos (by rfl)]
      (have HZ := Lib.hid (HEK.out _ hS.k); have c9 := (HZ.out.cell 1).trans (show _ = some (Value.slice Ah nh ch) from rfl); have c8 := HZ.out.lt)
      go_wp2_with fail
      exact hK.out _ _ ⟨_, rfl, RofX.pure (i := 7) rfl hS, rfl, AllPX.same _⟩
    refine RelyStepsX.cons (RelyStepX.mk [5, 7] [0, 1, 2, 3, 4, 9, 10, 11, 12, 13, 15, 16, 17, 20] rfl rfl rfl (fun xv Lv wS hS hL hLd hV bq hb K hK => ?_)) ?_
    · obtain ⟨h5, h7, _⟩ := hV
      have h7 : xv 7 = _ := h7
      simp only [putsOf, List.foldl_cons, List.foldl_nil, List.getD_cons_zero, List.getD_cons_succ, List.getD_nil, cond_true, cond_false, Act.put, List.setIfInBounds_toArray, List.set_cons_zero, List.set_cons_succ, h7] at hb
      generalize hy5 : xv 5 = y5 at *
      clear h7
      subst hb
      rw [if_pos (by rfl)]
      have ho : wS.ownsRow N 32 1 y5 0 [] := h5
      have HSS := Lib.hid hS
      clear hS h5
      refine step_list (ops := #[]) (by rfl) (append_argS wS 1 rfl (.tmp 10) (.tmp 12) 33 rfl N 32 (.int .u64 0) 8 Try.underlying33 Try.info64O rfl (by decide) y5 0 [] rfl ho Ah nh ch rfl hs (HHK.out _ HSS.out.k) h1 (by unfold maxLen; omega) (by omega) (HSZ.out _ HSS.out.k) ?_)
      intro v' w' ho3 hb3 hg3
      rw [List.nil_append, Nat.zero_add] at ho3
      have hk3 := Kept.of_grown hg3
      exact hK.out _ _ ⟨_, rfl, HSS.out.step rfl (HSS.out.k.trans (kept_frm hb3) (fun k hk (e : N ≤ k) => by have := HNS.out; omega)), ho3, AllPX.of _ (fun j hj hj2 h => frV_grow ho hk3 (all_grow (by rfl) hj) (blk_low (rofF_low cp tl rd cl (.slice Ah nh ch) (.slice As ns cs) nh ns hs xs hBN) j) h)⟩
    refine RelyStepsX.cons (RelyStepX.mk [] [0, 1, 2, 3, 4, 5, 6, 7, 8, 11, 12, 13, 14, 15, 16, 17, 18, 20] rfl rfl rfl (fun xv Lv wS hS hL hLd hV bq hb K hK => ?_)) ?_
    · clear hV
      simp only [putsOf, List.foldl_cons, List.foldl_nil, List.getD_cons_zero, List.getD_cons_succ, List.getD_nil, cond_true, cond_false, Act.put, List.setIfInBounds_toArray, List.set_cons_zero, List.set_cons_succ] at hb
      subst hb
      rw [if_pos (by rfl)]
      go_wp2_with fail
      exact hK.out _ _ ⟨_, rfl, RofX.pure (i := 9) rfl hS, rfl, AllPX.same _⟩
    refine RelyStepsX.cons (RelyStepX.mk [9] [0, 1, 2, 3, 4, 5, 6, 7, 8, 11, 12, 13, 14, 15, 16, 17, 20] rfl rfl rfl (fun xv Lv wS hS hL hLd hV bq hb K hK => ?_)) ?_
    · obtain ⟨h9, _⟩ := hV
      have h9 : xv 9 = _ := h9
      simp only [putsOf, List.foldl_cons, List.foldl_nil, List.getD_cons_zero, List.getD_cons_succ, List.getD_nil, cond_true, cond_false, Act.put, List.setIfInBounds_toArray, List.set_cons_zero, List.set_cons_succ, h9] at hb
      clear h9
      subst hb
      rw [if_pos (by rfl)]
      (have HZ := Lib.hid (HEK.out _ hS.k); have c9 := (HZ.out.cell 2).trans (show _ = some (Value.bool cl) from rfl); have c8 := HZ.out.lt)
      go_wp2_with fail
      exact hK.out _ _ ⟨_, rfl, RofX.pure (i := 10) rfl hS, rfl, AllPX.same _⟩
    refine RelyStepsX.cons (RelyStepX.mk [] [0, 1, 2, 3, 4, 5, 6, 7, 8, 9, 10, 12, 13, 15, 16, 17, 18, 20] rfl rfl rfl (fun xv Lv wS hS hL hLd hV bq hb K hK => ?_)) ?_
    · clear hV
      simp only [putsOf, List.foldl_cons, List.foldl_nil, List.getD_cons_zero, List.getD_cons_succ, List.getD_nil, cond_true, cond_false, Act.put, List.setIfInBounds_toArray, List.set_cons_zero, List.set_cons_succ] at hb
      subst hb
      rw [if_pos (by rfl)]
      have HSS := Lib.hid hS
      clear hS
      go_wp2_with fail
      exact hK.out _ _ ⟨_, rfl, HSS.out.step rfl (HSS.out.k.trans (Kept.alloc noRow wS _) (fun _ _ e => e.elim)), owned_empty _ _ (HSZ.out _ HSS.out.k), AllPX.of _ (fun j _ _ h => frV_below ((Below.refl _ _).alloc (Nat.le_refl _) _) h)⟩
    refine RelyStepsX.cons (RelyStepX.mk [] [0, 1, 2, 3, 4, 5, 6, 7, 8, 9, 10, 11, 14, 15, 16, 17, 18, 20] rfl rfl rfl (fun xv Lv wS hS hL hLd hV bq hb K hK => ?_)) ?_
    · clear hV
      simp only [putsOf, List.foldl_cons, List.foldl_nil, List.getD_cons_zero, List.getD_cons_succ, List.getD_nil, cond_true, cond_false, Act.put, List.setIfInBounds_toArray, List.set_cons_zero, List.set_cons_succ] at hb
      subst hb
      rw [if_pos (by rfl)]
      go_wp2_with fail
      exact hK.out _ _ ⟨_, rfl, RofX.pure (i := 12) rfl hS, rfl, AllPX.same _⟩
    refine RelyStepsX.cons (RelyStepX.mk [12] [0, 1, 2, 3, 4, 5, 6, 7, 8, 9, 10, 11, 15, 16, 17, 18, 20] rfl rfl rfl (fun xv Lv wS hS hL hLd hV bq hb K hK => ?_)) ?_
    · obtain ⟨h12, _⟩ := hV
      have h12 : xv 12 = _ := h12
      simp only [putsOf, List.foldl_cons, List.foldl_nil, List.getD_cons_zero, List.getD_cons_succ, List.getD_nil, cond_true, cond_false, Act.put, List.setIfInBounds_toArray, List.set_cons_zero, List.set_cons_succ, h12] at hb
      clear h12
      subst hb
      rw [if_pos (by rfl)]
      (have HZ := Lib.hid (HEK.out _ hS.k); have c9 := (HZ.out.cell 3).trans (show _ = some (Value.slice As ns cs) from rfl); have c8 := HZ.out.lt)
      go_wp2_with fail
      exact hK.out _ _ ⟨_, rfl, RofX.pure (i := 13) rfl hS, rfl, AllPX.same _⟩
    refine RelyStepsX.cons (RelyStepX.mk [11, 13] [0, 1, 2, 3, 4, 8, 9, 10, 15, 16, 18, 20] rfl rfl rfl (fun xv Lv wS hS hL hLd hV bq hb K hK => ?_)) ?_
    · obtain ⟨h11, h13, _⟩ := hV
      have h13 : xv 13 = _ := h13
      simp only [putsOf, List.foldl_cons, List.foldl_nil, List.getD_cons_zero, List.getD_cons_succ, List.getD_nil, cond_true, cond_false, Act.put, List.setIfInBounds_toArray, List.set_cons_zero, List.set_cons_succ, h13] at hb
      generalize hy11 : xv 11 = y11 at *
      clear h13
      subst hb
      rw [if_pos (by rfl)]
      have ho : wS.ownsRow N 78 3 y11 0 [] := h11
      have HSS := Lib.hid hS
      clear hS h11
      refine step_list (ops := #[]) (by rfl) (append_argS wS 3 rfl (.tmp 16) (.tmp 18) 34 rfl N 78 _ 24 Try.underlying34 Try.infoSlO rfl (by decide) y11 0 [] rfl ho As ns cs rfl xs (HXK.out _ HSS.out.k) h2 (by unfold maxLen; omega) (by omega) (HSZ.out _ HSS.out.k) ?_)
      intro v' w' ho3 hb3 hg3
      rw [List.nil_append, Nat.zero_add] at ho3
      have hk3 := Kept.of_grown hg3
      exact hK.out _ _ ⟨_, rfl, HSS.out.step rfl (HSS.out.k.trans (kept_frm hb3) (fun k hk (e : N ≤ k) => by have := HNS.out; omega)), ho3, AllPX.of _ (fun j hj hj2 h => (Decidable.em (j = 18)).elim (fun e => by subst e; have q1 := HSS.out.b (HSS.out.a (hj2 (by decide))); rw [hL] at q1; cases q1) (fun e => frV_grow ho hk3 (rof_grow14 (all_in (fun j => j != 5 && (j == 18 || ((j != 11 && j != 14) && (j != 17 && j != 19)))) (by rfl) hj) e) (blk_low (rofF_low cp tl rd cl (.slice Ah nh ch) (.slice As ns cs) nh ns hs xs hBN) j) h))⟩
    refine RelyStepsX.cons (RelyStepX.mk [] [0, 1, 2, 3, 4, 5, 6, 7, 8, 9, 10, 11, 12, 13, 14, 17, 18, 20] rfl rfl rfl (fun xv Lv wS hS hL hLd hV bq hb K hK => ?_)) ?_
    · clear hV
      simp only [putsOf, List.foldl_cons, List.foldl_nil, List.getD_cons_zero, List.getD_cons_succ, List.getD_nil, cond_true, cond_false, Act.put, List.setIfInBounds_toArray, List.set_cons_zero, List.set_cons_succ] at hb
      subst hb
      rw [if_pos (by rfl)]
      go_wp2_with fail
      exact hK.out _ _ ⟨_, rfl, RofX.pure (i := 15) rfl hS, rfl, AllPX.same _⟩
    refine RelyStepsX.cons (RelyStepX.mk [15] [0, 1, 2, 3, 4, 5, 6, 7, 8, 9, 10, 11, 12, 13, 14, 18, 20] rfl rfl rfl (fun xv Lv wS hS hL hLd hV bq hb K hK => ?_)) ?_
    · obtain ⟨h15, _⟩ := hV
      have h15 : xv 15 = _ := h15
      simp only [putsOf, List.foldl_cons, List.foldl_nil, List.getD_cons_zero, List.getD_cons_succ, List.getD_nil, cond_true, cond_false, Act.put, List.setIfInBounds_toArray, List.set_cons_zero, List.set_cons_succ, h15] at hb
      clear h15
      subst hb
      rw [if_pos (by rfl)]
      (have HZ := Lib.hid (HGK.out _ hS.k); have c9 := (HZ.out.cell 2).trans (show _ = some (Value.int .i64 rd) from rfl); have c8 := HZ.out.lt)
      go_wp2_with fail
      exact hK.out _ _ ⟨_, rfl, RofX.pure (i := 16) rfl hS, rfl, AllPX.same _⟩
    refine RelyStepsX.cons (RelyStepX.mk [14, 16] [0, 1, 2, 3, 4, 6, 8, 9, 10, 20] rfl rfl rfl (fun xv Lv wS hS hL hLd hV bq hb K hK => ?_)) ?_
    · obtain ⟨h14, h16, _⟩ := hV
      have h16 : xv 16 = _ := h16
      simp only [putsOf, List.foldl_cons, List.foldl_nil, List.getD_cons_zero, List.getD_cons_succ, List.getD_nil, cond_true, cond_false, Act.put, List.setIfInBounds_toArray, List.set_cons_zero, List.set_cons_succ, h16] at hb
      generalize hy14 : xv 14 = y14 at *
      clear h16
      subst hb
      rw [if_pos (by rfl)]
      have ho : wS.ownsRow N 78 3 y14 ns xs := h14
      obtain ⟨A2, c2, rfl⟩ := rof_slice ho
      have HO := Lib.hid ho
      clear ho h14
      go_wp2_with fail
      exact hK.out _ _ ⟨_, rfl, hS.s17 (hLd 14 (by decide +kernel)), ⟨.slice A2 ns c2, .slice A2 ns c2, rfl, HO.out, HO.out⟩, AllPX.same _⟩
    refine RelyStepsX.cons (RelyStepX.mk [2, 4, 8, 10, 17] [12, 20] rfl rfl rfl (fun xv Lv wS hS hL hLd hV bq hb K hK => ?_)) ?_
    · obtain ⟨h2, h4, h8, h10, h17, _⟩ := hV
      have h2 : xv 2 = _ := h2
      have h4 : xv 4 = _ := h4
      have h10 : xv 10 = _ := h10
      simp only [putsOf, List.foldl_cons, List.foldl_nil, List.getD_cons_zero, List.getD_cons_succ, List.getD_nil, cond_true, cond_false, Act.put, List.setIfInBounds_toArray, List.set_cons_zero, List.set_cons_succ, h2, h4, h10] at hb
      clear h2
      clear h4
      generalize hy8 : xv 8 = y8 at *
      clear h10
      generalize hy17 : xv 17 = y17 at *
      subst hb
      rw [if_pos (by rfl)]
      have ho : wS.ownsRow N 32 1 y8 nh hs := h8
      obtain ⟨A1, c1, rfl⟩ := rof_slice ho
      obtain ⟨u1, u2, rfl, ho1, ho2⟩ := h17
      obtain ⟨A2, c2, rfl⟩ := rof_slice ho2
      have HO := Lib.hid ho
      have HP := Lib.hid ho2
      clear ho ho1 ho2 h8
      go_wp2_with fail
      exact hK.out _ _ ⟨_, rfl, hS.s18 (hLd 17 (by decide +kernel)), ⟨.slice A1 nh c1, .slice A2 ns c2, rfl, HO.out, HP.out⟩, AllPX.same _⟩
    refine RelyStepsX.cons (RelyStepX.mk [18, 20] [] rfl rfl rfl (fun xv Lv wS hS hL hLd hV bq hb K hK => ?_)) ?_
    · obtain ⟨h18, h20, _⟩ := hV
      simp only [putsOf, List.foldl_cons, List.foldl_nil, List.getD_cons_zero, List.getD_cons_succ, List.getD_nil, cond_true, cond_false, Act.put, List.setIfInBounds_toArray, List.set_cons_zero, List.set_cons_succ] at hb
      generalize hy18 : xv 18 = y18 at *
      generalize hy20 : xv 20 = y20 at *
      subst hb
      rw [if_pos (by rfl)]
      obtain ⟨u1, u2, rfl, ho1, ho2⟩ := h18
      obtain ⟨A1, c1, rfl⟩ := rof_slice ho1
      obtain ⟨A2, c2, rfl⟩ := rof_slice ho2
      have qq : Lies wS (w.heap.size + 1 + 1) 38 rofZ := h20
      have HQ := Lib.hid qq
      have HO := Lib.hid ho1
      have HP := Lib.hid ho2
      have HSS := Lib.hid hS
      have z0 := (qq.cell 0).trans (show _ = some (Value.int .u64 0) from rfl)
      have z1 := (qq.cell 1).trans (show _ = some (Value.int .u64 0) from rfl)
      have z2 := (qq.cell 2).trans (show _ = some (Value.slice none 0 0) from rfl)
      have z3 := (qq.cell 3).trans (show _ = some (Value.bool false) from rfl)
      have z4 := (qq.cell 4).trans (show _ = some (Value.slice none 0 0) from rfl)
      have z5 := (qq.cell 5).trans (show _ = some (Value.int .i64 0) from rfl)
      have f0 := qq.free 0
      have f1 := qq.free 1
      have f2 := qq.free 2
      have f3 := qq.free 3
      have f4 := qq.free 4
      have f5 := qq.free 5
      have c8 := qq.lt
      clear hS qq h20 ho1 ho2
      go_wp2_with fail
      have hk9 := so6_kept wS (w.heap.size + 1 + 1) (.int .u64 (IntKind.u64.wrap cp)) (.int .u64 tl) (.slice A1 nh c1) (.bool cl) (.slice A2 ns c2) (.int .i64 rd)
      exact hK.out _ _ ⟨undef, rfl, HSS.out.step rfl (HSS.out.k.trans hk9 (fun _ _ e => e)), ⟨.slice A1 nh c1, .slice A2 ns c2, so6_lies HQ.out, owns_kept HO.out hk9 (fun r cur hr hl (e : r = w.heap.size + 1 + 1) => by subst e; exact absurd (show (32 : TypeId) = 38 from (hl.same HQ.out).1) (by decide)), owns_kept HP.out hk9 (fun r cur hr hl (e : r = w.heap.size + 1 + 1) => by subst e; exact absurd (show (78 : TypeId) = 38 from (hl.same HQ.out).1) (by decide))⟩, trivial⟩
    exact RelyStepsX.nil
  case rE =>
    intro xv Lv wE hS hLall hV
    have h19 := hV 19 (by decide) (by decide)
    clear hV
    simp only [putsOf, List.foldl_cons, List.foldl_nil, List.getD_cons_zero, List.getD_cons_succ, List.getD_nil, cond_true, cond_false, Act.put, List.setIfInBounds_toArray, List.set_cons_zero, List.set_cons_succ]
    generalize xv 0 = y0 at *
    generalize xv 1 = y1 at *
    generalize xv 2 = y2 at *
    generalize xv 3 = y3 at *
    generalize xv 4 = y4 at *
    generalize xv 5 = y5 at *
    generalize xv 6 = y6 at *
    generalize xv 7 = y7 at *
    generalize xv 8 = y8 at *
    generalize xv 9 = y9 at *
    generalize xv 10 = y10 at *
    generalize xv 11 = y11 at *
    generalize xv 12 = y12 at *
    generalize xv 13 = y13 at *
    generalize xv 14 = y14 at *
    generalize xv 15 = y15 at *
    generalize xv 16 = y16 at *
    generalize xv 17 = y17 at *
    generalize xv 18 = y18 at *
    generalize xv 19 = y19 at *
    obtain ⟨u1, u2, hl, ho1, ho2⟩ := h19
    obtain ⟨A1, k1, rfl⟩ := rof_slice ho1
    obtain ⟨A2, k2, rfl⟩ := rof_slice ho2
    have HL : Hid (Lies wE (w.heap.size + 1 + 1) 38 (rofC (IntKind.u64.wrap cp) tl (.slice A1 nh k1) cl (.slice A2 ns k2) rd)) := hl
    have HO1 : Hid (wE.ownsRow w.heap.size 32 1 (.slice A1 nh k1) nh hs) := owns_mono ho1 (show w.heap.size ≤ N by omega)
    have HO2 : Hid (wE.ownsRow w.heap.size 78 3 (.slice A2 ns k2) ns xs) := owns_mono ho2 (show w.heap.size ≤ N by omega)
    have HBE := Lib.hid (HB.out.trans (hS.k.below HB.out.size (fun k hk (e : k = w.heap.size + 1 + 1) => by omega)))
    have q0 := (HL.out.cell 0).trans (show _ = some (Value.int .u64 (IntKind.u64.wrap cp)) from rfl)
    have q1 := (HL.out.cell 1).trans (show _ = some (Value.int .u64 tl) from rfl)
    have q2 := (HL.out.cell 2).trans (show _ = some (Value.slice A1 nh k1) from rfl)
    have q3 := (HL.out.cell 3).trans (show _ = some (Value.bool cl) from rfl)
    have q4 := (HL.out.cell 4).trans (show _ = some (Value.slice A2 ns k2) from rfl)
    have q5 := (HL.out.cell 5).trans (show _ = some (Value.int .i64 rd) from rfl)
    have c8 := HL.out.lt
    clear hl ho1 ho2 hS HG HE H4 HHQ HXQ HGK HEK HHK HXK HSZ
    go_wp2
    exact bodyPost_ret (v := .agg (rofC (IntKind.u64.wrap cp) tl (.slice A1 nh k1) cl (.slice A2 ns k2) rd)) (by simp [results, Try.results17, go_sem, q0, q1, q2, q3, q4, q5]) rfl ⟨A1, k1, A2, k2, rfl, HO1.out, HO2.out, HBE.out⟩
end Go.Proofs.Ytahojmioonpodaa
/-
  The document's State (rondeauref13) of any ring: rows of the call's own.
-/
namespace Go.Proofs.Ytahojmioonpodaa
open Go.RowKit
set_option linter.unusedVariables false
set_option linter.unusedSimpArgs false
abbrev rstZ : Array Value := #[.int .u64 0, .slice none 0 0, .bool false, .slice none 0 0]
def rstF (b0 b1 : Nat) (tl : Int) (cl : Bool) (vh vs : Value) (nh ns : Nat) (hs xs : List Value) : List Fr :=
  [.eq (.pointer (some ⟨b0, 1, none⟩)), .eq (.int .u64 tl), .row (rofR 0 []), .eq (.pointer (some ⟨b0, 2, none⟩)), .eq vh, .row (rofR nh hs),
   .eq (.pointer (some ⟨b0, 3, none⟩)), .eq (.bool cl), .row (rofQ 0 []), .eq (.pointer (some ⟨b0, 4, none⟩)), .eq (.pointer (some ⟨b0, 4, none⟩)), .eq vs, .row (rofQ ns xs),
   .agg2 (fun u1 u2 => rofS tl u1 cl u2) (rofR nh hs) (rofQ ns xs), .at2 b1 42 (fun u1 u2 => rofS tl u1 cl u2) (rofR nh hs) (rofQ ns xs), .lies b1 42 rstZ]
theorem rstF_low {b0 b1 N : Nat} (tl : Int) (cl : Bool) (vh vs : Value) (nh ns : Nat) (hs xs : List Value) (h : b1 < N) : ∀ f ∈ rstF b0 b1 tl cl vh vs nh ns hs xs, ∀ b ∈ f.blks, b < N := by
  unfold rstF
  simp [Fr.blks, h]
abbrev st4o (w : World) (b : Nat) (a0 a1 a2 a3 : Value) : World := (((w.setCell ⟨b, 0, none⟩ a0).setCell ⟨b, 1, none⟩ a1).setCell ⟨b, 2, none⟩ a2).setCell ⟨b, 3, none⟩ a3
theorem st4o_kept (w : World) (b : Nat) (a0 a1 a2 a3 : Value) : Kept (oneRow b) w (st4o w b a0 a1 a2 a3) :=
  (((Kept.put w b 0 a0).trans (Kept.put _ b 1 a1) (fun _ _ h => h)).trans (Kept.put _ b 2 a2) (fun _ _ h => h)).trans (Kept.put _ b 3 a3) (fun _ _ h => h)
theorem st4o_lies {w : World} {b : Nat} {T : TypeId} {z0 z1 z2 z3 a0 a1 a2 a3 : Value} (h : Lies w b T #[z0, z1, z2, z3]) : Lies (st4o w b a0 a1 a2 a3) b T #[a0, a1, a2, a3] := (((h.put 0 a0).put 1 a1).put 2 a2).put 3 a3
set_option maxHeartbeats 8000000 in
set_option maxRecDepth 100000 in
theorem ref13St (cp tl rd : Int) (cl : Bool) (Ah : Option Addr) (nh ch : Nat) (As : Option Addr) (ns cs : Nat) (hs xs : List Value) (w : World) (hh : SeqS w 1 (.slice Ah nh ch) nh hs) (hx : SeqS w 3 (.slice As ns cs) ns xs) (h1 : ∀ u ∈ hs, u.oneCell' = true) (h2 : ∀ u ∈ xs, u.oneCell' = true) (b1 : nh ≤ 1000000) (b2 : ns ≤ 1000000) :
    Calls Try.prog 16 #[.agg (rofC cp tl (.slice Ah nh ch) cl (.slice As ns cs) rd)] w fun e w' => ∃ A1 c1 A2 c2, e = .returned (.agg (rofS tl (.slice A1 nh c1) cl (.slice A2 ns c2))) ∧ w'.ownsRow w.heap.size 32 1 (.slice A1 nh c1) nh hs ∧ w'.ownsRow w.heap.size 78 3 (.slice A2 ns c2) ns xs ∧ Below w.heap.size w w' := by
  have hb3 : Below w.heap.size w ((w.alloc (.cells (rofC cp tl (.slice Ah nh ch) cl (.slice As ns cs) rd) 38)).alloc (.cells rstZ 42)) := ((Below.refl _ _).alloc (Nat.le_refl _) _).alloc (by simp) _
  have l1 := (Lies.made w 38 (rofC cp tl (.slice Ah nh ch) cl (.slice As ns cs) rd)).alloc (.cells rstZ 42)
  have l2 := Lies.made (w.alloc (.cells (rofC cp tl (.slice Ah nh ch) cl (.slice As ns cs) rd) 38)) 42 rstZ
  rw [show (w.alloc (.cells (rofC cp tl (.slice Ah nh ch) cl (.slice As ns cs) rd) 38)).heap.size = w.heap.size + 1 by simp] at l2
  have HB := Lib.hid hb3
  have HG := Lib.hid l1
  have H4 := Lib.hid l2
  have HHQ := Lib.hid (fun (q : World) (hq : Below w.heap.size w q) => hh.later hq)
  have HXQ := Lib.hid (fun (q : World) (hq : Below w.heap.size w q) => hx.later hq)
  clear hb3 l1 l2 hh hx
  go_enter Try.func16, Try.ntmps16
  go_wp2_with fail
  generalize hw1 : ((w.alloc (.cells (rofC cp tl (.slice Ah nh ch) cl (.slice As ns cs) rd) 38)).alloc (.cells rstZ 42)) = wr0 at *
  clear hw1
  obtain ⟨N, hN⟩ : ∃ N, wr0.heap.size = N := ⟨_, rfl⟩
  have hBN : w.heap.size + 1 < N := by rw [← hN]; exact H4.out.lt
  have HNS : Hid (wr0.heap.size = N) := hN
  have HNW : Hid (N ≤ wr0.heap.size) := Nat.le_of_eq hN.symm
  clear hN
  have HGK := Lib.hid (fun (q : World) (hq : Kept (oneRow (w.heap.size + 1)) wr0 q) => HG.out.kept hq (fun (e : w.heap.size = w.heap.size + 1) => by omega))
  have HHK := Lib.hid (fun (q : World) (hq : Kept (oneRow (w.heap.size + 1)) wr0 q) => HHQ.out q (HB.out.trans (hq.below HB.out.size (fun k hk (e : k = w.heap.size + 1) => by omega))))
  have HXK := Lib.hid (fun (q : World) (hq : Kept (oneRow (w.heap.size + 1)) wr0 q) => HXQ.out q (HB.out.trans (hq.below HB.out.size (fun k hk (e : k = w.heap.size + 1) => by omega))))
  have HSZ := Lib.hid (fun (q : World) (hq : Kept (oneRow (w.heap.size + 1)) wr0 q) => Nat.le_trans HNW.out hq.size)
  refine wp_region_rely (fun q => Kept (oneRow (w.heap.size + 1)) wr0 q) (frV N (rstF w.heap.size (w.heap.size + 1) tl cl (.slice Ah nh ch) (.slice As ns cs) nh ns hs xs)) [some 3, some 4, some 5, some 6, some 7, some 8, some 9, some 10, some 11, some 12, some 13, some 14, some 15, some 16, none] [[], [0], [], [], [3], [2, 4], [], [6], [], [], [9], [10], [8, 11], [1, 5, 7, 12], [13, 15]] [[], [0], [], [], [3], [2, 3, 4], [], [6], [], [], [9], [9, 10], [2, 4, 8, 10, 11], [0, 1, 2, 4, 5, 6, 7, 8, 11, 12], [0, 1, 2, 3, 4, 5, 6, 7, 8, 9, 10, 11, 12, 13, 15]] [[2, 3, 4, 5, 6, 7, 8, 9, 10, 11, 12, 13, 15], [2, 3, 4, 5, 6, 7, 8, 9, 10, 11, 12, 15], [0, 1, 3, 4, 6, 7, 8, 9, 10, 11, 12, 13, 15], [0, 1, 2, 5, 6, 7, 8, 9, 10, 11, 12, 13, 15], [0, 1, 2, 6, 7, 8, 9, 10, 11, 12, 13, 15], [0, 1, 6, 7, 8, 9, 10, 11, 15], [0, 1, 2, 3, 4, 5, 8, 9, 10, 11, 12, 13, 15], [0, 1, 2, 3, 4, 5, 8, 9, 10, 11, 12, 15], [0, 1, 2, 3, 4, 5, 6, 7, 9, 10, 11, 13, 15], [0, 1, 2, 3, 4, 5, 6, 7, 8, 11, 12, 13, 15], [0, 1, 2, 3, 4, 5, 6, 7, 8, 12, 13, 15], [0, 1, 2, 3, 4, 5, 6, 7, 8, 13, 15], [0, 1, 5, 6, 7, 15], [9, 15], []] [0, 1, 2, 3, 4, 5, 6, 7, 8, 9, 10, 11, 12, 13, 14] 16 (by kernel_rfl) (by kernel_rfl) (by kernel_rfl) (by kernel_rfl) ?rS ?rI ?rT ?rE
  case rS => exact Kept.drew _ _
  case rI =>
    intro j h1 h2
    have h1 : j < 16 := h1
    have h2 : 15 ≤ j := h2
    obtain rfl : j = 15 := by omega
    exact H4.out.drewN 1
  case rT =>
    refine RelySteps.cons (RelyStep.mk [] [2, 3, 4, 5, 6, 7, 8, 9, 10, 11, 12, 13, 15] rfl rfl rfl (fun xv wS hS hV bq hb K hK => ?_)) ?_
    · clear hV
      simp only [putsOf, List.foldl_cons, List.foldl_nil, List.getD_cons_zero, List.getD_cons_succ, List.getD_nil, cond_true, cond_false, Act.put, List.setIfInBounds_toArray, List.set_cons_zero, List.set_cons_succ] at hb
      subst hb
      rw [if_pos (by rfl)]
      go_wp2_with fail
      exact hK.out _ _ ⟨_, rfl, hS, rfl, AllP.same _⟩
    refine RelySteps.cons (RelyStep.mk [0] [2, 3, 4, 5, 6, 7, 8, 9, 10, 11, 12, 15] rfl rfl rfl (fun xv wS hS hV bq hb K hK => ?_)) ?_
    · obtain ⟨h0, _⟩ := hV
      have h0 : xv 0 = _ := h0
      simp only [putsOf, List.foldl_cons, List.foldl_nil, List.getD_cons_zero, List.getD_cons_succ, List.getD_nil, cond_true, cond_false, Act.put, List.setIfInBounds_toArray, List.set_cons_zero, List.set_cons_succ, h0] at hb
      clear h0
      subst hb
      rw [if_pos (by rfl)]
      (have HZ := Lib.hid (HGK.out _ hS); have c9 := (HZ.out.cell 1).trans (show _ = some (Value.int .u64 tl) from rfl); have c8 := HZ.out.lt)
      go_wp2_with fail
      exact hK.out _ _ ⟨_, rfl, hS, rfl, AllP.same _⟩
    refine RelySteps.cons (RelyStep.mk [] [0, 1, 3, 4, 6, 7, 8, 9, 10, 11, 12, 13, 15] rfl rfl rfl (fun xv wS hS hV bq hb K hK => ?_)) ?_
    · clear hV
      simp only [putsOf, List.foldl_cons, List.foldl_nil, List.getD_cons_zero, List.getD_cons_succ, List.getD_nil, cond_true, cond_false, Act.put, List.setIfInBounds_toArray, List.set_cons_zero, List.set_cons_succ] at hb
      subst hb
      rw [if_pos (by rfl)]
      have HSS := Lib.hid hS
      clear hS
      go_wp2_with fail
      exact hK.out _ _ ⟨_, rfl, HSS.out.trans (Kept.alloc noRow wS _) (fun _ _ e => e.elim), owned_empty _ _ (HSZ.out _ HSS.out), AllP.of _ (fun j _ u h => frV_below ((Below.refl _ _).alloc (Nat.le_refl _) _) h)⟩
    refine RelySteps.cons (RelyStep.mk [] [0, 1, 2, 5, 6, 7, 8, 9, 10, 11, 12, 13, 15] rfl rfl rfl (fun xv wS hS hV bq hb K hK => ?_)) ?_
    · clear hV
      simp only [putsOf, List.foldl_cons, List.foldl_nil, List.getD_cons_zero, List.getD_cons_succ, List.getD_nil, cond_true, cond_false, Act.put, List.setIfInBounds_toArray, List.set_cons_zero, List.set_cons_succ] at hb
      subst hb
      rw [if_pos (by rfl)]
      go_wp2_with fail
      exact hK.out _ _ ⟨_, rfl, hS, rfl, AllP.same _⟩
    refine RelySteps.cons (RelyStep.mk [3] [0, 1, 2, 6, 7, 8, 9, 10, 11, 12, 13, 15] rfl rfl rfl (fun xv wS hS hV bq hb K hK => ?_)) ?_
    · obtain ⟨h3, _⟩ := hV
      have h3 : xv 3 = _ := h3
      simp only [putsOf, List.foldl_cons, List.foldl_nil, List.getD_cons_zero, List.getD_cons_succ, List.getD_nil, cond_true, cond_false, Act.put, List.setIfInBounds_toArray, List.set_cons_zero, List.set_cons_succ, h3] at hb
      clear h3
      subst hb
      rw [if_pos (by rfl)]
      (have HZ := Lib.hid (HGK.out _ hS); have c9 := (HZ.out.cell 2).trans (show _ = some (Value.slice Ah nh ch) from rfl); have c8 := HZ.out.lt)
      go_wp2_with fail
      exact hK.out _ _ ⟨_, rfl, hS, rfl, AllP.same _⟩
    refine RelySteps.cons (RelyStep.mk [2, 4] [0, 1, 6, 7, 8, 9, 10, 11, 15] rfl rfl rfl (fun xv wS hS hV bq hb K hK => ?_)) ?_
    · obtain ⟨h2, h4, _⟩ := hV
      have h4 : xv 4 = _ := h4
      simp only [putsOf, List.foldl_cons, List.foldl_nil, List.getD_cons_zero, List.getD_cons_succ, List.getD_nil, cond_true, cond_false, Act.put, List.setIfInBounds_toArray, List.set_cons_zero, List.set_cons_succ, h4] at hb
      generalize xv 2 = y2 at *
      clear h4
      subst hb
      rw [if_pos (by rfl)]
      have ho : wS.ownsRow N 32 1 y2 0 [] := h2
      have HSS := Lib.hid hS
      clear hS
      refine step_list (ops := #[]) (by rfl) (append_argS wS 1 rfl (.tmp 5) (.tmp 7) 33 rfl N 32 (.int .u64 0) 8 Try.underlying33 Try.info64O rfl (by decide) y2 0 [] rfl ho Ah nh ch rfl hs (HHK.out _ HSS.out) h1 (by unfold maxLen; omega) (by omega) (HSZ.out _ HSS.out) ?_)
      intro v' w' ho3 hb3 hg3
      rw [List.nil_append, Nat.zero_add] at ho3
      have hk3 := Kept.of_grown hg3
      exact hK.out _ _ ⟨_, rfl, HSS.out.trans (kept_frm hb3) (fun k hk (e : N ≤ k) => by have := HNS.out; omega), ho3, AllP.of _ (fun j hj u h => frV_grow ho hk3 (all_grow (by rfl) hj) (blk_low (rstF_low tl cl (.slice Ah nh ch) (.slice As ns cs) nh ns hs xs hBN) j) h)⟩
    refine RelySteps.cons (RelyStep.mk [] [0, 1, 2, 3, 4, 5, 8, 9, 10, 11, 12, 13, 15] rfl rfl rfl (fun xv wS hS hV bq hb K hK => ?_)) ?_
    · clear hV
      simp only [putsOf, List.foldl_cons, List.foldl_nil, List.getD_cons_zero, List.getD_cons_succ, List.getD_nil, cond_true, cond_false, Act.put, List.setIfInBounds_toArray, List.set_cons_zero, List.set_cons_succ] at hb
      subst hb
      rw [if_pos (by rfl)]
      go_wp2_with fail
      exact hK.out _ _ ⟨_, rfl, hS, rfl, AllP.same _⟩
    refine RelySteps.cons (RelyStep.mk [6] [0, 1, 2, 3, 4, 5, 8, 9, 10, 11, 12, 15] rfl rfl rfl (fun xv wS hS hV bq hb K hK => ?_)) ?_
    · obtain ⟨h6, _⟩ := hV
      have h6 : xv 6 = _ := h6
      simp only [putsOf, List.foldl_cons, List.foldl_nil, List.getD_cons_zero, List.getD_cons_succ, List.getD_nil, cond_true, cond_false, Act.put, List.setIfInBounds_toArray, List.set_cons_zero, List.set_cons_succ, h6] at hb
      clear h6
      subst hb
      rw [if_pos (by rfl)]
      (have HZ := Lib.hid (HGK.out _ hS); have c9 := (HZ.out.cell 3).trans (show _ = some (Value.bool cl) from rfl); have c8 := HZ.out.lt)
      go_wp2_with fail
      exact hK.out _ _ ⟨_, rfl, hS, rfl, AllP.same _⟩
    refine RelySteps.cons (RelyStep.mk [] [0, 1, 2, 3, 4, 5, 6, 7, 9, 10, 11, 13, 15] rfl rfl rfl (fun xv wS hS hV bq hb K hK => ?_)) ?_
    · clear hV
      simp only [putsOf, List.foldl_cons, List.foldl_nil, List.getD_cons_zero, List.getD_cons_succ, List.getD_nil, cond_true, cond_false, Act.put, List.setIfInBounds_toArray, List.set_cons_zero, List.set_cons_succ] at hb
      subst hb
      rw [if_pos (by rfl)]
      have HSS := Lib.hid hS
      clear hS
      go_wp2_with fail
      exact hK.out _ _ ⟨_, rfl, HSS.out.trans (Kept.alloc noRow wS _) (fun _ _ e => e.elim), owned_empty _ _ (HSZ.out _ HSS.out), AllP.of _ (fun j _ u h => frV_below ((Below.refl _ _).alloc (Nat.le_refl _) _) h)⟩
    refine RelySteps.cons (RelyStep.mk [] [0, 1, 2, 3, 4, 5, 6, 7, 8, 11, 12, 13, 15] rfl rfl rfl (fun xv wS hS hV bq hb K hK => ?_)) ?_
    · clear hV
      simp only [putsOf, List.foldl_cons, List.foldl_nil, List.getD_cons_zero, List.getD_cons_succ, List.getD_nil, cond_true, cond_false, Act.put, List.setIfInBounds_toArray, List.set_cons_zero, List.set_cons_succ] at hb
      subst hb
      rw [if_pos (by rfl)]
      go_wp2_with fail
      exact hK.out _ _ ⟨_, rfl, hS, rfl, AllP.same _⟩
    refine RelySteps.cons (RelyStep.mk [9] [0, 1, 2, 3, 4, 5, 6, 7, 8, 12, 13, 15] rfl rfl rfl (fun xv wS hS hV bq hb K hK => ?_)) ?_
    · obtain ⟨h9, _⟩ := hV
      have h9 : xv 9 = _ := h9
      simp only [putsOf, List.foldl_cons, List.foldl_nil, List.getD_cons_zero, List.getD_cons_succ, List.getD_nil, cond_true, cond_false, Act.put, List.setIfInBounds_toArray, List.set_cons_zero, List.set_cons_succ, h9] at hb
      clear h9
      subst hb
      rw [if_pos (by rfl)]
      go_wp2_with fail
      exact hK.out _ _ ⟨_, rfl, hS, rfl, AllP.same _⟩
    refine RelySteps.cons (RelyStep.mk [10] [0, 1, 2, 3, 4, 5, 6, 7, 8, 13, 15] rfl rfl rfl (fun xv wS hS hV bq hb K hK => ?_)) ?_
    · obtain ⟨h10, _⟩ := hV
      have h10 : xv 10 = _ := h10
      simp only [putsOf, List.foldl_cons, List.foldl_nil, List.getD_cons_zero, List.getD_cons_succ, List.getD_nil, cond_true, cond_false, Act.put, List.setIfInBounds_toArray, List.set_cons_zero, List.set_cons_succ, h10] at hb
      clear h10
      subst hb
      rw [if_pos (by rfl)]
      (have HZ := Lib.hid (HGK.out _ hS); have c9 := (HZ.out.cell 4).trans (show _ = some (Value.slice As ns cs) from rfl); have c8 := HZ.out.lt)
      go_wp2_with fail
      exact hK.out _ _ ⟨_, rfl, hS, rfl, AllP.same _⟩
    refine RelySteps.cons (RelyStep.mk [8, 11] [0, 1, 5, 6, 7, 15] rfl rfl rfl (fun xv wS hS hV bq hb K hK => ?_)) ?_
    · obtain ⟨h8, h11, _⟩ := hV
      have h11 : xv 11 = _ := h11
      simp only [putsOf, List.foldl_cons, List.foldl_nil, List.getD_cons_zero, List.getD_cons_succ, List.getD_nil, cond_true, cond_false, Act.put, List.setIfInBounds_toArray, List.set_cons_zero, List.set_cons_succ, h11] at hb
      generalize xv 8 = y8 at *
      clear h11
      subst hb
      rw [if_pos (by rfl)]
      have ho : wS.ownsRow N 78 3 y8 0 [] := h8
      have HSS := Lib.hid hS
      clear hS
      refine step_list (ops := #[]) (by rfl) (append_argS wS 3 rfl (.tmp 11) (.tmp 14) 34 rfl N 78 _ 24 Try.underlying34 Try.infoSlO rfl (by decide) y8 0 [] rfl ho As ns cs rfl xs (HXK.out _ HSS.out) ‹∀ u ∈ xs, u.oneCell' = true› (by unfold maxLen; omega) (by omega) (HSZ.out _ HSS.out) ?_)
      intro v' w' ho3 hb3 hg3
      rw [List.nil_append, Nat.zero_add] at ho3
      have hk3 := Kept.of_grown hg3
      exact hK.out _ _ ⟨_, rfl, HSS.out.trans (kept_frm hb3) (fun k hk (e : N ≤ k) => by have := HNS.out; omega), ho3, AllP.of _ (fun j hj u h => frV_grow ho hk3 (all_grow (by rfl) hj) (blk_low (rstF_low tl cl (.slice Ah nh ch) (.slice As ns cs) nh ns hs xs hBN) j) h)⟩
    refine RelySteps.cons (RelyStep.mk [1, 5, 7, 12] [9, 15] rfl rfl rfl (fun xv wS hS hV bq hb K hK => ?_)) ?_
    · obtain ⟨h1, h5, h7, h12, _⟩ := hV
      have h1 : xv 1 = _ := h1
      have h7 : xv 7 = _ := h7
      simp only [putsOf, List.foldl_cons, List.foldl_nil, List.getD_cons_zero, List.getD_cons_succ, List.getD_nil, cond_true, cond_false, Act.put, List.setIfInBounds_toArray, List.set_cons_zero, List.set_cons_succ, h1, h7] at hb
      clear h1
      generalize xv 5 = y5 at *
      clear h7
      generalize xv 12 = y12 at *
      subst hb
      rw [if_pos (by rfl)]
      have ho1 : wS.ownsRow N 32 1 y5 nh hs := h5
      have ho2 : wS.ownsRow N 78 3 y12 ns xs := h12
      obtain ⟨A1, c1, rfl⟩ := rof_slice ho1
      obtain ⟨A2, c2, rfl⟩ := rof_slice ho2
      have HO := Lib.hid ho1
      have HP := Lib.hid ho2
      clear ho1 ho2 h5 h12
      go_wp2_with fail
      exact hK.out _ _ ⟨_, rfl, hS, ⟨.slice A1 nh c1, .slice A2 ns c2, rfl, HO.out, HP.out⟩, AllP.same _⟩
    refine RelySteps.cons (RelyStep.mk [13, 15] [] rfl rfl rfl (fun xv wS hS hV bq hb K hK => ?_)) ?_
    · obtain ⟨h13, h15, _⟩ := hV
      simp only [putsOf, List.foldl_cons, List.foldl_nil, List.getD_cons_zero, List.getD_cons_succ, List.getD_nil, cond_true, cond_false, Act.put, List.setIfInBounds_toArray, List.set_cons_zero, List.set_cons_succ] at hb
      generalize xv 13 = y13 at *
      generalize xv 15 = y15 at *
      subst hb
      rw [if_pos (by rfl)]
      obtain ⟨u1, u2, rfl, ho1, ho2⟩ := h13
      obtain ⟨A1, c1, rfl⟩ := rof_slice ho1
      obtain ⟨A2, c2, rfl⟩ := rof_slice ho2
      have qq : Lies wS (w.heap.size + 1) 42 rstZ := h15
      have HQ := Lib.hid qq
      have HO := Lib.hid ho1
      have HP := Lib.hid ho2
      have HSS := Lib.hid hS
      have z0 := (qq.cell 0).trans (show _ = some (Value.int .u64 0) from rfl)
      have z1 := (qq.cell 1).trans (show _ = some (Value.slice none 0 0) from rfl)
      have z2 := (qq.cell 2).trans (show _ = some (Value.bool false) from rfl)
      have z3 := (qq.cell 3).trans (show _ = some (Value.slice none 0 0) from rfl)
      have f0 := qq.free 0
      have f1 := qq.free 1
      have f2 := qq.free 2
      have f3 := qq.free 3
      have c8 := qq.lt
      clear hS qq h15 ho1 ho2
      go_wp2_with fail
      have hk9 := st4o_kept wS (w.heap.size + 1) (.int .u64 tl) (.slice A1 nh c1) (.bool cl) (.slice A2 ns c2)
      exact hK.out _ _ ⟨undef, rfl, HSS.out.trans hk9 (fun _ _ e => e), ⟨.slice A1 nh c1, .slice A2 ns c2, st4o_lies HQ.out, owns_kept HO.out hk9 (fun r cur hr hl (e : r = w.heap.size + 1) => by subst e; exact absurd (show (32 : TypeId) = 42 from (hl.same HQ.out).1) (by decide)), owns_kept HP.out hk9 (fun r cur hr hl (e : r = w.heap.size + 1) => by subst e; exact absurd (show (78 : TypeId) = 42 from (hl.same HQ.out).1) (by decide))⟩, trivial⟩
    exact RelySteps.nil
  case rE =>
    intro xv wE hS hV
    have h14 := hV 14 (by decide) (by decide)
    clear hV
    simp only [putsOf, List.foldl_cons, List.foldl_nil, List.getD_cons_zero, List.getD_cons_succ, List.getD_nil, cond_true, cond_false, Act.put, List.setIfInBounds_toArray, List.set_cons_zero, List.set_cons_succ]
    generalize xv 0 = y0 at *
    generalize xv 1 = y1 at *
    generalize xv 2 = y2 at *
    generalize xv 3 = y3 at *
    generalize xv 4 = y4 at *
    generalize xv 5 = y5 at *
    generalize xv 6 = y6 at *
    generalize xv 7 = y7 at *
    generalize xv 8 = y8 at *
    generalize xv 9 = y9 at *
    generalize xv 10 = y10 at *
    generalize xv 11 = y11 at *
    generalize xv 12 = y12 at *
    generalize xv 13 = y13 at *
    generalize xv 14 = y14 at *
    obtain ⟨u1, u2, hl, ho1, ho2⟩ := h14
    obtain ⟨A1, k1, rfl⟩ := rof_slice ho1
    obtain ⟨A2, k2, rfl⟩ := rof_slice ho2
    have HL : Hid (Lies wE (w.heap.size + 1) 42 (rofS tl (.slice A1 nh k1) cl (.slice A2 ns k2))) := hl
    have HO1 : Hid (wE.ownsRow w.heap.size 32 1 (.slice A1 nh k1) nh hs) := owns_mono ho1 (show w.heap.size ≤ N by omega)
    have HO2 : Hid (wE.ownsRow w.heap.size 78 3 (.slice A2 ns k2) ns xs) := owns_mono ho2 (show w.heap.size ≤ N by omega)
    have HBE := Lib.hid (HB.out.trans (hS.below HB.out.size (fun k hk (e : k = w.heap.size + 1) => by omega)))
    have q0 := (HL.out.cell 0).trans (show _ = some (Value.int .u64 tl) from rfl)
    have q1 := (HL.out.cell 1).trans (show _ = some (Value.slice A1 nh k1) from rfl)
    have q2 := (HL.out.cell 2).trans (show _ = some (Value.bool cl) from rfl)
    have q3 := (HL.out.cell 3).trans (show _ = some (Value.slice A2 ns k2) from rfl)
    have c8 := HL.out.lt
    clear hl ho1 ho2 hS HG H4 HHQ HXQ HGK HHK HXK HSZ
    go_wp2
    exact bodyPost_ret (v := .agg (rofS tl (.slice A1 nh k1) cl (.slice A2 ns k2))) (by simp [results, Try.results16, go_sem, q0, q1, q2, q3]) rfl ⟨A1, k1, A2, k2, rfl, HO1.out, HO2.out, HBE.out⟩
end Go.Proofs.Ytahojmioonpodaa
/-
  The document's place (rondeauref13): may a place stand so?
-/
namespace Go.Proofs.Ytahojmioonpodaa
open Go.RowKit
set_option linter.unusedVariables false
set_option linter.unusedSimpArgs false
/-- What is asked of each head. -/
def plB (o : Bool) (d cap : Nat) : Nat → List Nat → Bool
  | _, [] => true
  | l, h :: hs => (if o then !(decide (l % 2 = 0) && decide (h ≤ d)) else !(decide (cap ≤ d) && decide (h ≤ d - cap))) && plB o d cap (l / 2) hs
theorem plB_drop {o : Bool} {d cap l k h : Nat} {hs : List Nat} (hk : hs[k]? = some h) : plB o d cap l (hs.drop k) = ((if o then !(decide (l % 2 = 0) && decide (h ≤ d)) else !(decide (cap ≤ d) && decide (h ≤ d - cap))) && plB o d cap (l / 2) (hs.drop (k + 1))) := by
  obtain ⟨hl, e⟩ := List.getElem?_eq_some_iff.1 hk
  rw [List.drop_eq_getElem_cons hl, e]
  rfl
set_option maxHeartbeats 4000000 in
set_option maxRecDepth 100000 in
theorem rfPlace (x : Sl) (cap tail l : Nat) (hs : List Nat) (A : Option Addr) (c : Nat) (w : World) (hh : SeqAt w (.slice A hs.length c) (cellsH hs)) (h1 : x.s < 9223372036854775808) (hl0 : x.l = (l : Int)) (hl1 : l ≤ 1152921504606846976) (hc : cap ≤ 1000) (ht : tail < 9223372036854775808) (hhb : ∀ h ∈ hs, h < 9223372036854775808) (hn : hs.length ≤ 1000) :
    Calls Try.prog 45 #[.agg #[.int .u64 (x.s : Int), .int .u64 (x.v : Int), .int .i64 x.l], .int .u64 (cap : Int), .int .u64 (tail : Int), .slice A hs.length c] w fun e w' => e = .returned (.bool (!(decide (x.s % 2 = 1) && decide (tail ≤ x.s / 2)) && plB (decide (x.s % 2 = 1)) (x.s / 2) cap l hs)) ∧ Below w.heap.size w w' := by
  have hb0 := (Below.refl w.heap.size w).alloc (Nat.le_refl _) (.cells #[.int .u64 (x.s : Int), .int .u64 (x.v : Int), .int .i64 (l : Int)] 78)
  have l0 := Lies.made w 78 #[.int .u64 (x.s : Int), .int .u64 (x.v : Int), .int .i64 (l : Int)]
  have HB := Lib.hid hb0
  have HL := Lib.hid l0
  have HC : hs.length ≤ c ∧ c ≤ 9223372036854775807 := by
    obtain ⟨A', c', e, k1, k2, _⟩ := hh
    simp only [Value.slice.injEq] at e
    obtain ⟨_, e2, rfl⟩ := e
    unfold maxLen at k2
    exact ⟨by omega, by omega⟩
  obtain ⟨hc1, hc2⟩ := HC
  obtain ⟨d, hd⟩ : ∃ d, x.s / 2 = d := ⟨_, rfl⟩
  obtain ⟨m, hm⟩ : ∃ m, x.s % 2 = m := ⟨_, rfl⟩
  have hm2 : m < 2 := by omega
  obtain ⟨S, hSS⟩ : ∃ S : Int, S = (x.s : Int) := ⟨_, rfl⟩
  have hS0 : 0 ≤ S := by omega
  have hS1 : S ≤ 9223372036854775807 := by omega
  have hqd : S / 2 = (d : Int) := by omega
  have hrm : S % 2 = (m : Int) := by omega
  have hd1 : d < 4611686018427387904 := by omega
  rw [hd, hm, hl0]
  rw [← hSS] at l0 ⊢
  replace HL := Lib.hid l0
  rw [← hSS] at hb0
  replace HB := Lib.hid hb0
  clear hd hm hSS l0 hb0 h1 hl0
  have HHB := Lib.hid hhb
  clear hhb
  go_enter Try.func45, Try.ntmps45
  have z0 := (HL.out.cell 0).trans (show _ = some (.int .u64 S) from rfl)
  have z2 := (HL.out.cell 2).trans (show _ = some (.int .i64 (l : Int)) from rfl)
  have zl := HL.out.lt
  have hm01 : m = 0 ∨ m = 1 := by omega
  by_cases hb : m = 1 ∧ tail ≤ d
  · obtain ⟨rfl, htd⟩ := hb
    have e2 : decide (tail ≤ d) = true := decide_eq_true htd
    have e3 : decide ((tail : Int) ≤ (d : Int)) = true := by rw [decide_eq_true_iff]; omega
    go_wp2
    go_ret
    exact ⟨rfl, HB.out⟩
  · have hpre : (decide (m = 1) && decide (tail ≤ d)) = false := by
      rw [Bool.and_eq_false_iff]
      rcases hm01 with h | h
      · left; subst h; rfl
      · right; rw [decide_eq_false_iff_not]; exact fun e => hb ⟨h, e⟩
    rw [hpre]
    simp only [Bool.not_false, Bool.true_and]
    obtain ⟨pb, hpb⟩ : ∃ pb, plB (decide (m = 1)) d cap l hs = pb := ⟨_, rfl⟩
    rw [hpb]
    have HH1 := Lib.hid (fun (k : Nat) (h : Nat) (hk : hs[k]? = some h) => SeqAt.get hh HB.out (show (cellsH hs)[k]? = some (.int .u64 (h : Int)) by unfold cellsH; rw [List.getElem?_map, hk]; rfl))
    clear hh
    have HPB := Lib.hid hpb
    clear hpb
    rcases hm01 with rfl | rfl
    · clear hb hpre hm2
      go_wp2
      go_loopw [10, 11] (fun a u wr => ∃ k L : Nat, k ≤ hs.length ∧ u = .int .i64 k ∧ a = .int .i64 (L : Int) ∧ L ≤ 1152921504606846976 ∧ Hid (pb = plB false d cap L (hs.drop k)) ∧ wr = w.alloc (.cells #[.int .u64 S, .int .u64 (x.v : Int), .int .i64 (l : Int)] 78)) (fun a u _ => hs.length - (intOf u).toNat)
      case atStart => exact ⟨0, l, by omega, rfl, rfl, hl1, HPB.out.symm, rfl⟩
      case round =>
        obtain ⟨k, L, hk, rfl, rfl, hL, hP, rfl⟩ := hrel
        by_cases hlt : k < hs.length
        · have hki : (k : Int) < (hs.length : Int) := by omega
          obtain ⟨h, hx⟩ : ∃ h, hs[k]? = some h := ⟨_, List.getElem?_eq_getElem hlt⟩
          have hh63 := HHB.out h (List.mem_of_getElem? hx)
          obtain ⟨b, off, e1, _, g1⟩ := HH1.out k h hx
          have hpd := plB_drop (o := false) (d := d) (cap := cap) (l := L) hx
          have HPD := Lib.hid hpd
          clear hx hpd
          subst e1
          have hlq : IntKind.i64.wrap (Int.tdiv (L : Int) 2) = ((L / 2 : Nat) : Int) := by rw [show Int.tdiv (L : Int) 2 = ((L / 2 : Nat) : Int) from rfl]; exact IntWalk.i64_in _ (by omega)
          by_cases hcd : cap ≤ d
          · have f1 : decide ((cap : Int) ≤ (d : Int)) = true := by rw [decide_eq_true_iff]; omega
            have hsub : (d : Int) - (cap : Int) = ((d - cap : Nat) : Int) := by omega
            have hwr : IntKind.u64.wrap ((d : Int) - (cap : Int)) = ((d - cap : Nat) : Int) := by rw [hsub]; exact IntWalk.u64_in _ (by omega)
            by_cases hd2 : h ≤ d - cap
            · have f2 : decide ((h : Int) ≤ ((d - cap : Nat) : Int)) = true := by rw [decide_eq_true_iff]; omega
              have HF : Hid (pb = false) := by
                show _ = _
                rw [hP.out, HPD.out]
                simp [hcd, hd2]
              go_wp2
              go_ret
              exact ⟨by rw [HF.out]; rfl, HB.out⟩
            · have f2 : decide ((h : Int) ≤ ((d - cap : Nat) : Int)) = false := by rw [decide_eq_false_iff_not]; omega
              have HN : Hid (pb = plB false d cap (L / 2) (hs.drop (k + 1))) := by
                show _ = _
                rw [hP.out, HPD.out]
                simp [hcd, hd2]
              go_wp2
              go_roundw
              case rel => exact ⟨k + 1, L / 2, by omega, by go_num, by go_num, by omega, HN, trivial⟩
              case measure => simp [intOf]; omega
          · have f1 : decide ((cap : Int) ≤ (d : Int)) = false := by rw [decide_eq_false_iff_not]; omega
            have HN : Hid (pb = plB false d cap (L / 2) (hs.drop (k + 1))) := by
              show _ = _
              rw [hP.out, HPD.out]
              simp [hcd]
            go_wp2
            go_roundw
            case rel => exact ⟨k + 1, L / 2, by omega, by go_num, by go_num, by omega, HN, trivial⟩
            case measure => simp [intOf]; omega
        · obtain rfl : k = hs.length := by omega
          have HE : Hid (pb = true) := by
            show _ = _
            rw [hP.out, List.drop_length]
            rfl
          go_wp2
          go_ret
          exact ⟨by rw [HE.out]; rfl, HB.out⟩
    · have htd : ¬ tail ≤ d := fun e => hb ⟨rfl, e⟩
      have e2 : decide (tail ≤ d) = false := decide_eq_false htd
      have e3 : decide ((tail : Int) ≤ (d : Int)) = false := by rw [decide_eq_false_iff_not]; omega
      clear hb hpre hm2
      go_wp2
      go_loopw [10, 11] (fun a u wr => ∃ k L : Nat, k ≤ hs.length ∧ u = .int .i64 k ∧ a = .int .i64 (L : Int) ∧ L ≤ 1152921504606846976 ∧ Hid (pb = plB true d cap L (hs.drop k)) ∧ wr = w.alloc (.cells #[.int .u64 S, .int .u64 (x.v : Int), .int .i64 (l : Int)] 78)) (fun a u _ => hs.length - (intOf u).toNat)
      case atStart => exact ⟨0, l, by omega, rfl, rfl, hl1, HPB.out.symm, rfl⟩
      case round =>
        obtain ⟨k, L, hk, rfl, rfl, hL, hP, rfl⟩ := hrel
        by_cases hlt : k < hs.length
        · have hki : (k : Int) < (hs.length : Int) := by omega
          obtain ⟨h, hx⟩ : ∃ h, hs[k]? = some h := ⟨_, List.getElem?_eq_getElem hlt⟩
          have hh63 := HHB.out h (List.mem_of_getElem? hx)
          obtain ⟨b, off, e1, _, g1⟩ := HH1.out k h hx
          have hpd := plB_drop (o := true) (d := d) (cap := cap) (l := L) hx
          have HPD := Lib.hid hpd
          clear hx hpd
          subst e1
          have hlq : IntKind.i64.wrap (Int.tdiv (L : Int) 2) = ((L / 2 : Nat) : Int) := by rw [show Int.tdiv (L : Int) 2 = ((L / 2 : Nat) : Int) from rfl]; exact IntWalk.i64_in _ (by omega)
          have hr2 : L % 2 = 0 ∨ L % 2 = 1 := by omega
          rcases hr2 with hr2 | hr2
          · have f1 : (L : Int) % 2 = 0 := by omega
            by_cases hd2 : h ≤ d
            · have f2 : decide ((h : Int) ≤ (d : Int)) = true := by rw [decide_eq_true_iff]; omega
              have HF : Hid (pb = false) := by
                show _ = _
                rw [hP.out, HPD.out]
                simp [hr2, hd2]
              go_wp2
              go_ret
              exact ⟨by rw [HF.out]; rfl, HB.out⟩
            · have f2 : decide ((h : Int) ≤ (d : Int)) = false := by rw [decide_eq_false_iff_not]; omega
              have HN : Hid (pb = plB true d cap (L / 2) (hs.drop (k + 1))) := by
                show _ = _
                rw [hP.out, HPD.out]
                simp [hr2, hd2]
              go_wp2
              go_roundw
              case rel => exact ⟨k + 1, L / 2, by omega, by go_num, by go_num, by omega, HN, trivial⟩
              case measure => simp [intOf]; omega
          · have f1 : (L : Int) % 2 = 1 := by omega
            have HN : Hid (pb = plB true d cap (L / 2) (hs.drop (k + 1))) := by
              show _ = _
              rw [hP.out, HPD.out]
              simp [hr2]
            go_wp2
            go_roundw
            case rel => exact ⟨k + 1, L / 2, by omega, by go_num, by go_num, by omega, HN, trivial⟩
            case measure => simp [intOf]; omega
        · obtain rfl : k = hs.length := by omega
          have HE : Hid (pb = true) := by
            show _ = _
            rw [hP.out, List.drop_length]
            rfl
          go_wp2
          go_ret
          exact ⟨by rw [HE.out]; rfl, HB.out⟩
end Go.Proofs.Ytahojmioonpodaa
/-
  The document's Loads (rondeauref13), in plain words, is the program's. No Go in sight.
-/
namespace Go.Proofs.Ytahojmioonpodaa
open Go.RowKit
set_option linter.unusedVariables false
set_option linter.unusedSimpArgs false
def plcB (cap tl : Nat) (hs : List Nat) (x : Sl) : Bool := !(decide (x.s % 2 = 1) && decide (tl ≤ x.s / 2)) && plB (decide (x.s % 2 = 1)) (x.s / 2) cap x.l.toNat hs
def rlB (cap rd tl : Nat) (hs : List Nat) (L : List Sl) : Bool := decide (hs.length = rd) && (decide (tl < 4611686018427387904) && (loadB cap rd L && (hs.all (fun h => decide (h ≤ tl) && decide (tl - h ≤ cap)) && L.all (plcB cap tl hs))))
theorem plB_iff (o : Bool) (d cap : Nat) : ∀ (hs : List Nat) (l : Nat), plB o d cap l hs = true ↔ ∀ j, j < hs.length → (if o then hasBit (l : Int) j = true ∨ d < hs.getD j 0 else d < cap ∨ d - cap < hs.getD j 0)
  | [], l => by simp [plB]
  | h :: hs, l => by
    have ih := plB_iff o d cap hs (l / 2)
    unfold plB
    rw [Bool.and_eq_true, ih]
    have hb : ∀ j, hasBit (l : Int) (j + 1) = hasBit ((l / 2 : Nat) : Int) j := fun j => by
      unfold hasBit
      congr 1
      have e : (l : Int) / 2 ^ (j + 1) = ((l / 2 : Nat) : Int) / 2 ^ j := by
        rw [Int.pow_succ, Int.mul_comm, ← Int.ediv_ediv_of_nonneg (by decide)]
        rfl
      rw [e]
    have h0 : hasBit (l : Int) 0 = decide (l % 2 = 1) := by
      unfold hasBit
      rw [Bool.eq_iff_iff]; simp; omega
    constructor
    · rintro ⟨h1, h2⟩ j hj
      cases j with
      | zero =>
        cases o
        · simp at h1 ⊢; omega
        · simp [h0] at h1 ⊢; omega
      | succ j =>
        have := h2 j (by simpa using hj)
        rw [List.getD_cons_succ, hb]; exact this
    · intro h1
      refine ⟨?_, fun j hj => ?_⟩
      · have := h1 0 (by simp)
        cases o
        · simp at this ⊢; omega
        · simp [h0] at this ⊢; omega
      · have := h1 (j + 1) (by simpa using hj)
        rw [List.getD_cons_succ, hb] at this; exact this
theorem leastN_memR {R : Rg} {x : Nat} (hx : x ∈ R.h8.take R.rd) : leastN R ≤ x := foldl_min_memK _ _ x hx
theorem leastN_inR {R : Rg} (hr : 1 ≤ R.rd) (h8 : R.h8.length = 8) : leastN R ∈ R.h8.take R.rd := by
  have h0 : R.h8.getD 0 0 ∈ R.h8.take R.rd := by
    rw [List.mem_iff_getElem?]
    refine ⟨0, ?_⟩
    rw [List.getElem?_take, if_pos (by omega), List.getD_eq_getElem?_getD, List.getElem?_eq_getElem (by omega)]; rfl
  unfold leastN
  rcases foldl_min_in (R.h8.take R.rd) (R.h8.getD 0 0) with h | h
  · rw [h]; exact h0
  · exact h
theorem hasBit_zero (j : Nat) : hasBit 0 j = false := by unfold hasBit; simp
theorem rlB_eq {cap rd tl : Nat} {cl : Bool} {hs : List Nat} {L : List Sl} (h1 : 1 ≤ rd) (h2 : rd ≤ 8) : rlB cap rd tl hs L = loadsB cap rd tl cl hs L := by
  unfold rlB loadsB
  by_cases hl : hs.length = rd
  · have h8 : (loadR cap rd tl cl hs L).h8.take rd = hs := by
      unfold loadR; simp only
      rw [List.take_append_of_le_length (by omega), List.take_of_length_le (by omega)]
    have hg : ∀ j, j < rd → (loadR cap rd tl cl hs L).h8.getD j 0 = hs.getD j 0 := fun j hj => by
      unfold loadR; simp only
      rw [List.getD_eq_getElem?_getD, List.getD_eq_getElem?_getD, List.getElem?_append_left (by omega)]
    have hlb : ∀ x ∈ L, loadB cap rd L = true → 0 ≤ x.l := fun x hx h => by
      unfold loadB at h
      simp only [Bool.and_eq_true, List.all_eq_true, List.mem_range, decide_eq_true_eq] at h
      obtain ⟨i, hi⟩ := List.mem_iff_getElem?.1 hx
      obtain ⟨hil, _⟩ := List.getElem?_eq_some_iff.1 hi
      have := of_decide_eq_true (h.2 i (by omega))
      rw [List.getD_eq_getElem?_getD, hi] at this
      have := this.2.2
      simp only [Option.getD_some] at this
      split at this <;> omega
    have hcurs : cursB (loadR cap rd tl cl hs L) = (decide (tl < 4611686018427387904) && hs.all (fun h => decide (h ≤ tl) && decide (tl - h ≤ cap))) := by
      unfold cursB headsB
      have e1 : (loadR cap rd tl cl hs L).rd = rd := rfl
      have e2 : (loadR cap rd tl cl hs L).tail = tl := rfl
      have e3 : (loadR cap rd tl cl hs L).cap = cap := rfl
      rw [e1, e2, e3, h8]
      rw [Bool.eq_iff_iff]
      simp only [Bool.and_eq_true, List.all_eq_true, decide_eq_true_eq]
      have hmin : ∀ x ∈ hs, leastN (loadR cap rd tl cl hs L) ≤ x := fun x hx => leastN_memR (by rw [e1, h8]; exact hx)
      have hin : leastN (loadR cap rd tl cl hs L) ∈ hs := by
        have := leastN_inR (R := loadR cap rd tl cl hs L) (by rw [e1]; exact h1) (by unfold loadR; simp; omega)
        rw [e1, h8] at this; exact this
      constructor
      · rintro ⟨a, b, c⟩
        exact ⟨b, fun x hx => ⟨a x hx, by have := hmin x hx; omega⟩⟩
      · rintro ⟨b, a⟩
        exact ⟨fun x hx => (a x hx).1, b, (a _ hin).2⟩
    have hpl : loadB cap rd L = true → L.all (plcB cap tl hs) = slotsB (loadR cap rd tl cl hs L) := fun hb => by
      have e0 : (loadR cap rd tl cl hs L).L = L := rfl
      unfold slotsB
      rw [e0, Bool.eq_iff_iff, List.all_eq_true, List.all_eq_true]
      have key : ∀ x ∈ L, (plcB cap tl hs x = true ↔ placeB (loadR cap rd tl cl hs L) x = true) := fun x hx => by
        have h0 := hlb x hx hb
        have el : ((x.l.toNat : Nat) : Int) = x.l := Int.toNat_of_nonneg h0
        unfold plcB placeB passB
        have e1 : (loadR cap rd tl cl hs L).rd = rd := rfl
        have e2 : (loadR cap rd tl cl hs L).tail = tl := rfl
        have e3 : (loadR cap rd tl cl hs L).cap = cap := rfl
        rw [e1, e2, e3, Bool.and_eq_true, plB_iff, el]
        by_cases hm : x.s % 2 = 1
        · rw [if_pos hm]
          simp only [hm, decide_true, Bool.true_and, Bool.not_eq_true', decide_eq_false_iff_not, Bool.and_eq_true, decide_eq_true_eq, List.all_eq_true, List.mem_range, Bool.or_eq_true, if_true]
          constructor
          · rintro ⟨a, b⟩
            exact ⟨by omega, fun j hj => by rw [hg j hj]; exact b j (by omega)⟩
          · rintro ⟨a, b⟩
            exact ⟨by omega, fun j hj => by have := b j (by omega); rwa [hg j (by omega)] at this⟩
        · rw [if_neg hm]
          simp only [hm, decide_false, Bool.false_and, Bool.not_false, true_and, Bool.and_eq_true, decide_eq_true_eq, List.all_eq_true, List.mem_range, Bool.or_eq_true, hasBit_zero, Bool.false_eq_true, false_or, if_false]
          constructor
          · intro b
            by_cases hc : x.s / 2 < cap
            · exact .inl hc
            · exact .inr (fun j hj => by rw [hg j hj]; rcases b j (by omega) with h | h; exact absurd h hc; exact h)
          · rintro (b | b) j hj
            · exact .inl b
            · have := b j (by omega); rw [hg j (by omega)] at this; exact .inr this
      exact ⟨fun h x hx => (key x hx).1 (h x hx), fun h x hx => (key x hx).2 (h x hx)⟩
    cases hb : loadB cap rd L with
    | false => simp
    | true =>
      rw [hcurs, hpl hb]
      simp only [hl, decide_true, Bool.true_and]
      rw [Bool.and_assoc]
  · simp [hl]
end Go.Proofs.Ytahojmioonpodaa
/-
  The document's Right (rondeauref12): may places be?
-/
namespace Go.Proofs.Ytahojmioonpodaa
open Go.RowKit
set_option linter.unusedVariables false
set_option linter.unusedSimpArgs false
set_option maxHeartbeats 4000000 in
set_option maxRecDepth 100000 in
theorem rfRight12 (p r : Nat) (L : List Sl) (A : Option Addr) (c : Nat) (w : World) (hp1 : 1 ≤ p) (hp2 : p ≤ 64) (hr2 : r ≤ 8) (hs : SeqS w 3 (.slice A L.length c) L.length (rowsOf slF L)) (hin : ∀ x ∈ L, slIn x) :
    Calls Try.prog 44 #[.int .i64 (p : Int), .int .i64 (r : Int), .slice A L.length c] w fun e w' => e = .returned (.bool (loadB p r L)) ∧ Below w.heap.size w w' := by
  obtain ⟨A', c', e', hc1, hc2, _⟩ := hs.form
  simp only [Value.slice.injEq, true_and] at e'
  obtain ⟨rfl, rfl⟩ := e'
  unfold maxLen at hc2
  have HS := Lib.hid hs
  have HIN := Lib.hid hin
  have HA := Lib.hid (fun w => ref12All r w hr2)
  clear hs hin
  go_enter Try.func44, Try.ntmps44
  by_cases hlp : L.length = p
  · subst hlp
    have e0 : ((L.length : Int) != (L.length : Int)) = false := by simp
    have hwp : IntKind.u64.wrap (L.length : Int) = (L.length : Int) := IntWalk.u64_in _ (by omega)
    go_wp2
    go_loopw [7] (fun u wr => ∃ k : Nat, k ≤ L.length ∧ u = .int .i64 k ∧ Hid (∀ j, j < k → standsB L.length r j (L.getD j ⟨0, 0, 0⟩) = true) ∧ Below w.heap.size w wr) (fun u _ => L.length - (intOf u).toNat)
    case atStart => exact ⟨0, by omega, rfl, fun j h => absurd h (by omega), Below.refl _ _⟩
    case round =>
      obtain ⟨k, hk, rfl, hall, hb⟩ := hrel
      by_cases hlt : k < L.length
      · have hki : (k : Int) < (L.length : Int) := by omega
        obtain ⟨x, hx⟩ : ∃ x, L[k]? = some x := ⟨_, List.getElem?_eq_getElem hlt⟩
        obtain ⟨o1, o2, o3, o4⟩ := HIN.out x (List.mem_of_getElem? hx)
        obtain ⟨b, off, rfl, hbl, gx⟩ := SeqS.at_ slF_length (by decide) (HS.out.later hb) hx
        obtain ⟨xs, xv, xl⟩ := x
        simp only at o1 o2 o3 o4
        obtain ⟨S, hSS⟩ : ∃ S : Int, S = (xs : Int) := ⟨_, rfl⟩
        have x0 := gx 0 _ (by decide) rfl
        have x1 := gx 1 _ (by decide) rfl
        have x2 := gx 2 _ (by decide) rfl
        rw [Nat.add_zero] at x0
        have hxd : L.getD k ⟨0, 0, 0⟩ = ⟨xs, xv, xl⟩ := by rw [List.getD_eq_getElem?_getD, hx]; rfl
        have hb2 := hb.alloc hb.size (.cells #[.int .u64 S, .int .u64 (xv : Int), .int .i64 xl] 78)
        have HX : Hid (∀ bb, standsB L.length r k ⟨xs, xv, xl⟩ = bb → loadB L.length r L = true → bb = true) := fun bb h1 h2 => by
          unfold loadB at h2
          simp only [Bool.and_eq_true, List.all_eq_true, List.mem_range] at h2
          have := h2.2 k (by omega)
          rw [hxd, h1] at this
          exact this
        have HY : Hid (standsB L.length r k ⟨xs, xv, xl⟩ = true → ∀ j, j < k + 1 → standsB L.length r j (L.getD j ⟨0, 0, 0⟩) = true) := fun h j hj => by
          rcases Nat.lt_or_eq_of_le (Nat.le_of_lt_succ hj) with h1 | rfl
          · exact hall.out j h1
          · rw [hxd]; exact h
        have hwk : IntKind.u64.wrap (k : Int) = (k : Int) := IntWalk.u64_in _ (by omega)
        have HB2 := Lib.hid hb2
        have HST : Hid (∀ bb, decide (xs < 9223372036854775808 ∧ xs / 2 % L.length = k ∧ (if xs % 2 = 0 then xv = 0 ∧ xl = 0 else 0 < xl ∧ xl ≤ everyN r)) = bb → standsB L.length r k ⟨xs, xv, xl⟩ = bb) := fun bb h => h
        rw [← hSS] at x0
        have hS0 : 0 ≤ S := by omega
        have hS1 : S ≤ 18446744073709551615 := by omega
        clear hx gx hxd hb hb2 hall hbl
        obtain ⟨d, hd⟩ : ∃ d, xs / 2 = d := ⟨_, rfl⟩
        obtain ⟨m, hm⟩ : ∃ m, xs % 2 = m := ⟨_, rfl⟩
        have hqd : S / 2 = (d : Int) := by omega
        have hrm : S % 2 = (m : Int) := by omega
        have hd1 : (d : Int) ≤ 9223372036854775807 := by omega
        have hdp : Int.tmod (d : Int) (L.length : Int) = ((d % L.length : Nat) : Int) := rfl
        have hdl : d % L.length < L.length := Nat.mod_lt _ (by omega)
        rw [hd, hm] at HST
        by_cases t1 : xs < 9223372036854775808
        · have e1 : decide ((9223372036854775808 : Int) ≤ S) = false := by rw [decide_eq_false_iff_not]; omega
          by_cases t2 : d % L.length = k
          · have e2 : (((d % L.length : Nat) : Int) != (k : Int)) = false := by simp [t2]
            have hm01 : m = 0 ∨ m = 1 := by omega
            have HST2 : Hid (∀ bb, decide (if m = 0 then xv = 0 ∧ xl = 0 else 0 < xl ∧ xl ≤ everyN r) = bb → standsB L.length r k ⟨xs, xv, xl⟩ = bb) := fun bb h => HST.out bb (by rw [← h]; simp [t1, t2])
            clear HST t1 t2 hSS hd hm o1
            rcases hm01 with rfl | rfl
            · by_cases t3 : xv = 0
              · have e3 : ((xv : Int) != 0) = false := by simp [t3]
                by_cases t4 : xl = 0
                · have e4 : (xl != 0) = false := by simp [t4]
                  have HF := Lib.hid (HY.out (HST2.out true (by simp [t3, t4])))
                  clear HX HY HST2 t3 t4
                  go_wp2
                  go_quiet ((go_at_call 62; exact quiet_same3 (HA.out _) ⟨_, rfl⟩))
                  all_goals
                    go_wp2
                    go_roundw
                    case rel => exact ⟨k + 1, by omega, by go_num, HF, below_drewN HB2.out _⟩
                    case measure => simp [intOf]; omega
                · have e4 : (xl != 0) = true := by simp [t4]
                  have HF := Lib.hid (HX.out false (HST2.out false (by simp [t3, t4])))
                  clear HX HY HST2 t3 t4
                  have HLB : Hid (loadB L.length r L = false) := by
                    show _ = _
                    cases hlb : loadB L.length r L with
                    | false => rfl
                    | true => exact absurd (HF.out hlb) (by decide)
                  go_wp2
                  try go_quiet ((go_at_call 62; exact quiet_same3 (HA.out _) ⟨_, rfl⟩))
                  all_goals
                    go_wp2
                    go_ret
                    first | exact ⟨by rw [HLB.out]; rfl, below_drewN HB2.out _⟩ | exact ⟨by rw [HLB.out]; rfl, HB2.out⟩
              · have e3 : ((xv : Int) != 0) = true := by simp; omega
                have HF := Lib.hid (HX.out false (HST2.out false (by simp [t3])))
                clear HX HY HST2 t3
                have HLB : Hid (loadB L.length r L = false) := by
                  show _ = _
                  cases hlb : loadB L.length r L with
                  | false => rfl
                  | true => exact absurd (HF.out hlb) (by decide)
                go_wp2
                try go_quiet ((go_at_call 62; exact quiet_same3 (HA.out _) ⟨_, rfl⟩))
                all_goals
                  go_wp2
                  go_ret
                  first | exact ⟨by rw [HLB.out]; rfl, below_drewN HB2.out _⟩ | exact ⟨by rw [HLB.out]; rfl, HB2.out⟩
            · by_cases t3 : xl < 1
              · have e3 : decide (xl < 1) = true := decide_eq_true t3
                have HF := Lib.hid (HX.out false (HST2.out false (by simp; omega)))
                clear HX HY HST2 t3
                have HLB : Hid (loadB L.length r L = false) := by
                  show _ = _
                  cases hlb : loadB L.length r L with
                  | false => rfl
                  | true => exact absurd (HF.out hlb) (by decide)
                go_wp2
                try go_quiet ((go_at_call 62; exact quiet_same3 (HA.out _) ⟨_, rfl⟩))
                all_goals
                  go_wp2
                  go_ret
                  first | exact ⟨by rw [HLB.out]; rfl, below_drewN HB2.out _⟩ | exact ⟨by rw [HLB.out]; rfl, HB2.out⟩
              · have e3 : decide (xl < 1) = false := decide_eq_false t3
                by_cases t4 : everyN r < xl
                · have e4 : decide (everyN r < xl) = true := decide_eq_true t4
                  have HF := Lib.hid (HX.out false (HST2.out false (by simp; omega)))
                  clear HX HY HST2 t3 t4
                  have HLB : Hid (loadB L.length r L = false) := by
                    show _ = _
                    cases hlb : loadB L.length r L with
                    | false => rfl
                    | true => exact absurd (HF.out hlb) (by decide)
                  go_wp2
                  try go_quiet ((go_at_call 62; exact quiet_same3 (HA.out _) ⟨_, rfl⟩))
                  all_goals
                    go_wp2
                    go_ret
                    first | exact ⟨by rw [HLB.out]; rfl, below_drewN HB2.out _⟩ | exact ⟨by rw [HLB.out]; rfl, HB2.out⟩
                · have e4 : decide (everyN r < xl) = false := decide_eq_false t4
                  have HF := Lib.hid (HY.out (HST2.out true (by simp; omega)))
                  clear HX HY HST2 t3 t4
                  go_wp2
                  go_quiet ((go_at_call 62; exact quiet_same3 (HA.out _) ⟨_, rfl⟩))
                  all_goals
                    go_wp2
                    go_roundw
                    case rel => exact ⟨k + 1, by omega, by go_num, HF, below_drewN HB2.out _⟩
                    case measure => simp [intOf]; omega
          · have e2 : (((d % L.length : Nat) : Int) != (k : Int)) = true := by simp; omega
            have HF := Lib.hid (HX.out false (HST.out false (by simp [t1, t2])))
            clear HX HY HST t1 t2 hSS hd hm o1
            have HLB : Hid (loadB L.length r L = false) := by
              show _ = _
              cases hlb : loadB L.length r L with
              | false => rfl
              | true => exact absurd (HF.out hlb) (by decide)
            go_wp2
            try go_quiet ((go_at_call 62; exact quiet_same3 (HA.out _) ⟨_, rfl⟩))
            all_goals
              go_wp2
              go_ret
              first | exact ⟨by rw [HLB.out]; rfl, below_drewN HB2.out _⟩ | exact ⟨by rw [HLB.out]; rfl, HB2.out⟩
        · have e1 : decide ((9223372036854775808 : Int) ≤ S) = true := by rw [decide_eq_true_iff]; omega
          have HF := Lib.hid (HX.out false (HST.out false (by simp [t1])))
          clear HX HY HST t1 hSS hd hm o1
          have HLB : Hid (loadB L.length r L = false) := by
            show _ = _
            cases hlb : loadB L.length r L with
            | false => rfl
            | true => exact absurd (HF.out hlb) (by decide)
          go_wp2
          try go_quiet ((go_at_call 62; exact quiet_same3 (HA.out _) ⟨_, rfl⟩))
          all_goals
            go_wp2
            go_ret
            first | exact ⟨by rw [HLB.out]; rfl, below_drewN HB2.out _⟩ | exact ⟨by rw [HLB.out]; rfl, HB2.out⟩
      · obtain rfl : k = L.length := by omega
        have HLB : Hid (loadB L.length r L = true) := by
          show _ = _
          unfold loadB
          simp only [Bool.and_eq_true, List.all_eq_true, List.mem_range, decide_eq_true_eq]
          exact ⟨trivial, fun j hj => hall.out j (by omega)⟩
        clear hall
        go_wp2
        go_ret
        exact ⟨by rw [HLB.out]; rfl, hb⟩
  · have e0 : ((L.length : Int) != (p : Int)) = true := by simp; omega
    have HF : Hid (loadB p r L = false) := by show _ = _; unfold loadB; simp [hlp]
    clear hlp
    go_wp2
    go_ret
    exact ⟨by rw [HF.out]; rfl, Below.refl _ _⟩
end Go.Proofs.Ytahojmioonpodaa
/-
  The document's Loads (rondeauref13): may a ring stand so?
-/
namespace Go.Proofs.Ytahojmioonpodaa
open Go.RowKit
set_option linter.unusedVariables false
set_option linter.unusedSimpArgs false
theorem loadB_at {cap rd i : Nat} {L : List Sl} {x : Sl} (h : loadB cap rd L = true) (hr : rd ≤ 8) (hx : L[i]? = some x) : x.s < 9223372036854775808 ∧ 0 ≤ x.l ∧ x.l ≤ 255 := by
  unfold loadB at h
  simp only [Bool.and_eq_true, List.all_eq_true, List.mem_range, decide_eq_true_eq] at h
  obtain ⟨hil, _⟩ := List.getElem?_eq_some_iff.1 hx
  have := of_decide_eq_true (h.2 i (by omega))
  rw [List.getD_eq_getElem?_getD, hx] at this
  simp only [Option.getD_some] at this
  obtain ⟨a, _, b⟩ := this
  have := everyN_pos hr
  split at b <;> omega
set_option maxHeartbeats 4000000 in
set_option maxRecDepth 100000 in
theorem rfLoads (k : Int) (cap rd tl : Nat) (cl : Bool) (hs : List Nat) (L : List Sl) (Ah : Option Addr) (ch : Nat) (As : Option Addr) (cs : Nat) (w : World) (h1 : 1 ≤ cap) (h2 : cap ≤ 64) (h3 : 1 ≤ rd) (h4 : rd ≤ 8) (ht : tl ≤ 18446744073709551615)
    (hh : SeqAt w (.slice Ah hs.length ch) (cellsH hs)) (hsl : SeqS w 3 (.slice As L.length cs) L.length (rowsOf slF L)) (hin : ∀ x ∈ L, slIn x) (hhb : ∀ h ∈ hs, h ≤ 18446744073709551615) (hn : hs.length ≤ 1000) :
    Calls Try.prog 18 #[.agg #[.int .i64 k, .int .i64 (cap : Int), .int .i64 (rd : Int)], .agg #[.int .u64 (tl : Int), .slice Ah hs.length ch, .bool cl, .slice As L.length cs]] w fun e w' => e = .returned (.bool (rlB cap rd tl hs L)) ∧ Below w.heap.size w w' := by
  obtain ⟨A', c', e', hc1, hc2, _⟩ := hsl.form
  simp only [Value.slice.injEq, true_and] at e'
  obtain ⟨rfl, rfl⟩ := e'
  unfold maxLen at hc2
  have hch : hs.length ≤ ch ∧ ch ≤ 9223372036854775807 := by
    obtain ⟨A', c', e, k1, k2, _⟩ := id hh
    simp only [Value.slice.injEq] at e
    obtain ⟨_, e2, rfl⟩ := e
    unfold maxLen at k2
    exact ⟨by omega, by omega⟩
  obtain ⟨hch1, hch2⟩ := hch
  have hb0 := ((Below.refl w.heap.size w).alloc (Nat.le_refl _) (.cells #[.int .i64 k, .int .i64 (cap : Int), .int .i64 (rd : Int)] 23)).alloc (by simp) (.cells #[.int .u64 (tl : Int), .slice Ah hs.length ch, .bool cl, .slice As L.length cs] 42)
  have l0 := (Lies.made w 23 #[.int .i64 k, .int .i64 (cap : Int), .int .i64 (rd : Int)]).alloc (.cells #[.int .u64 (tl : Int), .slice Ah hs.length ch, .bool cl, .slice As L.length cs] 42)
  have l1 := Lies.made (w.alloc (.cells #[.int .i64 k, .int .i64 (cap : Int), .int .i64 (rd : Int)] 23)) 42 #[.int .u64 (tl : Int), .slice Ah hs.length ch, .bool cl, .slice As L.length cs]
  rw [show (w.alloc (.cells #[.int .i64 k, .int .i64 (cap : Int), .int .i64 (rd : Int)] 23)).heap.size = w.heap.size + 1 by simp] at l1
  obtain ⟨T, hT⟩ : ∃ T : Int, T = (tl : Int) := ⟨_, rfl⟩
  rw [← hT] at hb0 l0 l1 ⊢
  have hT0 : 0 ≤ T := by omega
  have hT1 : T ≤ 18446744073709551615 := by omega
  have HB := Lib.hid hb0
  have L0 := Lib.hid l0
  have L1 := Lib.hid l1
  have HH := Lib.hid hh
  have HSL := Lib.hid hsl
  have HIN := Lib.hid hin
  have HHB := Lib.hid hhb
  have HTT := Lib.hid hT
  obtain ⟨R, hR⟩ : ∃ R, rlB cap rd tl hs L = R := ⟨_, rfl⟩
  rw [hR]
  have HR := Lib.hid hR
  have hwc : IntKind.u64.wrap (cap : Int) = (cap : Int) := IntWalk.u64_in _ (by omega)
  clear hb0 l0 l1 hh hsl hin hhb hT hR ht
  go_enter Try.func18, Try.ntmps18
  go_upto_region 1 with (fail)
  generalize (w.alloc (.cells #[.int .i64 k, .int .i64 (cap : Int), .int .i64 (rd : Int)] 23)).alloc (.cells #[.int .u64 T, .slice Ah hs.length ch, .bool cl, .slice As L.length cs] 42) = wA at *
  have c1 := (L0.out.cell 1).trans (show _ = some (Value.int .i64 (cap : Int)) from rfl)
  have c2 := (L0.out.cell 2).trans (show _ = some (Value.int .i64 (rd : Int)) from rfl)
  have d0 := (L1.out.cell 0).trans (show _ = some (Value.int .u64 T) from rfl)
  have d1 := (L1.out.cell 1).trans (show _ = some (Value.slice Ah hs.length ch) from rfl)
  have d3 := (L1.out.cell 3).trans (show _ = some (Value.slice As L.length cs) from rfl)
  by_cases hl : hs.length = rd
  · have e0 : ((hs.length : Int) != (rd : Int)) = false := by simp [hl]
    by_cases htl : tl < 4611686018427387904
    · have e1 : decide ((4611686018427387904 : Int) ≤ T) = false := by rw [decide_eq_false_iff_not, HTT.out]; omega
      have HRB := Lib.hid (rfRight12 cap rd L As cs wA h1 h2 h4 (HSL.out.later HB.out) HIN.out)
      have HL := Lib.hid hl
      have HTL := Lib.hid htl
      clear hl htl
      go_wp2_with fail
      refine HRB.out.mono ?_
      rintro e w2 ⟨rfl, hb2⟩
      clear c1 c2 d0 d1 d3
      replace L0 := Lib.hid (L0.out.below hb2 L0.out.lt)
      replace L1 := Lib.hid (L1.out.below hb2 L1.out.lt)
      replace HB := Lib.hid (HB.out.trans (hb2.mono HB.out.size))
      have hw2 : w.heap.size + 1 < w2.heap.size := L1.out.lt
      clear hb2 HRB wA
      have c1 := (L0.out.cell 1).trans (show _ = some (Value.int .i64 (cap : Int)) from rfl)
      have c2 := (L0.out.cell 2).trans (show _ = some (Value.int .i64 (rd : Int)) from rfl)
      have d0 := (L1.out.cell 0).trans (show _ = some (Value.int .u64 T) from rfl)
      have d1 := (L1.out.cell 1).trans (show _ = some (Value.slice Ah hs.length ch) from rfl)
      have d3 := (L1.out.cell 3).trans (show _ = some (Value.slice As L.length cs) from rfl)
      obtain ⟨rb, hrb⟩ : ∃ rb, loadB cap rd L = rb := ⟨_, rfl⟩
      rw [hrb]
      cases rb
      · have HF : Hid (R = false) := by
          show _ = _
          rw [← HR.out]; unfold rlB; rw [hrb]; simp
        clear hrb
        go_wp2
        go_ret
        exact ⟨by rw [HF.out]; rfl, HB.out⟩
      · have HLB := Lib.hid hrb
        have HR2 : Hid (R = (hs.all (fun h => decide (h ≤ tl) && decide (tl - h ≤ cap)) && L.all (plcB cap tl hs))) := by
          show _ = _
          rw [← HR.out]; unfold rlB; rw [hrb, decide_eq_true HL.out, decide_eq_true HTL.out]; rfl
        clear hrb HR
        go_wp2
        go_loopw [5] (fun u wr => ∃ j : Nat, j ≤ hs.length ∧ u = .int .i64 j ∧ Hid (∀ i h, i < j → hs[i]? = some h → h ≤ tl ∧ tl - h ≤ cap) ∧ Below w2.heap.size w2 wr) (fun u _ => hs.length - (intOf u).toNat)
        case atStart => exact ⟨0, by omega, rfl, fun i h hi => absurd hi (by omega), Below.refl _ _⟩
        case round =>
          obtain ⟨j, hj, rfl, hall, hbr⟩ := hrel
          clear c1 c2 d0 d1 d3
          have hbr0 := Lib.hid hbr
          have HBR := Lib.hid (HB.out.trans (hbr.mono HB.out.size))
          have N0 := Lib.hid (L0.out.below hbr L0.out.lt)
          have N1 := Lib.hid (L1.out.below hbr L1.out.lt)
          have c1 := (N0.out.cell 1).trans (show _ = some (Value.int .i64 (cap : Int)) from rfl)
          have d0 := (N1.out.cell 0).trans (show _ = some (Value.int .u64 T) from rfl)
          have d1 := (N1.out.cell 1).trans (show _ = some (Value.slice Ah hs.length ch) from rfl)
          have d3 := (N1.out.cell 3).trans (show _ = some (Value.slice As L.length cs) from rfl)
          have hwr : w.heap.size + 1 < wr.heap.size := N1.out.lt
          by_cases hlt : j < hs.length
          · have hji : (j : Int) < (hs.length : Int) := by omega
            obtain ⟨h, hx⟩ : ∃ h, hs[j]? = some h := ⟨_, List.getElem?_eq_getElem hlt⟩
            have hhb := HHB.out h (List.mem_of_getElem? hx)
            obtain ⟨b, off, e1, _, g1⟩ := SeqAt.get HH.out HBR.out (show (cellsH hs)[j]? = some (.int .u64 (h : Int)) by unfold cellsH; rw [List.getElem?_map, hx]; rfl)
            subst e1
            obtain ⟨H, hH⟩ : ∃ H : Int, H = (h : Int) := ⟨_, rfl⟩
            rw [← hH] at g1
            have hH0 : 0 ≤ H := by omega
            have hH1 : H ≤ 18446744073709551615 := by omega
            have HHH := Lib.hid hH
            have HX := Lib.hid hx
            clear hx hH hhb hbr
            by_cases t1 : tl < h
            · have f1 : decide (T < H) = true := by rw [decide_eq_true_iff, HTT.out, HHH.out]; omega
              have HF : Hid (R = false) := by
                show _ = _
                rw [HR2.out]
                have : hs.all (fun h => decide (h ≤ tl) && decide (tl - h ≤ cap)) = false := by
                  rw [List.all_eq_false]
                  exact ⟨h, List.mem_of_getElem? HX.out, by simp; omega⟩
                rw [this]; rfl
              clear t1
              go_wp2
              go_quiet (fail)
              all_goals
                go_wp2
                go_ret
                exact ⟨by rw [HF.out]; rfl, below_drewN HBR.out _⟩
            · have f1 : decide (T < H) = false := by rw [decide_eq_false_iff_not, HTT.out, HHH.out]; omega
              have hwr : IntKind.u64.wrap (T - H) = T - H := IntWalk.u64_in _ (by have := HTT.out; have := HHH.out; omega)
              by_cases t2 : cap < tl - h
              · have f2 : decide ((cap : Int) < T - H) = true := by rw [decide_eq_true_iff, HTT.out, HHH.out]; omega
                have HF : Hid (R = false) := by
                  show _ = _
                  rw [HR2.out]
                  have : hs.all (fun h => decide (h ≤ tl) && decide (tl - h ≤ cap)) = false := by
                    rw [List.all_eq_false]
                    exact ⟨h, List.mem_of_getElem? HX.out, by simp; omega⟩
                  rw [this]; rfl
                clear t1 t2
                go_wp2
                go_quiet (fail)
                all_goals
                  go_wp2
                  go_ret
                  exact ⟨by rw [HF.out]; rfl, below_drewN HBR.out _⟩
              · have f2 : decide ((cap : Int) < T - H) = false := by rw [decide_eq_false_iff_not, HTT.out, HHH.out]; omega
                have HN : Hid (∀ i h, i < j + 1 → hs[i]? = some h → h ≤ tl ∧ tl - h ≤ cap) := fun i y hi hy => by
                  rcases Nat.lt_or_eq_of_le (Nat.le_of_lt_succ hi) with hi | rfl
                  · exact hall.out i y hi hy
                  · rw [HX.out] at hy
                    injection hy with hy
                    omega
                clear t1 t2 hall
                go_wp2
                go_quiet (fail)
                all_goals
                  go_wp2
                  go_roundw
                  case rel => exact ⟨j + 1, by omega, by go_num, HN, below_drewN hbr0.out _⟩
                  case measure => simp [intOf]; omega
          · obtain rfl : j = hs.length := by omega
            have HR3 : Hid (R = L.all (plcB cap tl hs)) := by
              show _ = _
              rw [HR2.out]
              have : hs.all (fun h => decide (h ≤ tl) && decide (tl - h ≤ cap)) = true := by
                rw [List.all_eq_true]
                intro h hm
                obtain ⟨i, hi⟩ := List.mem_iff_getElem?.1 hm
                obtain ⟨hil, _⟩ := List.getElem?_eq_some_iff.1 hi
                have := hall.out i h hil hi
                simp; omega
              rw [this]; rfl
            have HT63 : Hid (∀ h ∈ hs, h < 9223372036854775808) := fun h hm => by
              obtain ⟨i, hi⟩ := List.mem_iff_getElem?.1 hm
              obtain ⟨hil, _⟩ := List.getElem?_eq_some_iff.1 hi
              have := (hall.out i h hil hi).1
              have := HTL.out
              omega
            clear hall HR2 hbr L0 L1
            go_wp2
            go_loopw [6] (fun u wq => ∃ i : Nat, i ≤ L.length ∧ u = .int .i64 i ∧ Hid (R = (L.drop i).all (plcB cap tl hs)) ∧ Below wr.heap.size wr wq) (fun u _ => L.length - (intOf u).toNat)
            case atStart => exact ⟨0, by omega, rfl, HR3, Below.refl _ _⟩
            case round =>
              obtain ⟨i, hi, rfl, hrem, hbq⟩ := hrel
              clear c1 d0 d1 d3
              have HBQ := Lib.hid (HBR.out.trans (hbq.mono HBR.out.size))
              have M0 := Lib.hid (N0.out.below hbq N0.out.lt)
              have M1 := Lib.hid (N1.out.below hbq N1.out.lt)
              have c1 := (M0.out.cell 1).trans (show _ = some (Value.int .i64 (cap : Int)) from rfl)
              have d0 := (M1.out.cell 0).trans (show _ = some (Value.int .u64 T) from rfl)
              have d1 := (M1.out.cell 1).trans (show _ = some (Value.slice Ah hs.length ch) from rfl)
              have d3 := (M1.out.cell 3).trans (show _ = some (Value.slice As L.length cs) from rfl)
              have hwq : w.heap.size + 1 < wr.heap.size := M1.out.lt
              have hbq0 := Lib.hid hbq
              by_cases hlt : i < L.length
              · have hii : (i : Int) < (L.length : Int) := by omega
                obtain ⟨x, hx⟩ : ∃ x, L[i]? = some x := ⟨_, List.getElem?_eq_getElem hlt⟩
                obtain ⟨b, off, rfl, hbl, gx⟩ := SeqS.at_ slF_length (by decide) (HSL.out.later HBQ.out) hx
                have x0 := gx 0 _ (by decide) rfl
                have x1 := gx 1 _ (by decide) rfl
                have x2 := gx 2 _ (by decide) rfl
                rw [Nat.add_zero] at x0
                obtain ⟨y1, y2, y3⟩ := loadB_at HLB.out h4 hx
                have hxl : x.l = ((x.l.toNat : Nat) : Int) := by omega
                have HPL := Lib.hid fun q (hq : Below w.heap.size w q) => rfPlace x cap tl x.l.toNat hs Ah ch q (SeqAt.later_ HH.out hq) y1 hxl (by omega) (by omega) (by have := HTL.out; omega) HT63.out hn
                obtain ⟨pb, hpb⟩ : ∃ pb, plcB cap tl hs x = pb := ⟨_, rfl⟩
                have hpe : (!(decide (x.s % 2 = 1) && decide (tl ≤ x.s / 2)) && plB (decide (x.s % 2 = 1)) (x.s / 2) cap x.l.toNat hs) = pb := hpb
                simp only [hpe] at HPL
                rw [← HTT.out] at HPL
                have HRX : Hid (R = (pb && (L.drop (i + 1)).all (plcB cap tl hs))) := by
                  show _ = _
                  obtain ⟨hil, e⟩ := List.getElem?_eq_some_iff.1 hx
                  rw [hrem.out, List.drop_eq_getElem_cons hil, e, List.all_cons, hpb]
                clear hx gx hrem y1 y2 y3 hxl hpb hpe hbq
                go_wp2
                go_still_tail 12, (by kernel_rfl)
                have HBD := Lib.hid (HBQ.out.drew)
                have hbd0 := Lib.hid (hbq0.out.drew)
                clear x0 x1 x2 c1 d0 d1 d3
                go_wp2_with fail
                refine (HPL.out _ HBD.out).mono ?_
                rintro e w3 ⟨rfl, hb3⟩
                have HB3 := Lib.hid (HBD.out.trans (hb3.mono HBD.out.size))
                have hb30 := Lib.hid (hbd0.out.trans (hb3.mono hbd0.out.size))
                clear hb3 HPL HBD hbd0
                cases pb
                · have HF : Hid (R = false) := by show _ = _; rw [HRX.out]; rfl
                  clear HRX
                  go_wp2
                  go_ret
                  exact ⟨by rw [HF.out]; rfl, HB3.out⟩
                · have HF : Hid (R = (L.drop (i + 1)).all (plcB cap tl hs)) := by show _ = _; rw [HRX.out]; rfl
                  clear HRX
                  go_wp2
                  go_roundw
                  case rel => exact ⟨i + 1, by omega, by go_num, HF, hb30.out⟩
                  case measure => simp [intOf]; omega
              · obtain rfl : i = L.length := by omega
                have HF : Hid (R = true) := by show _ = _; rw [hrem.out, List.drop_length]; rfl
                clear hrem
                go_wp2
                go_ret
                exact ⟨by rw [HF.out]; rfl, HBQ.out⟩
    · have e1 : decide ((4611686018427387904 : Int) ≤ T) = true := by rw [decide_eq_true_iff, HTT.out]; omega
      have HF : Hid (R = false) := by
        show _ = _
        rw [← HR.out]; unfold rlB; rw [decide_eq_false htl]; simp
      clear hl htl
      go_wp2
      go_ret
      exact ⟨by rw [HF.out]; rfl, HB.out⟩
  · have e0 : ((hs.length : Int) != (rd : Int)) = true := by simp; omega
    have HF : Hid (R = false) := by
      show _ = _
      rw [← HR.out]; unfold rlB; rw [decide_eq_false hl]; rfl
    clear hl
    go_wp2
    go_ret
    exact ⟨by rw [HF.out]; rfl, HB.out⟩
end Go.Proofs.Ytahojmioonpodaa
namespace Go.Proofs.Ytahojmioonpodaa
open Go.RowKit
set_option linter.unusedVariables false
set_option linter.unusedSimpArgs false
theorem cellsH_ofR {zs : List Int} (h : ∀ n ∈ zs, (Lit.int .u64 n).wf = true) : zs.map (Value.int .u64) = cellsH (zs.map Int.toNat) ∧ ∀ n ∈ zs.map Int.toNat, n ≤ 18446744073709551615 := by
  constructor
  · unfold cellsH
    rw [List.map_map]
    refine List.map_congr_left (fun n hn => ?_)
    have := Go.bounds_u64 (h n hn)
    simp only [Function.comp]
    rw [Int.toNat_of_nonneg this.1]
  · intro n hn
    obtain ⟨z, hz, rfl⟩ := List.mem_map.1 hn
    have := Go.bounds_u64 (h z hz)
    omega
section
variable {P : Program} {W : World} {H : Type} {enc : TypeId × Value → H}
theorem trod_slice_cellR {t e : TypeId} {n : Nat} {cs : List Value} {y : DataW H × List MemPlace} (ht : P.underlying t = some (.slice e)) (h : DataW.trod enc P W 0 (fun _ => true) true n t cs = some y) :
    ∃ A len cap, cs = [.slice A len cap] ∧ DataW.Trod enc P W 0 (fun _ => true) true t (.slice A len cap) y.1 y.2 := by
  rcases Deep.open_slice ht h with ⟨hcs, _⟩ | ⟨a, len, cap, m, n, D, Pl, hcs, _⟩
  · subst hcs; exact ⟨none, 0, 0, rfl, n, h⟩
  · subst hcs; exact ⟨some a, len, cap, rfl, _, h⟩
end
theorem list3sl {l : List Value} (h : l.length = 3) : ∃ a b c, l = [a, b, c] := by
  match l, h with
  | [a, b, c], _ => exact ⟨a, b, c, rfl⟩
theorem list4rs {l : List Value} (h : l.length = 4) : ∃ a b c d, l = [a, b, c, d] := by
  match l, h with
  | [a, b, c, d], _ => exact ⟨a, b, c, d, rfl⟩
/-- A ring's state that came along. -/
structure Rs where
  tl : Nat
  Ah : Option Addr
  ch : Nat
  hs : List Nat
  cl : Bool
  As : Option Addr
  cs : Nat
  L : List Sl
def RsAt (w : World) (z : Rs) : Prop := SeqAt w (.slice z.Ah z.hs.length z.ch) (cellsH z.hs) ∧ SeqS w 3 (.slice z.As z.L.length z.cs) z.L.length (rowsOf slF z.L) ∧ (∀ x ∈ z.L, slIn x) ∧ (∀ h ∈ z.hs, h ≤ 18446744073709551615) ∧ z.tl ≤ 18446744073709551615 ∧ (z.Ah = none → z.ch = 0)
section
variable {W : World} {H : Type} {enc : TypeId × Value → H}
theorem sl_openR {n : Nat} {cs : List Value} {y : DataW H × List MemPlace} (hl : cs.length = 3) (h : DataW.trod enc Try.prog W 0 (fun _ => true) true n 78 cs = some y) : ∃ x : Sl, cs = slF x ∧ slIn x := by
  obtain ⟨z0, g0, b0⟩ := int_field (i := 0) (k := .u64) Try.underlying78 h rfl ⟨Try.underlying32, rfl, by kernel_rfl⟩
  obtain ⟨z1, g1, b1⟩ := int_field (i := 1) (k := .u64) Try.underlying78 h rfl ⟨Try.underlying32, rfl, by kernel_rfl⟩
  obtain ⟨z2, g2, b2⟩ := int_field (i := 2) (k := .i64) Try.underlying78 h rfl ⟨Try.underlying3, rfl, by kernel_rfl⟩
  have c0 := Go.bounds_u64 b0
  have c1 := Go.bounds_u64 b1
  have c2 := Go.bounds_i64 b2
  obtain ⟨x0, x1, x2, rfl⟩ := list3sl hl
  simp at g0 g1 g2
  subst g0 g1 g2
  refine ⟨⟨z0.toNat, z1.toNat, z2⟩, ?_, ?_, ?_, c2.1, c2.2⟩
  · unfold slF; simp only
    rw [show ((z0.toNat : Nat) : Int) = z0 by omega, show ((z1.toNat : Nat) : Int) = z1 by omega]
  · simp only; omega
  · simp only; omega
set_option maxRecDepth 100000 in
set_option maxHeartbeats 2000000 in
theorem opened42 {base : Nat} {v : Value} {d : DataW H} {p : List MemPlace}
    (hok : Value.okWide Try.prog W .any base 42 v) (h : DataW.Trod enc Try.prog W 0 (fun _ => true) true 42 v d p) :
    ∃ z : Rs, v = .agg #[.int .u64 (z.tl : Int), .slice z.Ah z.hs.length z.ch, .bool z.cl, .slice z.As z.L.length z.cs] ∧ RsAt W z := by
  obtain ⟨cs, rfl, hl⟩ := WideShapes.okWide_struct Try.underlying42 hok
  obtain ⟨n, h⟩ := h
  have h : DataW.trod enc Try.prog W 0 (fun _ => true) true n 42 cs.toList = some (d, p) := h
  obtain ⟨z0, g0, b0⟩ := int_field (i := 0) (k := .u64) Try.underlying42 h rfl ⟨Try.underlying32, rfl, by kernel_rfl⟩
  obtain ⟨xs, m, _, _, hlx, hn, hx⟩ := DataW.trod_struct Try.underlying42 h
  have hx4 : xs.length = 4 := by rw [hn]; kernel_rfl
  have h1 := hx 1 _ rfl
  have h2 := hx 2 _ rfl
  have h3 := hx 3 _ rfl
  rw [List.getElem?_eq_getElem (by omega)] at h1 h2 h3
  obtain ⟨A1, n1, k1, e1, t1⟩ := trod_slice_cellR Try.underlying33 h1
  obtain ⟨bb, e2, _⟩ := DataW.trod_bool Try.underlying4 h2
  obtain ⟨A3, n3, k3, e3, t3⟩ := trod_slice_cellR Try.underlying34 h3
  obtain ⟨zs, hn1, hc1, hm1, hlz, hrow, hwf⟩ := argInts_of (k := .u64) Try.underlying33 Try.underlying32 (by kernel_rfl) t1
  obtain ⟨hce, hvb⟩ := cellsH_ofR hwf
  rw [hce] at hrow
  have hsq : SeqAt W (.slice A1 n1 k1) (cellsH (zs.map Int.toNat)) := SeqAt.of_arg hrow (Below.refl _ _) (by unfold cellsH; simpa using hlz) hc1 hm1
  obtain ⟨L, _, hL1, hL2, hL3⟩ := argOf (f := slF) (sz := 3) (ok := slIn) Try.underlying34 (by kernel_rfl) (by omega) (fun n cs y hl h => sl_openR hl h) t3
  have b0 := Go.bounds_u64 b0
  have hl4 : cs.toList.length = 4 := by rw [Array.length_toList, hl]; kernel_rfl
  obtain ⟨y0, y1, y2, y3, hy⟩ := list4rs hl4
  have E1 : [y1] = [Value.slice A1 n1 k1] := by rw [hy] at e1; exact e1
  have E2 : [y2] = [Value.bool bb] := by rw [hy] at e2; exact e2
  have E3 : [y3] = [Value.slice A3 n3 k3] := by rw [hy] at e3; exact e3
  rw [hy] at g0
  simp only [List.getElem?_cons_zero, Option.some.injEq] at g0
  simp only [List.cons.injEq, and_true] at E1 E2 E3
  subst g0 E1 E2 E3 hL1
  have hzl : (zs.map Int.toNat).length = n1 := by simpa using hlz
  subst hzl
  refine ⟨⟨z0.toNat, A1, k1, zs.map Int.toNat, bb, A3, k3, L⟩, ?_, hsq, hL2, hL3, hvb, by simp only; omega, fun e => (hn1 e).2⟩
  congr 1
  apply Array.toList_inj.1
  rw [hy]
  simp
  omega
end
end Go.Proofs.Ytahojmioonpodaa
namespace Go.Proofs.Ytahojmioonpodaa
open Go.RowKit
set_option linter.unusedVariables false
set_option linter.unusedSimpArgs false
theorem seqS_of_at {w : World} {A : Option Addr} {c : Nat} {hs : List Nat} (h : SeqAt w (.slice A hs.length c) (cellsH hs)) (h0 : A = none → c = 0) : SeqS w 1 (.slice A hs.length c) hs.length (cellsH hs) := by
  obtain ⟨A', c', e, h1, h2, h3⟩ := h
  simp only [Value.slice.injEq] at e
  obtain ⟨rfl, _, rfl⟩ := e
  refine ⟨by unfold cellsH; simp, A, c, rfl, ?_, h2, h0, h3⟩
  unfold cellsH at h1; simpa using h1
theorem seqAt_ofS {w : World} {A : Option Addr} {c : Nat} {hs : List Nat} (h : SeqS w 1 (.slice A hs.length c) hs.length (cellsH hs)) : SeqAt w (.slice A hs.length c) (cellsH hs) := by
  obtain ⟨h1, A', c', e, h2, h3, h4, h5⟩ := h
  simp only [Value.slice.injEq, true_and] at e
  obtain ⟨rfl, rfl⟩ := e
  exact ⟨A, c, by unfold cellsH; simp, by unfold cellsH; simpa using h2, h3, h5⟩
/-- The law's own: both boxes, the state's rows. -/
structure LdAt (w wx : World) (k c r : Int) (s : Rs) : Prop where
  b0 : Lies wx w.heap.size 23 #[.int .i64 k, .int .i64 c, .int .i64 r]
  b1 : Lies wx (w.heap.size + 1) 42 #[.int .u64 (s.tl : Int), .slice s.Ah s.hs.length s.ch, .bool s.cl, .slice s.As s.L.length s.cs]
  bel : Below w.heap.size w wx
section
variable {w a b : World} {k c r : Int} {s : Rs}
theorem LdAt.later (h : LdAt w a k c r s) (hb : Below a.heap.size a b) : LdAt w b k c r s := ⟨h.b0.below hb h.b0.lt, h.b1.below hb h.b1.lt, h.bel.trans (hb.mono h.bel.size)⟩
def LdC (w wx : World) (k c r : Int) (s : Rs) : Prop :=
  wx.cell? ⟨w.heap.size, 0, none⟩ = some (.int .i64 k) ∧ wx.cell? ⟨w.heap.size, 1, none⟩ = some (.int .i64 c) ∧ wx.cell? ⟨w.heap.size, 2, none⟩ = some (.int .i64 r) ∧
  wx.cell? ⟨w.heap.size + 1, 0, none⟩ = some (.int .u64 (s.tl : Int)) ∧ wx.cell? ⟨w.heap.size + 1, 1, none⟩ = some (.slice s.Ah s.hs.length s.ch) ∧ wx.cell? ⟨w.heap.size + 1, 2, none⟩ = some (.bool s.cl) ∧ wx.cell? ⟨w.heap.size + 1, 3, none⟩ = some (.slice s.As s.L.length s.cs)
theorem LdAt.cells (h : LdAt w a k c r s) : LdC w a k c r s := ⟨h.b0.cell 0, h.b0.cell 1, h.b0.cell 2, h.b1.cell 0, h.b1.cell 1, h.b1.cell 2, h.b1.cell 3⟩
theorem ldOf (h : LdAt w a k c r s) (hs : RsAt w s) (l1 : s.hs.length ≤ 20) (l2 : s.L.length ≤ 70) :
    Calls Try.prog 17 #[.agg #[.int .i64 k, .int .i64 c, .int .i64 r], .agg #[.int .u64 (s.tl : Int), .slice s.Ah s.hs.length s.ch, .bool s.cl, .slice s.As s.L.length s.cs]] a fun e b =>
      ∃ A1 c1 A2 c2, e = .returned (.agg #[.int .u64 (IntKind.u64.wrap c), .int .u64 (s.tl : Int), .slice A1 s.hs.length c1, .bool s.cl, .slice A2 s.L.length c2, .int .i64 r]) ∧ LdC w b k c r s ∧ Hid (LdAt w b k c r s) ∧
        Hid (SeqS b 1 (.slice A1 s.hs.length c1) s.hs.length (cellsH s.hs)) ∧ Hid (SeqS b 3 (.slice A2 s.L.length c2) s.L.length (rowsOf slF s.L)) ∧ Hid (HdFrom a.heap.size A1) ∧ Hid (HdFrom a.heap.size A2) ∧ Hid (Below a.heap.size a b) := by
  obtain ⟨q1, q2, q3, q4, q5, q6⟩ := hs
  refine (ref13Of k c r s.tl s.cl s.Ah s.hs.length s.ch s.As s.L.length s.cs (cellsH s.hs) (rowsOf slF s.L) a (seqS_of_at (q1.later_ h.bel) q6) (q2.later h.bel) (cellsH_one _) (slF_one _) (by omega) (by omega)).mono ?_
  rintro e b ⟨A1, c1, A2, c2, rfl, o1, o2, hb⟩
  have h2 := h.later hb
  refine ⟨A1, c1, A2, c2, rfl, h2.cells, h2, SeqS.of_owns o1, SeqS.of_owns o2, fun b o e => ?_, fun b o e => ?_, hb⟩
  · subst e
    rcases owns_row o1 with ⟨e, _⟩ | ⟨q, cap, cur, e, hq, _⟩
    · cases e
    · simp only [Value.slice.injEq, Option.some.injEq, Addr.mk.injEq] at e
      omega
  · subst e
    rcases owns_row o2 with ⟨e, _⟩ | ⟨q, cap, cur, e, hq, _⟩
    · cases e
    · simp only [Value.slice.injEq, Option.some.injEq, Addr.mk.injEq] at e
      omega
theorem ldState {A1 A2 : Option Addr} {c1 c2 : Nat} (h : LdAt w a k c r s) (cp : Int) (h1 : SeqS a 1 (.slice A1 s.hs.length c1) s.hs.length (cellsH s.hs)) (h2 : SeqS a 3 (.slice A2 s.L.length c2) s.L.length (rowsOf slF s.L)) (l1 : s.hs.length ≤ 20) (l2 : s.L.length ≤ 70) :
    Calls Try.prog 16 #[.agg #[.int .u64 cp, .int .u64 (s.tl : Int), .slice A1 s.hs.length c1, .bool s.cl, .slice A2 s.L.length c2, .int .i64 r]] a fun e b =>
      ∃ A3 c3 A4 c4, e = .returned (.agg #[.int .u64 (s.tl : Int), .slice A3 s.hs.length c3, .bool s.cl, .slice A4 s.L.length c4]) ∧ LdC w b k c r s ∧ Hid (LdAt w b k c r s) ∧
        Hid (SeqS b 1 (.slice A3 s.hs.length c3) s.hs.length (cellsH s.hs)) ∧ Hid (SeqS b 3 (.slice A4 s.L.length c4) s.L.length (rowsOf slF s.L)) := by
  refine (ref13St cp s.tl r s.cl A1 s.hs.length c1 A2 s.L.length c2 (cellsH s.hs) (rowsOf slF s.L) a h1 h2 (cellsH_one _) (slF_one _) (by omega) (by omega)).mono ?_
  rintro e b ⟨A3, c3, A4, c4, rfl, o1, o2, hb⟩
  have h2 := h.later hb
  exact ⟨A3, c3, A4, c4, rfl, h2.cells, h2, SeqS.of_owns o1, SeqS.of_owns o2⟩
/-- What the program's Load tells. -/
def LdRes (w b : World) (k c r : Int) (s : Rs) (pv ev : Value) : Prop :=
  if mayB k c r = false then pv = .pointer none ∧ ev = .int .i64 1
  else if loadsB c.toNat r.toNat s.tl s.cl s.hs s.L = false then pv = .pointer none ∧ ev = .int .i64 3
  else ∃ g, pv = .pointer (some ⟨g, 0, none⟩) ∧ ev = .int .i64 0 ∧ w.heap.size + 1 < g ∧ RgAt b g 83 [] [] (loadR c.toNat r.toNat s.tl s.cl s.hs s.L)
theorem ldLoad {A1 A2 : Option Addr} {c1 c2 : Nat} (h : LdAt w a k c r s) (hs : RsAt w s) (h1 : SeqS a 1 (.slice A1 s.hs.length c1) s.hs.length (cellsH s.hs)) (h2 : SeqS a 3 (.slice A2 s.L.length c2) s.L.length (rowsOf slF s.L)) :
    Calls Try.prog 15 #[.agg #[.int .i64 k, .int .i64 c, .int .i64 r], .agg #[.int .u64 (s.tl : Int), .slice A1 s.hs.length c1, .bool s.cl, .slice A2 s.L.length c2]] a fun e b =>
      ∃ pv ev, e = .returned (.tuple #[pv, ev]) ∧ LdC w b k c r s ∧ Hid (LdAt w b k c r s) ∧ Hid (LdRes w b k c r s pv ev) := by
  obtain ⟨q1, q2, q3, q4, q5, q6⟩ := hs
  cases hm : mayB k c r with
  | false =>
    refine (rgLoadNo k c r (.int .i64 0) s.tl s.cl A1 s.hs.length c1 A2 s.L.length c2 a hm).mono ?_
    rintro e b ⟨rfl, hb⟩
    have h2 := h.later hb
    exact ⟨_, _, rfl, h2.cells, h2, by show LdRes _ _ _ _ _ _ _ _; unfold LdRes; rw [if_pos hm]; exact ⟨rfl, rfl⟩⟩
  | true =>
    obtain ⟨cap, rfl⟩ : ∃ n : Nat, c = n := ⟨c.toNat, by have := of_decide_eq_true hm; omega⟩
    obtain ⟨rd, rfl⟩ : ∃ n : Nat, r = n := ⟨r.toNat, by have := of_decide_eq_true hm; omega⟩
    have hmb := of_decide_eq_true hm
    have hl0 := h.b1.lt
    refine (rgLoad k cap rd s.tl s.cl s.hs s.L A1 s.hs.length c1 A2 s.L.length c2 a (by omega) (by omega) (by omega) (by omega) (by omega) (seqAt_ofS h1) h2 q3).mono ?_
    rintro e b ⟨hb, hp⟩
    have h2 := h.later hb
    unfold RLoadPost at hp
    split at hp
    · rename_i hl
      obtain ⟨g, hg, rfl, hrg⟩ := hp
      refine ⟨_, _, rfl, h2.cells, h2, ?_⟩
      show LdRes _ _ _ _ _ _ _ _
      unfold LdRes
      rw [if_neg (by rw [hm]; decide)]
      rw [Int.toNat_natCast, Int.toNat_natCast, if_neg (by rw [hl]; decide)]
      exact ⟨g, rfl, rfl, by omega, hrg⟩
    · rename_i hl
      subst hp
      refine ⟨_, _, rfl, h2.cells, h2, ?_⟩
      show LdRes _ _ _ _ _ _ _ _
      unfold LdRes
      rw [if_neg (by rw [hm]; decide)]
      rw [Int.toNat_natCast, Int.toNat_natCast, if_pos (by simpa using hl)]
      exact ⟨rfl, rfl⟩
/-- A ring that was loaded, beside. -/
structure LrAt (w wx : World) (k : Int) (cap rd g : Nat) (s : Rs) : Prop where
  ld : LdAt w wx k cap rd s
  rg : RgAt wx g 83 [] [] (loadR cap rd s.tl s.cl s.hs s.L)
theorem LrAt.later {cap rd g : Nat} (h : LrAt w a k cap rd g s) (hb : Below a.heap.size a b) : LrAt w b k cap rd g s := ⟨h.ld.later hb, h.rg.later hb⟩
theorem lrState {cap rd g : Nat} (h : LrAt w a k cap rd g s) (hl : s.hs.length = rd) :
    Calls Try.prog 20 #[.pointer (some ⟨g, 0, none⟩)] a fun e b =>
      ∃ A1 c1 A2 c2, e = .returned (.agg #[.int .u64 (s.tl : Int), .slice A1 s.hs.length c1, .bool s.cl, .slice A2 s.L.length c2]) ∧ LdC w b k cap rd s ∧ Hid (LrAt w b k cap rd g s) ∧
        Hid (SeqS b 1 (.slice A1 s.hs.length c1) s.hs.length (cellsH s.hs)) ∧ Hid (SeqS b 3 (.slice A2 s.L.length c2) s.L.length (rowsOf slF s.L)) := by
  have h8 : (loadR cap rd s.tl s.cl s.hs s.L).h8.take rd = s.hs := by
    unfold loadR; simp only
    rw [List.take_append_of_le_length (by omega), List.take_of_length_le (by omega)]
  refine (rgState h.rg rfl).mono ?_
  rintro e b ⟨A1, c1, A2, c2, rfl, o1, o2, hb⟩
  have h2 := h.later hb
  have q1 := SeqS.of_owns o1
  have q2 := SeqS.of_owns o2
  have e1 : (loadR cap rd s.tl s.cl s.hs s.L).rd = rd := rfl
  rw [e1, h8] at q1
  rw [e1]
  subst hl
  exact ⟨A1, c1, A2, c2, rfl, h2.ld.cells, h2, q1, q2⟩
theorem lrSame {cap rd g : Nat} {A1 A2 : Option Addr} {c1 c2 : Nat} (h : LrAt w a k cap rd g s) (hs : RsAt w s) (h1 : SeqS a 1 (.slice A1 s.hs.length c1) s.hs.length (cellsH s.hs)) (h2 : SeqS a 3 (.slice A2 s.L.length c2) s.L.length (rowsOf slF s.L)) :
    Calls Try.prog 19 #[.agg #[.int .u64 (s.tl : Int), .slice A1 s.hs.length c1, .bool s.cl, .slice A2 s.L.length c2], .agg #[.int .u64 (s.tl : Int), .slice s.Ah s.hs.length s.ch, .bool s.cl, .slice s.As s.L.length s.cs]] a fun e b =>
      e = .returned (.bool true) ∧ LdC w b k cap rd s ∧ Hid (LrAt w b k cap rd g s) :=
  (ref13Same s.tl s.hs s.cl s.L A1 s.Ah A2 s.As c1 s.ch c2 s.cs a (seqAt_ofS h1) (hs.1.later_ h.ld.bel) h2 (hs.2.1.later h.ld.bel)).mono fun e b ⟨he, hb⟩ => ⟨he, (h.later hb).ld.cells, h.later hb⟩
theorem lrOf {cap rd g : Nat} (h : LrAt w a k cap rd g s) (hs : RsAt w s) (l1 : s.hs.length ≤ 20) (l2 : s.L.length ≤ 70) :
    Calls Try.prog 17 #[.agg #[.int .i64 k, .int .i64 (cap : Int), .int .i64 (rd : Int)], .agg #[.int .u64 (s.tl : Int), .slice s.Ah s.hs.length s.ch, .bool s.cl, .slice s.As s.L.length s.cs]] a fun e b =>
      ∃ A1 c1 A2 c2, e = .returned (.agg #[.int .u64 (IntKind.u64.wrap (cap : Int)), .int .u64 (s.tl : Int), .slice A1 s.hs.length c1, .bool s.cl, .slice A2 s.L.length c2, .int .i64 (rd : Int)]) ∧ LdC w b k cap rd s ∧ Hid (LrAt w b k cap rd g s) ∧
        Hid (SeqS b 1 (.slice A1 s.hs.length c1) s.hs.length (cellsH s.hs)) ∧ Hid (SeqS b 3 (.slice A2 s.L.length c2) s.L.length (rowsOf slF s.L)) ∧ Hid (HdFrom (g + 1) A1) ∧ Hid (HdFrom (g + 1) A2) := by
  have hg := h.rg.lt
  refine (ldOf h.ld hs l1 l2).mono ?_
  rintro e b ⟨A1, c1, A2, c2, rfl, hc, hl, h1, h2, h3, h4, hb⟩
  exact ⟨A1, c1, A2, c2, rfl, hc, h.later hb.out, h1, h2, fun b o e => by have := h3.out b o e; omega, fun b o e => by have := h4.out b o e; omega⟩
theorem lrPlays {cap rd g : Nat} {A1 A2 : Option Addr} {c1 c2 : Nat} {B : Option Addr} {cb : Nat} {ops : List Op5} (h : LrAt w a k cap rd g s) (hl : s.hs.length = rd) (hcap : s.L.length = cap) (hc1 : 1 ≤ cap) (hc2 : cap ≤ 64) (hg : w.heap.size + 1 < g) (ht : s.tl < 4611686018427387904)
    (h1 : SeqS a 1 (.slice A1 s.hs.length c1) s.hs.length (cellsH s.hs)) (h2 : SeqS a 3 (.slice A2 s.L.length c2) s.L.length (rowsOf slF s.L)) (h3 : HdFrom (g + 1) A1) (h4 : HdFrom (g + 1) A2)
    (hq : SeqS w 4 (.slice B ops.length cb) ops.length (rowsOf op5F ops)) (hok : ∀ x ∈ ops, op5Ok x) (hlen : ops.length ≤ 100) :
    Calls Try.prog 13 #[.pointer (some ⟨g, 0, none⟩), .agg #[.int .u64 (IntKind.u64.wrap (cap : Int)), .int .u64 (s.tl : Int), .slice A1 s.hs.length c1, .bool s.cl, .slice A2 s.L.length c2, .int .i64 (rd : Int)], .slice B ops.length cb] a fun e b => e = .returned (.bool true) ∧ Hid (Below w.heap.size w b) := by
  have h8 : (loadR cap rd s.tl s.cl s.hs s.L).h8.take rd = s.hs := by
    unfold loadR; simp only
    rw [List.take_append_of_le_length (by omega), List.take_of_length_le (by omega)]
  have e1 : (loadR cap rd s.tl s.cl s.hs s.L).rd = rd := rfl
  obtain ⟨x0, hx0⟩ : ∃ x, s.L[0]? = some x := ⟨_, List.getElem?_eq_getElem (by omega)⟩
  obtain ⟨b8, o8, rfl, _⟩ := SeqS.at_ slF_length (by decide) h2 hx0
  have hw : IntKind.u64.wrap (cap : Int) = (cap : Int) := IntWalk.u64_in _ (by omega)
  rw [hw]
  have hh : HdAt a (loadR cap rd s.tl s.cl s.hs s.L) A1 c1 := by
    unfold HdAt
    rw [e1, h8, ← hl]
    exact seqAt_ofS h1
  have := plays_walk (loadR cap rd s.tl s.cl s.hs s.L) ops A1 c1 ⟨b8, o8, none⟩ c2 B cb a h.rg hh h2 h3 (h4 b8 o8 rfl) (hq.later h.ld.bel)
    (fun hne b o e => by
      obtain ⟨y, hy⟩ : ∃ y, ops[0]? = some y := ⟨_, List.getElem?_eq_getElem (by omega)⟩
      obtain ⟨b', o', e', hbl, _⟩ := SeqS.at_ op5F_length (by decide) hq hy
      rw [e] at e'
      simp only [Option.some.injEq, Addr.mk.injEq] at e'
      omega) hok (by omega) (by show s.tl + ops.length < _; omega)
  rw [show (loadR cap rd s.tl s.cl s.hs s.L).rd = s.hs.length from hl.symm] at this
  rw [hl] at this ⊢
  exact this.mono fun e b ⟨he, hk⟩ => ⟨he, h.ld.bel.trans (hk.below h.ld.bel.size (fun j hj (e : j = g) => by omega))⟩
end
end Go.Proofs.Ytahojmioonpodaa
