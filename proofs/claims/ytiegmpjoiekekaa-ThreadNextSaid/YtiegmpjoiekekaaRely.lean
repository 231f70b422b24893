/-
  A region that draws its order, told operation by operation: each one's value by a predicate that the others keep. No order is gone through.
-/
import Derived.Test.YtiegmpjoiekekaaKit
import Derived.Deep.RegionHeld
namespace Go.Proofs.Ytiegmpjoiekekaa
open Go.RowKit
set_option linter.unusedVariables false
set_option linter.unusedSimpArgs false
section
variable {P : Program} {ops : Array Oper}
/-- Whom an operation waits for at once. -/
def dirs (ops : Array Oper) (i : Nat) : List Nat := match ops[i]? with | some o => (o.after.toList.filter (fun e => Region.binds .any e)).map (·.on) | none => []
/-- The frame with the values of some operations put. -/
def putsOf (ds : List (Option Tmp)) (x : Nat → Value) (a : Act) (js : List Nat) : Act := js.foldl (fun a j => a.put (ds.getD j none) (x j)) a
def QF : Exit → Act → World → Prop := fun _ _ _ => False
/-- One operation's step out of the frame b. -/
def StepV (P : Program) (ops : Array Oper) (i : Nat) (b : Act) (w : World) (R : Value → World → Prop) : Prop :=
  ∀ o, ops[i]? = some o → ∀ K' : Act → World → Prop, Shut (∀ a' w', (∃ v, a' = b.put o.dst v ∧ R v w') → K' a' w') → if Region.wanted o (yielded ops b.tmps) = true then Oper.wp P o b w K' QF else K' (b.put o.dst undef) w
theorem StepV.mk {i : Nat} {o : Oper} {b : Act} {w : World} {R : Value → World → Prop} (ho : ops[i]? = some o)
    (h : ∀ K' : Act → World → Prop, Shut (∀ a' w', (∃ v, a' = b.put o.dst v ∧ R v w') → K' a' w') → if Region.wanted o (yielded ops b.tmps) = true then Oper.wp P o b w K' QF else K' (b.put o.dst undef) w) : StepV P ops i b w R := by
  intro o' ho' K hK
  rw [ho] at ho'
  cases ho'
  exact h K hK
theorem all_in {l : List Nat} (q : Nat → Bool) (h : l.all q = true) {j : Nat} (hj : j ∈ l) : q j = true := List.all_eq_true.1 h j hj
/-- What a law for a list of operations says of one alone. -/
def QK (K : Act → World → Prop) : Exit → Act → World → Prop
  | .normal, a, w => K a w
  | _, _, _ => False
theorem step_list {o : Oper} {a : Act} {w : World} {K : Act → World → Prop} (hw : Region.wanted o (yielded ops a.tmps) = true) (h : wpList P ops (QK K) [o] a w) : Oper.wp P o a w K QF := by
  unfold wpList at h
  rw [if_pos hw] at h
  rcases h with h | ⟨_, hl⟩
  · unfold Oper.wp at *
    generalize (execOp a.eval o).run P w = r at *
    cases r with
    | ok n w' =>
      cases n <;> simp only [Oper.upon] at h ⊢
      case value u => exact h
      case skip => exact h
      case defer d => exact h
      case enter f args =>
        refine Calls.mono h fun e w'' he => ?_
        cases e with
        | returned u => exact he
        | panicked c => exact he.elim
        | outgrown => obtain ⟨_, _, h⟩ := he; exact h.elim
      case row row args => exact h
    | halt x w' =>
      cases x <;> simp only [Oper.upon] at h ⊢
      case panic u => exact h.elim
  · obtain ⟨_, _, h⟩ := hl
    exact h.elim
theorem put_tmps (a : Act) (d : Option Tmp) (v : Value) : (a.put d v).tmps.size = a.tmps.size ∧ (a.put d v).defers = a.defers := by
  cases d with
  | none => exact ⟨rfl, rfl⟩
  | some d => exact ⟨Array.size_setIfInBounds, rfl⟩
theorem act_ext {a b : Act} (h1 : a.tmps = b.tmps) (h2 : a.defers = b.defers) : a = b := by
  obtain ⟨_, _⟩ := a
  obtain ⟨_, _⟩ := b
  simp only at h1 h2
  rw [h1, h2]
theorem put_cong {a b : Act} {d : Option Tmp} {v v' : Value} (hs : a.tmps.size = b.tmps.size) (h : b.put d v = b.put d v') : a.put d v = a.put d v' := by
  cases d with
  | none => rfl
  | some d =>
    by_cases hd : d < b.tmps.size
    · have := congrArg (fun c => c.tmps[d]?) h
      simp only [Act.put] at this
      rw [Array.getElem?_setIfInBounds_self_of_lt hd, Array.getElem?_setIfInBounds_self_of_lt hd] at this
      injection this with this
      rw [this]
    · refine act_ext ?_ rfl
      simp only [Act.put]
      rw [Array.setIfInBounds, dif_neg (by rw [hs]; exact hd), Array.setIfInBounds, dif_neg (by rw [hs]; exact hd)]
theorem StepV.move {i : Nat} {o : Oper} {a b : Act} {w : World} {R : Value → World → Prop} {Q : Exit → Act → World → Prop} (ho : ops[i]? = some o) (hsel : ∀ cs b, o.op ≠ .select cs b)
    (hsz : a.tmps.size = b.tmps.size) (he : ∀ d ∈ o.looksAt ops, a.tmps[d]? = b.tmps[d]?) (h : StepV P ops i b w R) : wpOp P ops Q i (fun a' w' => ∃ v, a' = a.put o.dst v ∧ R v w') a w := by
  have h0 := h o ho (fun a' w' => ∃ v, a' = b.put o.dst v ∧ R v w') (fun _ _ h => h)
  have hex : execOp a.eval o = execOp b.eval o := by
    refine execOp_congr o hsel (fun x hx => ?_)
    cases x with
    | tmp t =>
      have := he t (List.mem_append_left _ (List.mem_filterMap.2 ⟨.tmp t, by simpa using hx, rfl⟩))
      show a.tmps.getD t undef = b.tmps.getD t undef
      rw [Array.getD_eq_getD_getElem?, Array.getD_eq_getD_getElem?, this]
    | _ => rfl
  have hwa : Region.wanted o (yielded ops a.tmps) = Region.wanted o (yielded ops b.tmps) := by
    unfold Region.wanted
    cases hg : o.guard with
    | none => rfl
    | some gw =>
      obtain ⟨g, want⟩ := gw
      have hy : yielded ops a.tmps g = yielded ops b.tmps g := by
        unfold yielded
        cases ht : (ops[g]?).bind (·.dst) with
        | none => rfl
        | some t =>
          have := he t (by simp [Oper.looksAt, hg, ht])
          simp only [Option.bind_some, this]
      simp only [hy]
  unfold wpOp
  simp only [ho]
  rw [hwa]
  split
  · rename_i hw
    rw [if_pos hw] at h0
    refine .inl ?_
    unfold Oper.wp at *
    rw [hex]
    generalize (execOp b.eval o).run P w = r at *
    cases r with
    | ok n w' =>
      cases n <;> simp only [Oper.upon] at h0 ⊢
      case value u => obtain ⟨v, e, hR⟩ := h0; exact ⟨v, put_cong hsz e, hR⟩
      case skip => obtain ⟨v, e, hR⟩ := h0; exact ⟨v, put_cong hsz e, hR⟩
      case defer d =>
        obtain ⟨v, e, hR⟩ := h0
        have := congrArg Act.defers e
        rw [(put_tmps _ _ _).2, (put_tmps _ _ _).2] at this
        exact absurd (congrArg List.length this) (by simp)
      case enter f args =>
        refine Calls.mono h0 fun e w'' he => ?_
        cases e with
        | returned u => obtain ⟨v, e, hR⟩ := he; exact ⟨v, put_cong hsz e, hR⟩
        | panicked c => exact he.elim
        | outgrown => obtain ⟨_, _, h⟩ := he; exact h.elim
      case row row args => exact Rows.mono h0 fun u w'' he => by obtain ⟨v, e, hR⟩ := he; exact ⟨v, put_cong hsz e, hR⟩
    | halt x w' =>
      cases x <;> simp only [Oper.upon] at h0 ⊢
      case panic u => exact h0.elim
  · rename_i hw
    rw [if_neg hw] at h0
    obtain ⟨v, e, hR⟩ := h0
    exact ⟨v, put_cong hsz e, hR⟩
/-- What is asked of the region's text: edges lead back; no temporary is written twice; what an operation looks at was written by one that it waits for, or is written by one that waits for it; what it eats nobody else looks at behind it. -/
def relyB (ops : Array Oper) (ds : List (Option Tmp)) (js es ps : List (List Nat)) (N : Nat) : Bool :=
  (ds == ops.toList.map (·.dst)) && Region.noSelect ops &&
  (List.range ops.size).all (fun i => (dirs ops i).all (fun e => decide (e < i)) && (js.getD i []).all (fun j => (dirs ops i).contains j || decide (ops.size ≤ j)) &&
    (List.range ops.size).all (fun j => (match ds.getD j none with
      | some t => (i == j || ds.getD i none != some t) && (i == j || (js.getD i []).contains j || (dirs ops j).contains i || !((ops.getD i default).looksAt ops).contains t)
      | none => true) && ((es.getD j []).all (fun e => !(js.getD i []).contains e || i == j || (dirs ops j).contains i))) &&
    (List.range N).all (fun j => i == j || (ps.getD i []).contains j || (es.getD i []).contains j || (dirs ops j).contains i || (dirs ops i).any (fun k => (es.getD k []).contains j)))
structure Rely (ops : Array Oper) (ds : List (Option Tmp)) (js es ps : List (List Nat)) (N : Nat) : Prop where
  ds_ : ds = ops.toList.map (·.dst)
  sel : Region.noSelect ops = true
  back : ∀ i e, i < ops.size → e ∈ dirs ops i → e < i
  sub : ∀ i j, i < ops.size → j ∈ js.getD i [] → j ∈ dirs ops i ∨ ops.size ≤ j
  one : ∀ i j t, i < ops.size → j < ops.size → ds.getD j none = some t → ds.getD i none = some t → i = j
  looks : ∀ i j t, i < ops.size → j < ops.size → ds.getD j none = some t → t ∈ (ops.getD i default).looksAt ops → i = j ∨ j ∈ js.getD i [] ∨ i ∈ dirs ops j
  eats : ∀ i j e, i < ops.size → j < ops.size → e ∈ es.getD j [] → e ∈ js.getD i [] → i = j ∨ i ∈ dirs ops j
  pres : ∀ i j, i < ops.size → j < N → i = j ∨ j ∈ ps.getD i [] ∨ j ∈ es.getD i [] ∨ i ∈ dirs ops j ∨ ∃ k ∈ dirs ops i, j ∈ es.getD k []
theorem Rely.of {ds : List (Option Tmp)} {js es ps : List (List Nat)} {N : Nat} (h : relyB ops ds js es ps N = true) : Rely ops ds js es ps N := by
  unfold relyB at h
  rw [Bool.and_eq_true, Bool.and_eq_true, List.all_eq_true] at h
  obtain ⟨⟨h1, h2⟩, h3⟩ := h
  have h4 := fun i (hi : i < ops.size) => h3 i (List.mem_range.2 hi)
  simp only [Bool.and_eq_true, List.all_eq_true] at h4
  have h5 := fun i hi j (hj : j < ops.size) => (h4 i hi).1.2 j (List.mem_range.2 hj)
  have h6 := fun i hi j (hj : j < N) => (h4 i hi).2 j (List.mem_range.2 hj)
  refine ⟨by simpa using h1, h2, fun i e hi he => ?_, fun i j hi hj => ?_, fun i j t hi hj h1 h2 => ?_, fun i j t hi hj h1 h2 => ?_, fun i j e hi hj h1 h2 => ?_, fun i j hi hj => ?_⟩
  · simpa using (h4 i hi).1.1.1 e he
  · have := (h4 i hi).1.1.2 j hj
    simpa using this
  · have := (h5 i hi j hj).1
    rw [h1] at this
    simp only [Bool.and_eq_true, Bool.or_eq_true, beq_iff_eq, bne_iff_ne] at this
    rcases this.1 with h | h
    · exact h
    · exact absurd h2 h
  · have := (h5 i hi j hj).1
    rw [h1] at this
    simp only [Bool.and_eq_true, Bool.or_eq_true, beq_iff_eq, bne_iff_ne, List.contains_iff_mem, Bool.not_eq_true'] at this
    rcases this.2 with ((h | h) | h) | h
    · exact .inl h
    · exact .inr (.inl h)
    · exact .inr (.inr h)
    · rw [List.contains_eq_mem, decide_eq_false_iff_not] at h
      exact absurd h2 h
  · have := (h5 i hi j hj).2 e h1
    simp only [Bool.or_eq_true, beq_iff_eq, List.contains_iff_mem, Bool.not_eq_true'] at this
    rcases this with (h | h) | h
    · rw [List.contains_eq_mem, decide_eq_false_iff_not] at h
      exact absurd h2 h
    · exact .inl h
    · exact .inr h
  · have := h6 i hi j hj
    simp only [Bool.or_eq_true, beq_iff_eq, List.contains_iff_mem, List.any_eq_true] at this
    rcases this with (((h | h) | h) | h) | h
    · exact .inl h
    · exact .inr (.inl h)
    · exact .inr (.inr (.inl h))
    · exact .inr (.inr (.inr (.inl h)))
    · exact .inr (.inr (.inr (.inr h)))
/-- Some facts are kept. -/
def AllP (V : Nat → Value → World → Prop) (w w' : World) : List Nat → Prop
  | [] => True
  | j :: l => (∀ u, V j u w → V j u w') ∧ AllP V w w' l
theorem AllP.get {V : Nat → Value → World → Prop} {w w' : World} : ∀ {l : List Nat}, AllP V w w' l → ∀ j ∈ l, ∀ u, V j u w → V j u w'
  | [], _, _, h => by cases h
  | k :: l, h, j, hj => by
    rcases List.mem_cons.1 hj with rfl | hj
    · exact h.1
    · exact h.2.get j hj
theorem AllP.same {V : Nat → Value → World → Prop} {w : World} : ∀ (l : List Nat), AllP V w w l
  | [] => trivial
  | _ :: l => ⟨fun _ h => h, AllP.same l⟩
theorem AllP.of {V : Nat → Value → World → Prop} {w w' : World} : ∀ (l : List Nat), (∀ j ∈ l, ∀ u, V j u w → V j u w') → AllP V w w' l
  | [], _ => trivial
  | k :: l, h => ⟨h k List.mem_cons_self, AllP.of l (fun j hj => h j (List.mem_cons_of_mem _ hj))⟩
/-- Some facts hold. -/
def AllV (V : Nat → Value → World → Prop) (x : Nat → Value) (w : World) : List Nat → Prop
  | [] => True
  | j :: l => V j (x j) w ∧ AllV V x w l
theorem AllV.of {V : Nat → Value → World → Prop} {x : Nat → Value} {w : World} : ∀ (l : List Nat), (∀ j ∈ l, V j (x j) w) → AllV V x w l
  | [], _ => trivial
  | k :: l, h => ⟨h k List.mem_cons_self, AllV.of l (fun j hj => h j (List.mem_cons_of_mem _ hj))⟩
/-- The frame in the course of the region. -/
structure FrV (ops : Array Oper) (ds : List (Option Tmp)) (a0 : Act) (x : Nat → Value) (listed : Array Bool) (a : Act) : Prop where
  size : a.tmps.size = a0.tmps.size
  defers : a.defers = a0.defers
  put : ∀ j t, j < ops.size → listed.getD j false = true → ds.getD j none = some t → t < a0.tmps.size → a.tmps[t]? = some (x j)
  old : ∀ t, (∀ j, j < ops.size → listed.getD j false = true → ds.getD j none ≠ some t) → a.tmps[t]? = a0.tmps[t]?
theorem putsOf_size (ds : List (Option Tmp)) (x : Nat → Value) : ∀ (js : List Nat) (a : Act), (putsOf ds x a js).tmps.size = a.tmps.size ∧ (putsOf ds x a js).defers = a.defers
  | [], a => ⟨rfl, rfl⟩
  | j :: js, a => by
    have h := putsOf_size ds x js (a.put (ds.getD j none) (x j))
    exact ⟨h.1.trans (put_tmps _ _ _).1, h.2.trans (put_tmps _ _ _).2⟩
theorem put_get (a : Act) (d : Option Tmp) (v : Value) (t : Nat) : (a.put d v).tmps[t]? = if d = some t ∧ t < a.tmps.size then some v else a.tmps[t]? := by
  cases d with
  | none => simp [Act.put]
  | some d =>
    simp only [Act.put, Option.some.injEq]
    by_cases h : d = t
    · subst h
      by_cases h2 : d < a.tmps.size
      · rw [Array.getElem?_setIfInBounds_self_of_lt h2, if_pos ⟨rfl, h2⟩]
      · rw [if_neg (fun h => h2 h.2), Array.setIfInBounds, dif_neg h2]
    · rw [Array.getElem?_setIfInBounds_ne h, if_neg (fun h2 => h h2.1)]
theorem putsOf_old (ds : List (Option Tmp)) (x : Nat → Value) (t : Nat) : ∀ (js : List Nat) (a : Act), (∀ j ∈ js, ds.getD j none ≠ some t) → (putsOf ds x a js).tmps[t]? = a.tmps[t]?
  | [], a, _ => rfl
  | j :: js, a, h => by
    have := putsOf_old ds x t js (a.put (ds.getD j none) (x j)) (fun k hk => h k (List.mem_cons_of_mem _ hk))
    exact this.trans (by rw [put_get, if_neg (fun e => h j List.mem_cons_self e.1)])
theorem putsOf_new (ds : List (Option Tmp)) (x : Nat → Value) (t i : Nat) : ∀ (js : List Nat) (a : Act), (∀ j ∈ js, ds.getD j none = some t → j = i) → i ∈ js → ds.getD i none = some t → t < a.tmps.size → (putsOf ds x a js).tmps[t]? = some (x i)
  | [], a, _, h, _, _ => by cases h
  | j :: js, a, h1, h2, h3, h4 => by
    by_cases hi : i ∈ js
    · exact putsOf_new ds x t i js (a.put (ds.getD j none) (x j)) (fun k hk => h1 k (List.mem_cons_of_mem _ hk)) hi h3 (by rw [(put_tmps _ _ _).1]; exact h4)
    · have hij : i = j := (List.mem_cons.1 h2).resolve_right hi
      subst hij
      have := putsOf_old ds x t js (a.put (ds.getD i none) (x i)) (fun k hk e => hi (by rw [← h1 k (List.mem_cons_of_mem _ hk) e]; exact hk))
      exact this.trans (by rw [put_get, if_pos ⟨h3, h4⟩])
theorem dirs_mem {i e : Nat} {o : Oper} (ho : ops[i]? = some o) : e ∈ dirs ops i ↔ ∃ g ∈ o.after, Region.binds .any g = true ∧ g.on = e := by
  unfold dirs
  rw [ho]
  simp only [List.mem_map, List.mem_filter, Array.mem_toList_iff]
  constructor
  · rintro ⟨g, ⟨h1, h2⟩, h3⟩; exact ⟨g, h1, h2, h3⟩
  · rintro ⟨g, h1, h2, h3⟩; exact ⟨g, ⟨h1, h2⟩, h3⟩
theorem getD_tf {listed : Array Bool} {j : Nat} (h : j < listed.size) (d d' : Bool) : listed.getD j d = listed.getD j d' := by
  simp [h]
def unl (listed : Array Bool) : Nat := listed.toList.countP (fun b => !b)
theorem unl_set {listed : Array Bool} {i : Nat} (hi : i < listed.size) (h : listed.getD i false = false) : unl (listed.setIfInBounds i true) + 1 = unl listed := by
  have hl : i < listed.toList.length := by simpa using hi
  have he : listed.toList[i] = false := by
    simpa [hi] using h
  have hp : 0 < listed.toList.countP (fun b => !b) := List.countP_pos_iff.2 ⟨false, by rw [← he]; exact List.getElem_mem hl, rfl⟩
  unfold unl
  rw [Array.toList_setIfInBounds, List.countP_set hl, he]
  simp only [Bool.not_false, if_true, Bool.not_true, Bool.false_eq_true, if_false]
  omega
theorem unl_zero {listed : Array Bool} (h : unl listed = 0) (j : Nat) (hj : j < listed.size) : listed.getD j false = true := by
  have := List.countP_eq_zero.1 h (listed.toList[j]'(by simpa using hj)) (List.getElem_mem _)
  simpa [hj] using this
theorem set_getD {listed : Array Bool} {i j : Nat} (hi : i < listed.size) : (listed.setIfInBounds i true).getD j false = true ↔ j = i ∨ listed.getD j false = true := by
  by_cases e : i = j
  · subst e
    simp [hi]
  · rw [getD_set_ne false e]
    constructor
    · exact .inr
    · rintro (h | h)
      · exact absurd h.symm e
      · exact h
theorem FrV.full {ds : List (Option Tmp)} {js es ps : List (List Nat)} {N : Nat} {a0 a : Act} {x : Nat → Value} {listed : Array Bool} (hok : Rely ops ds js es ps N) (h : FrV ops ds a0 x listed a) (hall : ∀ j, j < ops.size → listed.getD j false = true) :
    a = putsOf ds x a0 (List.range ops.size) := by
  have hz := putsOf_size ds x (List.range ops.size) a0
  refine act_ext ?_ (h.defers.trans hz.2.symm)
  apply Array.ext_getElem?
  intro t
  by_cases ht : t < a0.tmps.size
  · by_cases hex : ∃ j, j < ops.size ∧ ds.getD j none = some t
    · obtain ⟨j, hj, hd⟩ := hex
      rw [h.put j t hj (hall j hj) hd ht]
      exact (putsOf_new ds x t j _ a0 (fun k hk e => hok.one k j t (List.mem_range.1 hk) hj hd e) (List.mem_range.2 hj) hd ht).symm
    · rw [h.old t (fun j hj _ e => hex ⟨j, hj, e⟩)]
      exact (putsOf_old ds x t _ a0 (fun j hj e => hex ⟨j, List.mem_range.1 hj, e⟩)).symm
  · rw [Array.getElem?_eq_none (by rw [h.size]; omega), Array.getElem?_eq_none (by rw [hz.1]; omega)]
theorem FrV.step {ds : List (Option Tmp)} {js es ps : List (List Nat)} {N : Nat} {a0 a : Act} {x : Nat → Value} {listed : Array Bool} {i : Nat} {v : Value} (hok : Rely ops ds js es ps N) (h : FrV ops ds a0 x listed a) (hi : i < ops.size) (hs : listed.size = ops.size) (hu : listed.getD i false = false) :
    FrV ops ds a0 (fun j => if j = i then v else x j) (listed.setIfInBounds i true) (a.put (ds.getD i none) v) := by
  refine ⟨(put_tmps _ _ _).1.trans h.size, (put_tmps _ _ _).2.trans h.defers, fun j t hj hl hd ht => ?_, fun t hn => ?_⟩
  · rw [put_get]
    by_cases e : j = i
    · subst e
      rw [if_pos ⟨hd, by rw [h.size]; exact ht⟩, if_pos rfl]
    · rw [if_neg (fun e2 => e (hok.one j i t hj hi e2.1 hd)), if_neg e]
      exact h.put j t hj (((set_getD (by omega)).1 hl).resolve_left e) hd ht
  · rw [put_get, if_neg (fun e => hn i hi ((set_getD (by omega)).2 (.inl rfl)) e.1)]
    exact h.old t (fun j hj hl => hn j hj ((set_getD (by omega)).2 (.inr hl)))
theorem wpAny_rely {ds : List (Option Tmp)} {js es ps : List (List Nat)} {N : Nat} {Q : Exit → Act → World → Prop} {a0 : Act} {S : World → Prop} {V : Nat → Value → World → Prop} (hok : Rely ops ds js es ps N)
    (hjs : ∀ i j, i < ops.size → j ∈ js.getD i [] → j < N) (hstep : ∀ i, i < ops.size → ∀ (x : Nat → Value) (w : World), S w → AllV V x w (js.getD i []) →
      StepV P ops i (putsOf ds x a0 (js.getD i [])) w (fun v w' => S w' ∧ V i v w' ∧ AllP V w w' (ps.getD i [])))
    (hend : ∀ (x : Nat → Value) (w : World), S w → (∀ j, j < N → (∀ i, i < ops.size → j ∉ es.getD i []) → V j (x j) w) → Q .normal (putsOf ds x a0 (List.range ops.size)) w) :
    ∀ (fuel : Nat) (listed : Array Bool) (a : Act) (x : Nat → Value) (w : World), listed.size = ops.size → (∀ j, j < ops.size → listed.getD j false = true → ∀ e ∈ dirs ops j, listed.getD e false = true) → unl listed ≤ fuel → S w →
      (∀ j, j < N → (j < ops.size → listed.getD j false = true) → (∀ i, i < ops.size → listed.getD i false = true → j ∉ es.getD i []) → V j (x j) w) → FrV ops ds a0 x listed a → wpAny P .any ops Q fuel listed a w := by
  have hfin : ∀ (listed : Array Bool) (a : Act) (x : Nat → Value) (w : World), S w → (∀ j, j < ops.size → listed.getD j false = true) →
      (∀ j, j < N → (j < ops.size → listed.getD j false = true) → (∀ i, i < ops.size → listed.getD i false = true → j ∉ es.getD i []) → V j (x j) w) → FrV ops ds a0 x listed a → Q .normal a w := by
    intro listed a x w hS hall hV hF
    rw [hF.full hok hall]
    exact hend x w hS (fun j hj hn => hV j hj (hall j) (fun i hi _ => hn i hi))
  intro fuel
  induction fuel with
  | zero =>
    intro listed a x w hsz hdc hu hS hV hF
    have hall : ∀ j, j < ops.size → listed.getD j false = true := fun j hj => unl_zero (by omega) j (by omega)
    refine ⟨?_, hfin listed a x w hS hall hV hF⟩
    cases hr : Region.ready .any ops listed with
    | nil => rfl
    | cons i rs =>
      exfalso
      have hm : i ∈ Region.ready .any ops listed := by rw [hr]; exact List.mem_cons_self
      obtain ⟨h0, o, ho, _⟩ := mem_ready.1 hm
      have hi := (Array.getElem?_eq_some_iff.1 ho).1
      have := hall i hi
      rw [getD_tf (by omega) false true, h0] at this
      cases this
  | succ fuel ih =>
    intro listed a x w hsz hdc hu hS hV hF
    refine ⟨fun hr => hfin listed a x w hS ?_ hV hF, fun i hi => ?_⟩
    · intro j
      induction j using Nat.strongRecOn with
      | ind j ihj =>
        intro hj
        cases hl : listed.getD j false with
        | true => rfl
        | false =>
          exfalso
          have hm : j ∈ Region.ready .any ops listed := by
            refine mem_ready.2 ⟨by rw [getD_tf (by omega) true false]; exact hl, ops[j], Array.getElem?_eq_getElem hj, fun e he hb => ?_⟩
            have hd := (dirs_mem (Array.getElem?_eq_getElem hj)).2 ⟨e, he, hb, rfl⟩
            have hlt := hok.back j e.on hj hd
            exact ihj e.on hlt (by omega)
          rw [hr] at hm
          cases hm
    · obtain ⟨h0, o, ho, hall⟩ := mem_ready.1 hi
      have hin := (Array.getElem?_eq_some_iff.1 ho).1
      have hun : listed.getD i false = false := by rw [getD_tf (by omega) false true]; exact h0
      have hdi : ∀ e ∈ dirs ops i, listed.getD e false = true := fun e he => by
        obtain ⟨g, h1, h2, h3⟩ := (dirs_mem ho).1 he
        rw [← h3]; exact hall g h1 h2
      have hdl : ∀ e ∈ dirs ops i, e < ops.size := fun e he => Nat.lt_trans (hok.back i e hin he) hin
      have hds : o.dst = ds.getD i none := by
        rw [hok.ds_, List.getD_eq_getElem?_getD, List.getElem?_map, Array.getElem?_toList, ho]; rfl
      have hpre : ∀ j ∈ js.getD i [], V j (x j) w := fun j hj => by
        have hjd := hok.sub i j hin hj
        refine hV j (hjs i j hin hj) (fun hjn => hdi j (hjd.resolve_right (by omega))) (fun k hk hkl hjk => ?_)
        rcases hok.eats i k j hin hk hjk hj with e | e
        · subst e
          rw [hun] at hkl; cases hkl
        · have := hdc k hk hkl i e
          rw [hun] at this; cases this
      have hst := hstep i hin x w hS (AllV.of _ hpre)
      have hz := putsOf_size ds x (js.getD i []) a0
      have hmv := StepV.move (Q := Q) (a := a) ho (Region.noSelect_spec hok.sel i o · · ho) (hF.size.trans hz.1.symm) (fun t ht => ?_) hst
      · refine wpOp_mono (fun a' w' h => ?_) hmv
        obtain ⟨v, rfl, hS', hVi, hpr⟩ := h
        rw [hds]
        refine ih (listed.setIfInBounds i true) _ (fun j => if j = i then v else x j) w' (by simpa using hsz) ?_ ?_ hS' ?_ (hF.step hok hin hsz hun)
        · intro j hj hl e he
          refine (set_getD (by omega)).2 (.inr ?_)
          rcases (set_getD (by omega)).1 hl with e2 | e2
          · subst e2; exact hdi e he
          · exact hdc j hj e2 e he
        · have := unl_set (by omega) hun
          omega
        · intro j hjN hl hn
          by_cases e : j = i
          · subst e
            simpa using hVi
          · simp only [if_neg e]
            have hps : j ∈ ps.getD i [] := by
              rcases hok.pres i j hin hjN with e2 | e2 | e2 | e2 | ⟨k, hk, e2⟩
              · exact absurd e2.symm e
              · exact e2
              · exact absurd e2 (hn i hin ((set_getD (by omega)).2 (.inl rfl)))
              · exfalso
                by_cases hjn : j < ops.size
                · have := hdc j hjn (((set_getD (by omega)).1 (hl hjn)).resolve_left e) i e2
                  rw [hun] at this; cases this
                · unfold dirs at e2
                  rw [Array.getElem?_eq_none (by omega)] at e2
                  cases e2
              · exact absurd e2 (hn k (hdl k hk) ((set_getD (by omega)).2 (.inr (hdi k hk))))
            refine hpr.get j hps _ ?_
            exact hV j hjN (fun hj => ((set_getD (by omega)).1 (hl hj)).resolve_left e) (fun k hk hkl => hn k hk ((set_getD (by omega)).2 (.inr hkl)))
      · have hnone : ∀ k, ops.size ≤ k → ds.getD k none = none := fun k hk => by
          rw [List.getD_eq_getElem?_getD, List.getElem?_eq_none (by rw [hok.ds_]; simpa using hk)]; rfl
        have hget : (ops.getD i default) = o := by
          rw [Array.getD_eq_getD_getElem?, ho]; rfl
        by_cases hsz2 : t < a0.tmps.size
        · by_cases hex : ∃ j, j < ops.size ∧ listed.getD j false = true ∧ ds.getD j none = some t
          · obtain ⟨j, hj, hl, hd⟩ := hex
            rw [hF.put j t hj hl hd hsz2]
            rcases hok.looks i j t hin hj hd (by rw [hget]; exact ht) with e | e | e
            · subst e; rw [hun] at hl; cases hl
            · refine (putsOf_new ds x t j _ a0 (fun k hk e2 => ?_) e hd hsz2).symm
              rcases hok.sub i k hin hk with e3 | e3
              · exact hok.one k j t (hdl k e3) hj hd e2
              · rw [hnone k e3] at e2; cases e2
            · have := hdc j hj hl i e
              rw [hun] at this; cases this
          · rw [hF.old t (fun j hj hl e => hex ⟨j, hj, hl, e⟩)]
            refine (putsOf_old ds x t _ a0 (fun j hj e => ?_)).symm
            rcases hok.sub i j hin hj with e3 | e3
            · exact hex ⟨j, hdl j e3, hdi j e3, e⟩
            · rw [hnone j e3] at e; cases e
        · rw [Array.getElem?_eq_none (by rw [hF.size]; exact Nat.le_of_not_lt hsz2), Array.getElem?_eq_none (by rw [hz.1]; exact Nat.le_of_not_lt hsz2)]
/-- What is asked of each operation. -/
def RelyStep (P : Program) (ops : Array Oper) (ds : List (Option Tmp)) (js ps : List (List Nat)) (a0 : Act) (S : World → Prop) (V : Nat → Value → World → Prop) (i : Nat) : Prop :=
  ∀ (x : Nat → Value) (w : World), S w → AllV V x w (js.getD i []) → StepV P ops i (putsOf ds x a0 (js.getD i [])) w (fun v w' => S w' ∧ V i v w' ∧ AllP V w w' (ps.getD i []))
def RelySteps (P : Program) (ops : Array Oper) (ds : List (Option Tmp)) (js ps : List (List Nat)) (a0 : Act) (S : World → Prop) (V : Nat → Value → World → Prop) (is : List Nat) : Prop :=
  ∀ i ∈ is, RelyStep P ops ds js ps a0 S V i
theorem RelySteps.nil {ds : List (Option Tmp)} {js ps : List (List Nat)} {a0 : Act} {S : World → Prop} {V : Nat → Value → World → Prop} : RelySteps P ops ds js ps a0 S V [] := fun _ h => by cases h
/-- One operation: J, D, K: what it looks at, their temporaries, what it keeps. -/
theorem RelySteps.cons {ds : List (Option Tmp)} {js ps : List (List Nat)} {a0 : Act} {S : World → Prop} {V : Nat → Value → World → Prop} {i : Nat} {is : List Nat} (h : RelyStep P ops ds js ps a0 S V i)
    (hs : RelySteps P ops ds js ps a0 S V is) : RelySteps P ops ds js ps a0 S V (i :: is) := fun k hk => by
  rcases List.mem_cons.1 hk with rfl | hk
  · exact h
  · exact hs k hk
theorem RelyStep.mk {ds : List (Option Tmp)} {js ps : List (List Nat)} {a0 : Act} {S : World → Prop} {V : Nat → Value → World → Prop} {i : Nat} {o : Oper} (J K : List Nat) (ho : ops[i]? = some o) (hJ : js.getD i [] = J) (hK : ps.getD i [] = K)
    (h : ∀ (x : Nat → Value) (w : World), S w → AllV V x w J → ∀ (b : Act), b = putsOf ds x a0 J → ∀ K' : Act → World → Prop, Shut (∀ a' w', (∃ v, a' = b.put o.dst v ∧ S w' ∧ V i v w' ∧ AllP V w w' K) → K' a' w') →
      if Region.wanted o (yielded ops b.tmps) = true then Oper.wp P o b w K' QF else K' (b.put o.dst undef) w) : RelyStep P ops ds js ps a0 S V i := by
  intro x w hS hV
  rw [hJ] at hV ⊢
  rw [hK]
  exact StepV.mk ho (fun K' hK' => h x w hS hV _ rfl K' hK')
/-- THE REGION. -/
theorem wp_region_rely {id : Nat} {a0 : Act} {w : World} {Q : Exit → Act → World → Prop} (S : World → Prop) (V : Nat → Value → World → Prop) (ds : List (Option Tmp)) (js es ps : List (List Nat)) (is : List Nat) (N : Nat) (hm : P.follows .mixedOrders = true)
    (hok : relyB ops ds js es ps N = true) (hjs : js.all (fun l => l.all (fun j => decide (j < N))) = true) (his : List.range ops.size = is) (hS : S w.drew) (hI : ∀ j, j < N → ops.size ≤ j → V j undef w.drew) (hsteps : RelySteps P ops ds js ps a0 S V is)
    (hend : ∀ (x : Nat → Value) (w : World), S w → (∀ j, j < N → (is.all fun i => !(es.getD i []).contains j) = true → V j (x j) w) → Q .normal (putsOf ds x a0 is) w) : (Code.region id ops true).wp P Q a0 w := by
  subst his
  have hjs2 : ∀ i j, i < ops.size → j ∈ js.getD i [] → j < N := fun i j _ hj => by
    rw [List.getD_eq_getElem?_getD] at hj
    cases hg : js[i]? with
    | none => rw [hg] at hj; cases hj
    | some l =>
      rw [hg] at hj
      have := List.all_eq_true.1 (List.all_eq_true.1 hjs l (List.mem_of_getElem? hg)) j hj
      simpa using this
  refine wp_region_any hm (wpAny_rely (Rely.of hok) hjs2 (fun i hi => hsteps i (List.mem_range.2 hi)) (fun x w h1 h2 => hend x w h1 (fun j hj hn => h2 j hj (fun i hi hc => ?_))) ops.size _ a0 (fun _ => undef) _ (by simp) (fun j hj h => ?_) ?_ hS (fun j hj h hn => ?_) ⟨rfl, rfl, fun j t hj h => ?_, fun _ _ => rfl⟩)
  · have := List.all_eq_true.1 hn i (List.mem_range.2 hi)
    rw [List.contains_iff_mem.2 hc] at this
    cases this
  · simp [hj] at h
  · unfold unl
    refine Nat.le_trans List.countP_le_length (by simp)
  · refine hI j hj (Nat.le_of_not_lt fun hj => ?_)
    have := h hj
    simp [hj] at this
  · simp [hj] at h
end
end Go.Proofs.Ytiegmpjoiekekaa
