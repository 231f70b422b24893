/-
  A region that draws its order, told operation by operation, where what is kept speaks of all values that are there: which of them lie apart.
-/
import Derived.Test.YtiegmpjoiekekaaRely
namespace Go.Proofs.Ytiegmpjoiekekaa
open Go.RowKit
set_option linter.unusedVariables false
set_option linter.unusedSimpArgs false
section
variable {P : Program} {ops : Array Oper}
def updX (x : Nat → Value) (i : Nat) (v : Value) : Nat → Value := fun j => if j = i then v else x j
def updL (L : Nat → Bool) (i : Nat) : Nat → Bool := fun j => (j == i) || L j
theorem updL_set {listed : Array Bool} {i : Nat} (hi : i < listed.size) : updL (fun k => listed.getD k false) i = fun k => (listed.setIfInBounds i true).getD k false := by
  funext k
  unfold updL
  rw [Bool.eq_iff_iff, Bool.or_eq_true, beq_iff_eq, set_getD hi]
theorem none_listed {n : Nat} : (fun k => (Array.replicate n false).getD k false) = fun _ => false := by
  funext k
  by_cases h : k < n
  · simp [h]
  · simp [h]
/-- Some facts are kept, of the values that are there. -/
def AllPX (V : Nat → Value → World → Prop) (x : Nat → Value) (L : Nat → Bool) (w w' : World) : List Nat → Prop
  | [] => True
  | j :: l => ((j < ops.size → L j = true) → V j (x j) w → V j (x j) w') ∧ AllPX V x L w w' l
theorem AllPX.get {V : Nat → Value → World → Prop} {x : Nat → Value} {L : Nat → Bool} {w w' : World} : ∀ {l : List Nat}, AllPX (ops := ops) V x L w w' l → ∀ j ∈ l, (j < ops.size → L j = true) → V j (x j) w → V j (x j) w'
  | [], _, _, h => by cases h
  | k :: l, h, j, hj => by
    rcases List.mem_cons.1 hj with rfl | hj
    · exact h.1
    · exact h.2.get j hj
theorem AllPX.same {V : Nat → Value → World → Prop} {x : Nat → Value} {L : Nat → Bool} {w : World} : ∀ (l : List Nat), AllPX (ops := ops) V x L w w l
  | [] => trivial
  | _ :: l => ⟨fun _ h => h, AllPX.same l⟩
theorem AllPX.of {V : Nat → Value → World → Prop} {x : Nat → Value} {L : Nat → Bool} {w w' : World} : ∀ (l : List Nat), (∀ j ∈ l, (j < ops.size → L j = true) → V j (x j) w → V j (x j) w') → AllPX (ops := ops) V x L w w' l
  | [], _ => trivial
  | k :: l, h => ⟨h k List.mem_cons_self, AllPX.of l (fun j hj => h j (List.mem_cons_of_mem _ hj))⟩
theorem wpAny_relyx {ds : List (Option Tmp)} {js es ps : List (List Nat)} {N : Nat} {Q : Exit → Act → World → Prop} {a0 : Act} {S : (Nat → Value) → (Nat → Bool) → World → Prop} {V : Nat → Value → World → Prop} (hok : Rely ops ds js es ps N)
    (hjs : ∀ i j, i < ops.size → j ∈ js.getD i [] → j < N) (hstep : ∀ i, i < ops.size → ∀ (x : Nat → Value) (L : Nat → Bool) (w : World), S x L w → L i = false → AllV V x w (js.getD i []) → (∀ e ∈ dirs ops i, L e = true) →
      StepV P ops i (putsOf ds x a0 (js.getD i [])) w (fun v w' => S (updX x i v) (updL L i) w' ∧ V i v w' ∧ AllPX (ops := ops) V x L w w' (ps.getD i [])))
    (hend : ∀ (x : Nat → Value) (L : Nat → Bool) (w : World), S x L w → (∀ j, j < ops.size → L j = true) → (∀ j, j < N → (∀ i, i < ops.size → j ∉ es.getD i []) → V j (x j) w) → Q .normal (putsOf ds x a0 (List.range ops.size)) w) :
    ∀ (fuel : Nat) (listed : Array Bool) (a : Act) (x : Nat → Value) (w : World), listed.size = ops.size → (∀ j, j < ops.size → listed.getD j false = true → ∀ e ∈ dirs ops j, listed.getD e false = true) → unl listed ≤ fuel → S x (fun k => listed.getD k false) w →
      (∀ j, j < N → (j < ops.size → listed.getD j false = true) → (∀ i, i < ops.size → listed.getD i false = true → j ∉ es.getD i []) → V j (x j) w) → FrV ops ds a0 x listed a → wpAny P .any ops Q fuel listed a w := by
  have hfin : ∀ (listed : Array Bool) (a : Act) (x : Nat → Value) (w : World), S x (fun k => listed.getD k false) w → (∀ j, j < ops.size → listed.getD j false = true) →
      (∀ j, j < N → (j < ops.size → listed.getD j false = true) → (∀ i, i < ops.size → listed.getD i false = true → j ∉ es.getD i []) → V j (x j) w) → FrV ops ds a0 x listed a → Q .normal a w := by
    intro listed a x w hS hall hV hF
    rw [hF.full hok hall]
    exact hend x _ w hS hall (fun j hj hn => hV j hj (hall j) (fun i hi _ => hn i hi))
  intro fuel
  induction fuel with
  | zero =>
    intro listed a x w hsz hdc hu hS hV hF
    have hall : ∀ j, j < ops.size → listed.getD j false = true := fun j hj => unl_zero (by omega) j (by omega)
    refine ⟨?_, hfin listed a x w hS hall hV hF⟩
    cases hr : Region.ready .any ops listed with
    | nil => rfl
    | cons i rs =>
      exfalso
      have hm : i ∈ Region.ready .any ops listed := by rw [hr]; exact List.mem_cons_self
      obtain ⟨h0, o, ho, _⟩ := mem_ready.1 hm
      have hi := (Array.getElem?_eq_some_iff.1 ho).1
      have := hall i hi
      rw [getD_tf (by omega) false true, h0] at this
      cases this
  | succ fuel ih =>
    intro listed a x w hsz hdc hu hS hV hF
    refine ⟨fun hr => hfin listed a x w hS ?_ hV hF, fun i hi => ?_⟩
    · intro j
      induction j using Nat.strongRecOn with
      | ind j ihj =>
        intro hj
        cases hl : listed.getD j false with
        | true => rfl
        | false =>
          exfalso
          have hm : j ∈ Region.ready .any ops listed := by
            refine mem_ready.2 ⟨by rw [getD_tf (by omega) true false]; exact hl, ops[j], Array.getElem?_eq_getElem hj, fun e he hb => ?_⟩
            have hd := (dirs_mem (Array.getElem?_eq_getElem hj)).2 ⟨e, he, hb, rfl⟩
            have hlt := hok.back j e.on hj hd
            exact ihj e.on hlt (by omega)
          rw [hr] at hm
          cases hm
    · obtain ⟨h0, o, ho, hall⟩ := mem_ready.1 hi
      have hin := (Array.getElem?_eq_some_iff.1 ho).1
      have hun : listed.getD i false = false := by rw [getD_tf (by omega) false true]; exact h0
      have hdi : ∀ e ∈ dirs ops i, listed.getD e false = true := fun e he => by
        obtain ⟨g, h1, h2, h3⟩ := (dirs_mem ho).1 he
        rw [← h3]; exact hall g h1 h2
      have hdl : ∀ e ∈ dirs ops i, e < ops.size := fun e he => Nat.lt_trans (hok.back i e hin he) hin
      have hds : o.dst = ds.getD i none := by
        rw [hok.ds_, List.getD_eq_getElem?_getD, List.getElem?_map, Array.getElem?_toList, ho]; rfl
      have hpre : ∀ j ∈ js.getD i [], V j (x j) w := fun j hj => by
        have hjd := hok.sub i j hin hj
        refine hV j (hjs i j hin hj) (fun hjn => hdi j (hjd.resolve_right (by omega))) (fun k hk hkl hjk => ?_)
        rcases hok.eats i k j hin hk hjk hj with e | e
        · subst e
          rw [hun] at hkl; cases hkl
        · have := hdc k hk hkl i e
          rw [hun] at this; cases this
      have hst := hstep i hin x _ w hS hun (AllV.of _ hpre) hdi
      have hz := putsOf_size ds x (js.getD i []) a0
      have hmv := StepV.move (Q := Q) (a := a) ho (Region.noSelect_spec hok.sel i o · · ho) (hF.size.trans hz.1.symm) (fun t ht => ?_) hst
      · refine wpOp_mono (fun a' w' h => ?_) hmv
        obtain ⟨v, rfl, hS', hVi, hpr⟩ := h
        rw [hds]
        refine ih (listed.setIfInBounds i true) _ (fun j => if j = i then v else x j) w' (by simpa using hsz) ?_ ?_ (by rw [updL_set (by omega)] at hS'; exact hS') ?_ (hF.step hok hin hsz hun)
        · intro j hj hl e he
          refine (set_getD (by omega)).2 (.inr ?_)
          rcases (set_getD (by omega)).1 hl with e2 | e2
          · subst e2; exact hdi e he
          · exact hdc j hj e2 e he
        · have := unl_set (by omega) hun
          omega
        · intro j hjN hl hn
          by_cases e : j = i
          · subst e
            simpa using hVi
          · simp only [if_neg e]
            have hps : j ∈ ps.getD i [] := by
              rcases hok.pres i j hin hjN with e2 | e2 | e2 | e2 | ⟨k, hk, e2⟩
              · exact absurd e2.symm e
              · exact e2
              · exact absurd e2 (hn i hin ((set_getD (by omega)).2 (.inl rfl)))
              · exfalso
                by_cases hjn : j < ops.size
                · have := hdc j hjn (((set_getD (by omega)).1 (hl hjn)).resolve_left e) i e2
                  rw [hun] at this; cases this
                · unfold dirs at e2
                  rw [Array.getElem?_eq_none (by omega)] at e2
                  cases e2
              · exact absurd e2 (hn k (hdl k hk) ((set_getD (by omega)).2 (.inr (hdi k hk))))
            refine hpr.get j hps (fun hjo => ?_) ?_
            · exact ((set_getD (by omega)).1 (hl hjo)).resolve_left e
            exact hV j hjN (fun hj => ((set_getD (by omega)).1 (hl hj)).resolve_left e) (fun k hk hkl => hn k hk ((set_getD (by omega)).2 (.inr hkl)))
      · have hnone : ∀ k, ops.size ≤ k → ds.getD k none = none := fun k hk => by
          rw [List.getD_eq_getElem?_getD, List.getElem?_eq_none (by rw [hok.ds_]; simpa using hk)]; rfl
        have hget : (ops.getD i default) = o := by
          rw [Array.getD_eq_getD_getElem?, ho]; rfl
        by_cases hsz2 : t < a0.tmps.size
        · by_cases hex : ∃ j, j < ops.size ∧ listed.getD j false = true ∧ ds.getD j none = some t
          · obtain ⟨j, hj, hl, hd⟩ := hex
            rw [hF.put j t hj hl hd hsz2]
            rcases hok.looks i j t hin hj hd (by rw [hget]; exact ht) with e | e | e
            · subst e; rw [hun] at hl; cases hl
            · refine (putsOf_new ds x t j _ a0 (fun k hk e2 => ?_) e hd hsz2).symm
              rcases hok.sub i k hin hk with e3 | e3
              · exact hok.one k j t (hdl k e3) hj hd e2
              · rw [hnone k e3] at e2; cases e2
            · have := hdc j hj hl i e
              rw [hun] at this; cases this
          · rw [hF.old t (fun j hj hl e => hex ⟨j, hj, hl, e⟩)]
            refine (putsOf_old ds x t _ a0 (fun j hj e => ?_)).symm
            rcases hok.sub i j hin hj with e3 | e3
            · exact hex ⟨j, hdl j e3, hdi j e3, e⟩
            · rw [hnone j e3] at e; cases e
        · rw [Array.getElem?_eq_none (by rw [hF.size]; exact Nat.le_of_not_lt hsz2), Array.getElem?_eq_none (by rw [hz.1]; exact Nat.le_of_not_lt hsz2)]
/-- What is asked of each operation. -/
def RelyStepX (P : Program) (ops : Array Oper) (ds : List (Option Tmp)) (js ps : List (List Nat)) (a0 : Act) (S : (Nat → Value) → (Nat → Bool) → World → Prop) (V : Nat → Value → World → Prop) (i : Nat) : Prop :=
  ∀ (x : Nat → Value) (L : Nat → Bool) (w : World), S x L w → L i = false → AllV V x w (js.getD i []) → (∀ e ∈ dirs ops i, L e = true) → StepV P ops i (putsOf ds x a0 (js.getD i [])) w (fun v w' => S (updX x i v) (updL L i) w' ∧ V i v w' ∧ AllPX (ops := ops) V x L w w' (ps.getD i []))
def RelyStepsX (P : Program) (ops : Array Oper) (ds : List (Option Tmp)) (js ps : List (List Nat)) (a0 : Act) (S : (Nat → Value) → (Nat → Bool) → World → Prop) (V : Nat → Value → World → Prop) (is : List Nat) : Prop :=
  ∀ i ∈ is, RelyStepX P ops ds js ps a0 S V i
theorem RelyStepsX.nil {ds : List (Option Tmp)} {js ps : List (List Nat)} {a0 : Act} {S : (Nat → Value) → (Nat → Bool) → World → Prop} {V : Nat → Value → World → Prop} : RelyStepsX P ops ds js ps a0 S V [] := fun _ h => by cases h
/-- One operation: J, D, K: what it looks at, their temporaries, what it keeps. -/
theorem RelyStepsX.cons {ds : List (Option Tmp)} {js ps : List (List Nat)} {a0 : Act} {S : (Nat → Value) → (Nat → Bool) → World → Prop} {V : Nat → Value → World → Prop} {i : Nat} {is : List Nat} (h : RelyStepX P ops ds js ps a0 S V i)
    (hs : RelyStepsX P ops ds js ps a0 S V is) : RelyStepsX P ops ds js ps a0 S V (i :: is) := fun k hk => by
  rcases List.mem_cons.1 hk with rfl | hk
  · exact h
  · exact hs k hk
theorem RelyStepX.mk {ds : List (Option Tmp)} {js ps : List (List Nat)} {a0 : Act} {S : (Nat → Value) → (Nat → Bool) → World → Prop} {V : Nat → Value → World → Prop} {i : Nat} {o : Oper} (J K : List Nat) (ho : ops[i]? = some o) (hJ : js.getD i [] = J) (hK : ps.getD i [] = K)
    (h : ∀ (x : Nat → Value) (L : Nat → Bool) (w : World), S x L w → L i = false → (∀ e ∈ dirs ops i, L e = true) → AllV V x w J → ∀ (b : Act), b = putsOf ds x a0 J → ∀ K' : Act → World → Prop, Shut (∀ a' w', (∃ v, a' = b.put o.dst v ∧ S (updX x i v) (updL L i) w' ∧ V i v w' ∧ AllPX (ops := ops) V x L w w' K) → K' a' w') →
      if Region.wanted o (yielded ops b.tmps) = true then Oper.wp P o b w K' QF else K' (b.put o.dst undef) w) : RelyStepX P ops ds js ps a0 S V i := by
  intro x L w hS hL hV hd
  rw [hJ] at hV ⊢
  rw [hK]
  exact StepV.mk ho (fun K' hK' => h x L w hS hL hd hV _ rfl K' hK')
/-- THE REGION. -/
theorem wp_region_relyx {id : Nat} {a0 : Act} {w : World} {Q : Exit → Act → World → Prop} (S : (Nat → Value) → (Nat → Bool) → World → Prop) (V : Nat → Value → World → Prop) (ds : List (Option Tmp)) (js es ps : List (List Nat)) (is : List Nat) (N : Nat) (hm : P.follows .mixedOrders = true)
    (hok : relyB ops ds js es ps N = true) (hjs : js.all (fun l => l.all (fun j => decide (j < N))) = true) (his : List.range ops.size = is) (hS : S (fun _ => undef) (fun _ => false) w.drew) (hI : ∀ j, j < N → ops.size ≤ j → V j undef w.drew) (hsteps : RelyStepsX P ops ds js ps a0 S V is)
    (hend : ∀ (x : Nat → Value) (L : Nat → Bool) (w : World), S x L w → (∀ j, j < ops.size → L j = true) → (∀ j, j < N → (is.all fun i => !(es.getD i []).contains j) = true → V j (x j) w) → Q .normal (putsOf ds x a0 is) w) : (Code.region id ops true).wp P Q a0 w := by
  subst his
  have hjs2 : ∀ i j, i < ops.size → j ∈ js.getD i [] → j < N := fun i j _ hj => by
    rw [List.getD_eq_getElem?_getD] at hj
    cases hg : js[i]? with
    | none => rw [hg] at hj; cases hj
    | some l =>
      rw [hg] at hj
      have := List.all_eq_true.1 (List.all_eq_true.1 hjs l (List.mem_of_getElem? hg)) j hj
      simpa using this
  refine wp_region_any hm (wpAny_relyx (Rely.of hok) hjs2 (fun i hi => hsteps i (List.mem_range.2 hi)) (fun x L w h1 hL h2 => hend x L w h1 hL (fun j hj hn => h2 j hj (fun i hi hc => ?_))) ops.size _ a0 (fun _ => undef) _ (by simp) (fun j hj h => ?_) ?_ (by rw [none_listed]; exact hS) (fun j hj h hn => ?_) ⟨rfl, rfl, fun j t hj h => ?_, fun _ _ => rfl⟩)
  · have := List.all_eq_true.1 hn i (List.mem_range.2 hi)
    rw [List.contains_iff_mem.2 hc] at this
    cases this
  · simp [hj] at h
  · unfold unl
    refine Nat.le_trans List.countP_le_length (by simp)
  · refine hI j hj (Nat.le_of_not_lt fun hj => ?_)
    have := h hj
    simp [hj] at this
  · simp [hj] at h
end
end Go.Proofs.Ytiegmpjoiekekaa
