import Derived.WalkKit
import Derived.ProofKit
import Derived.Lib.Hide
import Derived.Lib.AppendStr
import Derived.Lib.SlBytesRow
import Derived.Laws.AppendOwnNone
import Derived.Deep.AppendLies
import Derived.Deep.Draws
import Derived.BigQuiet
import Derived.Deep.QuietTactic
import Derived.Deep.RegionWith
import Derived.OpenShut
import Derived.Outline
import Derived.Deep.Slices
import Derived.ChangeSame
import Derived.Laws.IdiomStrings
import Derived.SliceStrings
import Derived.Laws.DeepStrings4
import Derived.SizedLaws
import Derived.Laws.OwnMore
import Derived.Test.YtcpgneimagmknaaGreatDoorRows
import Derived.Deep.DeepCutAuto
import Derived.Lib.LaidTab
import Derived.Lib.BufferRead
import Derived.Deep.OwnRows
import Derived.Laws.StructEq
import Derived.Test.YtcpgneimagmknaaGreatDoorShelf
import Derived.Lib.ItoaMem
import Derived.Lib.AppendIntMem
import Derived.Lib.Walk
import Derived.BigCall
import Derived.BigGuard
import Derived.Test.YtcpgneimagmknaaGreatDoorCards
import Derived.Test.YtcpgneimagmknaaGreatDoorTie
import Derived.Deep.DeepHandedRow
import Derived.Deep.DeepWitnessRowRef
import Derived.Deep.DeepLaidRun
import Derived.Lib.LaidU8
import Derived.Shelf.Vars
import Derived.Deep.RegionHeld3
import Derived.IntWalk
import Derived.Laws.BitsAllLaws
import Derived.Laws.Bits64
import Derived.Laws.Bits64b
import Derived.Deep.RegionHeld
import Derived.ShutString
import Derived.ChangeOld
import Derived.Below
import Derived.Test.YtcpgneimagmknaaGreatDoorZz8
namespace Go.Proofs.YtcpgneimagmknaaGreatDoor
open Go.RowKit
set_option linter.unusedVariables false
set_option linter.unusedSimpArgs false
section
variable {P : Program} {W : World} {H : Type} {enc : TypeId × Value → H}
theorem argSlice_of {t e : TypeId} {a : Option Addr} {len cap sz : Nat} {d : DataW H} {p : List MemPlace} (ht : P.underlying t = some (.slice e)) (hc : P.cellsOf e = sz) (hsz : 0 < sz)
  (h : DataW.Trod enc P W 0 (fun _ => true) true t (.slice a len cap) d p) :
  len ≤ cap ∧ cap ≤ maxLen ∧ ∃ rows : Nat → List Value, ∀ i, i < len → (rows i).length = sz ∧ (∃ n y, DataW.trod enc P W 0 (fun _ => true) true n e (rows i) = some y) ∧
   ∃ b off, a = some ⟨b, off, none⟩ ∧ b < W.heap.size ∧ ∀ j, j < sz → W.cell? ⟨b, off + i * sz + j, none⟩ = (rows i)[j]? := by
 obtain ⟨fuel, hf⟩ := h
 rcases Deep.open_slice ht hf with ⟨hcs, _⟩ | ⟨x, l, c, m, n, D, Pl, hcs, _, hl, hm, hmm, _, hx⟩
 ·simp [Value.cells] at hcs
  obtain ⟨rfl, rfl, rfl⟩ := hcs
  exact ⟨by omega, by unfold maxLen; omega, fun _ => [], fun i hi => by omega⟩
 ·simp [Value.cells] at hcs
  obtain ⟨rfl, rfl, rfl⟩ := hcs
  simp at hmm
  subst hmm
  refine ⟨hl, hm, ?_⟩
  obtain ⟨rows, hr⟩ := Deep.choose_lt (α := List Value) (n := len) (p := fun i cs => W.cells? 0 (x.add (i * P.cellsOf e)) (P.cellsOf e) = some cs ∧ DataW.trod enc P W 0 (fun _ => true) true n e cs = some (D i, Pl i)) (fun i hi => hx i (by omega))
  refine ⟨rows, fun i hi => ?_⟩
  obtain ⟨h1, h2⟩ := hr i hi
  obtain ⟨h01, _⟩ := hr 0 (by omega)
  rw [hc] at h1 h01
  obtain ⟨_, g2, g3⟩ := World.cells?_some h1
  obtain ⟨_, g02, g03⟩ := World.cells?_some h01
  have z := g03 0 hsz
  rw [List.getElem?_eq_getElem (by omega), Nat.zero_mul] at z
  obtain ⟨b, off, spot⟩ := x
  have hlt := World.block_lt_of_cell? W _ z
  have hs := World.cell?_spot z
  simp [Addr.add] at hlt hs
  subst hs
  refine ⟨g2, ⟨n, _, h2⟩, b, off, rfl, hlt, fun j hj => ?_⟩
  have := g3 j hj
  rwa [addr_plus, addr_plus] at this
end
theorem owns_drew {w : World} {B : Nat} {e : TypeId} {size n : Nat} {v : Value} {xs : List Value} (h : w.ownsRow B e size v n xs) : w.drew.ownsRow B e size v n xs := h
theorem flat_length {rows : Nat → List Value} {sz : Nat} : ∀ n, (∀ i, i < n → (rows i).length = sz) → ((List.range n).flatMap rows).length = n * sz
 | 0, _ => by simp
 | n + 1, h => by
  rw [List.range_succ, List.flatMap_append, List.length_append, flat_length n (fun i hi => h i (by omega))]
  simp [h n (by omega), Nat.add_mul]
theorem flat_get {rows : Nat → List Value} {sz : Nat} : ∀ n, (∀ i, i < n → (rows i).length = sz) → ∀ i j, i < n → j < sz → ((List.range n).flatMap rows)[i * sz + j]? = (rows i)[j]?
 | 0, _, i, j, hi, _ => by omega
 | n + 1, h, i, j, hi, hj => by
  have hl := flat_length n (fun i hi => h i (by omega))
  rw [List.range_succ, List.flatMap_append]
  by_cases e : i = n
  ·subst e
   rw [List.getElem?_append_right (by omega), hl, Nat.add_sub_cancel_left]
   simp
  ·have hm : i * sz + sz ≤ n * sz := by
    have := Nat.mul_le_mul_right sz (show i + 1 ≤ n by omega)
    rw [Nat.add_mul] at this; omega
   rw [List.getElem?_append_left (by omega)]
   exact flat_get n (fun i hi => h i (by omega)) i j (by omega) hj
section
variable {P : Program} {W : World} {H : Type} {enc : TypeId × Value → H}
theorem argRows {t e : TypeId} {a : Option Addr} {len cap sz : Nat} {d : DataW H} {p : List MemPlace} (ht : P.underlying t = some (.slice e)) (hc : P.cellsOf e = sz) (hsz : 0 < sz)
  (h : DataW.Trod enc P W 0 (fun _ => true) true t (.slice a len cap) d p) :
  (a = none → len = 0 ∧ cap = 0) ∧ ∃ rows : Nat → List Value, (∀ i, i < len → (rows i).length = sz ∧ ∃ n y, DataW.trod enc P W 0 (fun _ => true) true n e (rows i) = some y) ∧ SeqS W sz (.slice a len cap) len ((List.range len).flatMap rows) := by
 have hn : a = none → len = 0 ∧ cap = 0 := by
  obtain ⟨fuel, hf⟩ := h
  rcases Deep.open_slice ht hf with ⟨hcs, _⟩ | ⟨x, l, c, m, n, D, Pl, hcs, _⟩
  ·simp [Value.cells] at hcs
   exact fun _ => hcs.2
  ·simp [Value.cells] at hcs
   intro ha; rw [ha] at hcs; exact absurd hcs.1 (by simp)
 obtain ⟨h1, h2, rows, hr⟩ := argSlice_of ht hc hsz h
 refine ⟨hn, rows, fun i hi => ⟨(hr i hi).1, (hr i hi).2.1⟩, ?_⟩
 have hl := flat_length (rows := rows) (sz := sz) len (fun i hi => (hr i hi).1)
 refine ⟨hl, a, cap, rfl, h1, h2, fun ha => (hn ha).2, fun k u hu => ?_⟩
 have hk : k < len * sz := by rw [← hl]; exact (List.getElem?_eq_some_iff.1 hu).1
 have hi : k / sz < len := (Nat.div_lt_iff_lt_mul hsz).2 hk
 have hj : k % sz < sz := Nat.mod_lt _ hsz
 have hkk : k / sz * sz + k % sz = k := by rw [Nat.mul_comm]; exact Nat.div_add_mod k sz
 have hg := flat_get (rows := rows) (sz := sz) len (fun i hi => (hr i hi).1) (k / sz) (k % sz) hi hj
 rw [hkk, hu] at hg
 obtain ⟨_, _, b, off, ea, _, hc⟩ := hr (k / sz) hi
 refine ⟨b, off, ea, ?_⟩
 have := hc (k % sz) hj
 rw [Nat.add_assoc, hkk] at this
 rw [this, ← hg]
end
theorem flatMap_congr_range {α : Type} {f g : Nat → List α} : ∀ n, (∀ i, i < n → f i = g i) → (List.range n).flatMap f = (List.range n).flatMap g
 | 0, _ => rfl
 | n + 1, h => by
  rw [List.range_succ, List.flatMap_append, List.flatMap_append, flatMap_congr_range n (fun i hi => h i (by omega))]
  simp [h n (by omega)]
section
variable {α : Type} {f : α → List Value} {sz : Nat}
theorem rowsOf_mem {l : List α} {u : Value} (h : u ∈ rowsOf f l) : ∃ x ∈ l, u ∈ f x := List.mem_flatMap.1 h
theorem range_rows (g : Nat → α) (n : Nat) : (List.range n).flatMap (fun i => f (g i)) = rowsOf f ((List.range n).map g) := by unfold rowsOf; rw [List.flatMap_map]
end
section
variable {P : Program} {W : World} {H : Type} {enc : TypeId × Value → H}
def IntField (P : Program) (k : IntKind) (i : Nat) (f : Field) : Prop := P.underlying f.type = some (.int k) ∧ f.offset = i ∧ P.cellsOf f.type = 1
theorem int_field {e : TypeId} {fs : Array Field} {n : Nat} {cs : List Value} {y : DataW H × List MemPlace} (he : P.underlying e = some (.struct fs)) (h : DataW.trod enc P W 0 (fun _ => true) true n e cs = some y)
  {i : Nat} {f : Field} {k : IntKind} (hf : fs[i]? = some f) (hk : IntField P k i f) : ∃ z, cs[i]? = some (.int k z) ∧ (Lit.int k z).wf = true := by
 obtain ⟨xs, m, _, _, hl, hn, hx⟩ := DataW.trod_struct he h
 obtain ⟨k1, k2, k3⟩ := hk
 have := hx i f hf
 rw [k2, k3] at this
 have hi : i < xs.length := by rw [hn]; exact (Array.getElem?_eq_some_iff.1 hf).1
 rw [List.getElem?_eq_getElem hi] at this
 obtain ⟨z, e1, _, e2⟩ := DataW.trod_int k1 this
 refine ⟨z, ?_, e2⟩
 have e3 : ((cs.drop i).take 1)[0]? = some (.int k z) := by rw [e1]; rfl
 rw [List.getElem?_take, if_pos (by decide), List.getElem?_drop] at e3
 exact e3
def ArgOf {α : Type} (f : α → List Value) (sz : Nat) (ok : α → Prop) (w : World) (a : Option Addr) (len cap : Nat) (l : List α) : Prop :=
 (a = none → len = 0 ∧ cap = 0) ∧ l.length = len ∧ SeqS w sz (.slice a len cap) len (rowsOf f l) ∧ ∀ x ∈ l, ok x
theorem argOf {α : Type} [Inhabited α] {f : α → List Value} {sz : Nat} {ok : α → Prop} {t e : TypeId} {a : Option Addr} {len cap : Nat} {d : DataW H} {p : List MemPlace} (ht : P.underlying t = some (.slice e)) (hc : P.cellsOf e = sz) (hsz : 0 < sz)
  (hopen : ∀ n cs y, cs.length = sz → DataW.trod enc P W 0 (fun _ => true) true n e cs = some y → ∃ x, cs = f x ∧ ok x)
  (h : DataW.Trod enc P W 0 (fun _ => true) true t (.slice a len cap) d p) : ∃ l, ArgOf f sz ok W a len cap l := by
 obtain ⟨h1, rows, h2, h3⟩ := argRows (sz := sz) ht hc hsz h
 obtain ⟨z, hz⟩ := Deep.choose_lt (α := α) (n := len) (p := fun i q => rows i = f q ∧ ok q) (fun i hi => by
  obtain ⟨g1, n, y, g2⟩ := h2 i hi
  exact hopen n _ y g1 g2)
 have he : (List.range len).flatMap rows = rowsOf f ((List.range len).map z) := by
  rw [← range_rows]
  exact flatMap_congr_range len (fun i hi => (hz i hi).1)
 rw [he] at h3
 refine ⟨(List.range len).map z, h1, by simp, h3, fun q hq => ?_⟩
 obtain ⟨i, hi, rfl⟩ := List.mem_map.1 hq
 exact (hz i (List.mem_range.1 hi)).2
end
def riOk (x : Ri) : Prop := i64 x.k ∧ i64 x.c ∧ i64 x.r
def pgOk (p : Pg) : Prop := (∀ x ∈ p.rs, riOk x) ∧ ∀ l ∈ p.ts, ∀ x ∈ l, inOk x
theorem owned_empty {w : World} {B : Nat} (e : TypeId) (sz : Nat) (hB : B ≤ w.heap.size) : (w.alloc (.cells #[] e)).ownsRow B e sz (.slice (some ⟨w.heap.size, 0, none⟩) 0 0) 0 [] :=
 World.ownsRow_made (base := B) (e := e) (size := sz) w #[] 0 hB (by unfold maxLen; omega) (by simp)
section
variable {P : Program} {ops : Array Oper}
theorem all_in {l : List Nat} (q : Nat → Bool) (h : l.all q = true) {j : Nat} (hj : j ∈ l) : q j = true := List.all_eq_true.1 h j hj
theorem AllP.get {V : Nat → Value → World → Prop} {w w' : World} : ∀ {l : List Nat}, AllP V w w' l → ∀ j ∈ l, ∀ u, V j u w → V j u w'
 | [], _, _, h => by cases h
 | k :: l, h, j, hj => by
  rcases List.mem_cons.1 hj with rfl | hj
  ·exact h.1
  ·exact h.2.get j hj
theorem AllP.same {V : Nat → Value → World → Prop} {w : World} : ∀ (l : List Nat), AllP V w w l
 | [] => trivial
 | _ :: l => ⟨fun _ h => h, AllP.same l⟩
theorem AllP.of {V : Nat → Value → World → Prop} {w w' : World} : ∀ (l : List Nat), (∀ j ∈ l, ∀ u, V j u w → V j u w') → AllP V w w' l
 | [], _ => trivial
 | k :: l, h => ⟨h k List.mem_cons_self, AllP.of l (fun j hj => h j (List.mem_cons_of_mem _ hj))⟩
theorem wpAny_rely {ds : List (Option Tmp)} {js es ps : List (List Nat)} {N : Nat} {Q : Exit → Act → World → Prop} {a0 : Act} {S : World → Prop} {V : Nat → Value → World → Prop} (hok : Rely ops ds js es ps N)
  (hjs : ∀ i j, i < ops.size → j ∈ js.getD i [] → j < N) (hstep : ∀ i, i < ops.size → ∀ (x : Nat → Value) (w : World), S w → AllV V x w (js.getD i []) →
   StepV P ops i (putsOf ds x a0 (js.getD i [])) w (fun v w' => S w' ∧ V i v w' ∧ AllP V w w' (ps.getD i [])))
  (hend : ∀ (x : Nat → Value) (w : World), S w → (∀ j, j < N → (∀ i, i < ops.size → j ∉ es.getD i []) → V j (x j) w) → Q .normal (putsOf ds x a0 (List.range ops.size)) w) :
  ∀ (fuel : Nat) (listed : Array Bool) (a : Act) (x : Nat → Value) (w : World), listed.size = ops.size → (∀ j, j < ops.size → listed.getD j false = true → ∀ e ∈ dirs ops j, listed.getD e false = true) → unl listed ≤ fuel → S w →
   (∀ j, j < N → (j < ops.size → listed.getD j false = true) → (∀ i, i < ops.size → listed.getD i false = true → j ∉ es.getD i []) → V j (x j) w) → FrV ops ds a0 x listed a → wpAny P .any ops Q fuel listed a w := by
 have hfin : ∀ (listed : Array Bool) (a : Act) (x : Nat → Value) (w : World), S w → (∀ j, j < ops.size → listed.getD j false = true) →
   (∀ j, j < N → (j < ops.size → listed.getD j false = true) → (∀ i, i < ops.size → listed.getD i false = true → j ∉ es.getD i []) → V j (x j) w) → FrV ops ds a0 x listed a → Q .normal a w := by
  intro listed a x w hS hall hV hF
  rw [hF.full hok hall]
  exact hend x w hS (fun j hj hn => hV j hj (hall j) (fun i hi _ => hn i hi))
 intro fuel
 induction fuel with
 | zero =>
  intro listed a x w hsz hdc hu hS hV hF
  have hall : ∀ j, j < ops.size → listed.getD j false = true := fun j hj => unl_zero (by omega) j (by omega)
  refine ⟨?_, hfin listed a x w hS hall hV hF⟩
  cases hr : Region.ready .any ops listed with
  | nil => rfl
  | cons i rs =>
   exfalso
   have hm : i ∈ Region.ready .any ops listed := by rw [hr]; exact List.mem_cons_self
   obtain ⟨h0, o, ho, _⟩ := mem_ready.1 hm
   have hi := (Array.getElem?_eq_some_iff.1 ho).1
   have := hall i hi
   rw [getD_tf (by omega) false true, h0] at this
   cases this
 | succ fuel ih =>
  intro listed a x w hsz hdc hu hS hV hF
  refine ⟨fun hr => hfin listed a x w hS ?_ hV hF, fun i hi => ?_⟩
  ·intro j
   induction j using Nat.strongRecOn with
   | ind j ihj =>
    intro hj
    cases hl : listed.getD j false with
    | true => rfl
    | false =>
     exfalso
     have hm : j ∈ Region.ready .any ops listed := by
      refine mem_ready.2 ⟨by rw [getD_tf (by omega) true false]; exact hl, ops[j], Array.getElem?_eq_getElem hj, fun e he hb => ?_⟩
      have hd := (dirs_mem (Array.getElem?_eq_getElem hj)).2 ⟨e, he, hb, rfl⟩
      have hlt := hok.back j e.on hj hd
      exact ihj e.on hlt (by omega)
     rw [hr] at hm
     cases hm
  ·obtain ⟨h0, o, ho, hall⟩ := mem_ready.1 hi
   have hin := (Array.getElem?_eq_some_iff.1 ho).1
   have hun : listed.getD i false = false := by rw [getD_tf (by omega) false true]; exact h0
   have hdi : ∀ e ∈ dirs ops i, listed.getD e false = true := fun e he => by
    obtain ⟨g, h1, h2, h3⟩ := (dirs_mem ho).1 he
    rw [← h3]; exact hall g h1 h2
   have hdl : ∀ e ∈ dirs ops i, e < ops.size := fun e he => Nat.lt_trans (hok.back i e hin he) hin
   have hds : o.dst = ds.getD i none := by
    rw [hok.ds_, List.getD_eq_getElem?_getD, List.getElem?_map, Array.getElem?_toList, ho]; rfl
   have hpre : ∀ j ∈ js.getD i [], V j (x j) w := fun j hj => by
    have hjd := hok.sub i j hin hj
    refine hV j (hjs i j hin hj) (fun hjn => hdi j (hjd.resolve_right (by omega))) (fun k hk hkl hjk => ?_)
    rcases hok.eats i k j hin hk hjk hj with e | e
    ·subst e
     rw [hun] at hkl; cases hkl
    ·have := hdc k hk hkl i e
     rw [hun] at this; cases this
   have hst := hstep i hin x w hS (AllV.of _ hpre)
   have hz := putsOf_size ds x (js.getD i []) a0
   have hmv := StepV.move (Q := Q) (a := a) ho (Region.noSelect_spec hok.sel i o · · ho) (hF.size.trans hz.1.symm) (fun t ht => ?_) hst
   ·refine wpOp_mono (fun a' w' h => ?_) hmv
    obtain ⟨v, rfl, hS', hVi, hpr⟩ := h
    rw [hds]
    refine ih (listed.setIfInBounds i true) _ (fun j => if j = i then v else x j) w' (by simpa using hsz) ?_ ?_ hS' ?_ (hF.step hok hin hsz hun)
    ·intro j hj hl e he
     refine (set_getD (by omega)).2 (.inr ?_)
     rcases (set_getD (by omega)).1 hl with e2 | e2
     ·subst e2; exact hdi e he
     ·exact hdc j hj e2 e he
    ·have := unl_set (by omega) hun
     omega
    ·intro j hjN hl hn
     by_cases e : j = i
     ·subst e
      simpa using hVi
     ·simp only [if_neg e]
      have hps : j ∈ ps.getD i [] := by
       rcases hok.pres i j hin hjN with e2 | e2 | e2 | e2 | ⟨k, hk, e2⟩
       ·exact absurd e2.symm e
       ·exact e2
       ·exact absurd e2 (hn i hin ((set_getD (by omega)).2 (.inl rfl)))
       ·exfalso
        by_cases hjn : j < ops.size
        ·have := hdc j hjn (((set_getD (by omega)).1 (hl hjn)).resolve_left e) i e2
         rw [hun] at this; cases this
        ·unfold dirs at e2
         rw [Array.getElem?_eq_none (by omega)] at e2
         cases e2
       ·exact absurd e2 (hn k (hdl k hk) ((set_getD (by omega)).2 (.inr (hdi k hk))))
      refine hpr.get j hps _ ?_
      exact hV j hjN (fun hj => ((set_getD (by omega)).1 (hl hj)).resolve_left e) (fun k hk hkl => hn k hk ((set_getD (by omega)).2 (.inr hkl)))
   ·have hnone : ∀ k, ops.size ≤ k → ds.getD k none = none := fun k hk => by
     rw [List.getD_eq_getElem?_getD, List.getElem?_eq_none (by rw [hok.ds_]; simpa using hk)]; rfl
    have hget : (ops.getD i default) = o := by
     rw [Array.getD_eq_getD_getElem?, ho]; rfl
    by_cases hsz2 : t < a0.tmps.size
    ·by_cases hex : ∃ j, j < ops.size ∧ listed.getD j false = true ∧ ds.getD j none = some t
     ·obtain ⟨j, hj, hl, hd⟩ := hex
      rw [hF.put j t hj hl hd hsz2]
      rcases hok.looks i j t hin hj hd (by rw [hget]; exact ht) with e | e | e
      ·subst e; rw [hun] at hl; cases hl
      ·refine (putsOf_new ds x t j _ a0 (fun k hk e2 => ?_) e hd hsz2).symm
       rcases hok.sub i k hin hk with e3 | e3
       ·exact hok.one k j t (hdl k e3) hj hd e2
       ·rw [hnone k e3] at e2; cases e2
      ·have := hdc j hj hl i e
       rw [hun] at this; cases this
     ·rw [hF.old t (fun j hj hl e => hex ⟨j, hj, hl, e⟩)]
      refine (putsOf_old ds x t _ a0 (fun j hj e => ?_)).symm
      rcases hok.sub i j hin hj with e3 | e3
      ·exact hex ⟨j, hdl j e3, hdi j e3, e⟩
      ·rw [hnone j e3] at e; cases e
    ·rw [Array.getElem?_eq_none (by rw [hF.size]; exact Nat.le_of_not_lt hsz2), Array.getElem?_eq_none (by rw [hz.1]; exact Nat.le_of_not_lt hsz2)]
def RelyStep (P : Program) (ops : Array Oper) (ds : List (Option Tmp)) (js ps : List (List Nat)) (a0 : Act) (S : World → Prop) (V : Nat → Value → World → Prop) (i : Nat) : Prop :=
 ∀ (x : Nat → Value) (w : World), S w → AllV V x w (js.getD i []) → StepV P ops i (putsOf ds x a0 (js.getD i [])) w (fun v w' => S w' ∧ V i v w' ∧ AllP V w w' (ps.getD i []))
def RelySteps (P : Program) (ops : Array Oper) (ds : List (Option Tmp)) (js ps : List (List Nat)) (a0 : Act) (S : World → Prop) (V : Nat → Value → World → Prop) (is : List Nat) : Prop :=
 ∀ i ∈ is, RelyStep P ops ds js ps a0 S V i
theorem RelySteps.nil {ds : List (Option Tmp)} {js ps : List (List Nat)} {a0 : Act} {S : World → Prop} {V : Nat → Value → World → Prop} : RelySteps P ops ds js ps a0 S V [] := fun _ h => by cases h
theorem RelySteps.cons {ds : List (Option Tmp)} {js ps : List (List Nat)} {a0 : Act} {S : World → Prop} {V : Nat → Value → World → Prop} {i : Nat} {is : List Nat} (h : RelyStep P ops ds js ps a0 S V i)
  (hs : RelySteps P ops ds js ps a0 S V is) : RelySteps P ops ds js ps a0 S V (i :: is) := fun k hk => by
 rcases List.mem_cons.1 hk with rfl | hk
 ·exact h
 ·exact hs k hk
theorem RelyStep.mk {ds : List (Option Tmp)} {js ps : List (List Nat)} {a0 : Act} {S : World → Prop} {V : Nat → Value → World → Prop} {i : Nat} {o : Oper} (J K : List Nat) (ho : ops[i]? = some o) (hJ : js.getD i [] = J) (hK : ps.getD i [] = K)
  (h : ∀ (x : Nat → Value) (w : World), S w → AllV V x w J → ∀ (b : Act), b = putsOf ds x a0 J → ∀ K' : Act → World → Prop, Shut (∀ a' w', (∃ v, a' = b.put o.dst v ∧ S w' ∧ V i v w' ∧ AllP V w w' K) → K' a' w') →
   if Region.wanted o (yielded ops b.tmps) = true then Oper.wp P o b w K' QF else K' (b.put o.dst undef) w) : RelyStep P ops ds js ps a0 S V i := by
 intro x w hS hV
 rw [hJ] at hV ⊢
 rw [hK]
 exact StepV.mk ho (fun K' hK' => h x w hS hV _ rfl K' hK')
theorem wp_region_rely {id : Nat} {a0 : Act} {w : World} {Q : Exit → Act → World → Prop} (S : World → Prop) (V : Nat → Value → World → Prop) (ds : List (Option Tmp)) (js es ps : List (List Nat)) (is : List Nat) (N : Nat) (hm : P.follows .mixedOrders = true)
  (hok : relyB ops ds js es ps N = true) (hjs : js.all (fun l => l.all (fun j => decide (j < N))) = true) (his : List.range ops.size = is) (hS : S w.drew) (hI : ∀ j, j < N → ops.size ≤ j → V j undef w.drew) (hsteps : RelySteps P ops ds js ps a0 S V is)
  (hend : ∀ (x : Nat → Value) (w : World), S w → (∀ j, j < N → (is.all fun i => !(es.getD i []).contains j) = true → V j (x j) w) → Q .normal (putsOf ds x a0 is) w) : (Code.region id ops true).wp P Q a0 w := by
 subst his
 have hjs2 : ∀ i j, i < ops.size → j ∈ js.getD i [] → j < N := fun i j _ hj => by
  rw [List.getD_eq_getElem?_getD] at hj
  cases hg : js[i]? with
  | none => rw [hg] at hj; cases hj
  | some l =>
   rw [hg] at hj
   have := List.all_eq_true.1 (List.all_eq_true.1 hjs l (List.mem_of_getElem? hg)) j hj
   simpa using this
 refine wp_region_any hm (wpAny_rely (Rely.of hok) hjs2 (fun i hi => hsteps i (List.mem_range.2 hi)) (fun x w h1 h2 => hend x w h1 (fun j hj hn => h2 j hj (fun i hi hc => ?_))) ops.size _ a0 (fun _ => undef) _ (by simp) (fun j hj h => ?_) ?_ hS (fun j hj h hn => ?_) ⟨rfl, rfl, fun j t hj h => ?_, fun _ _ => rfl⟩)
 ·have := List.all_eq_true.1 hn i (List.mem_range.2 hi)
  rw [List.contains_iff_mem.2 hc] at this
  cases this
 ·simp [hj] at h
 ·unfold unl
  refine Nat.le_trans List.countP_le_length (by simp)
 ·refine hI j hj (Nat.le_of_not_lt fun hj => ?_)
  have := h hj
  simp [hj] at this
 ·simp [hj] at h
end
def sumL (ts : List (List In)) : Nat := (ts.map List.length).sum
def fewB (p : Pg) (m : Nat) : Bool := decide (p.rs.length ≤ 10 ∧ p.ts.length ≤ 10 ∧ (∀ l ∈ p.ts, l.length ≤ m) ∧ sumL p.ts ≤ m)
theorem sumL_next {ts : List (List In)} {t : Nat} {l : List In} (h : ts[t]? = some l) : sumL (ts.take (t + 1)) = sumL (ts.take t) + l.length := by
 unfold sumL
 rw [List.take_add_one, h]
 simp
set_option maxHeartbeats 4000000 in
set_option maxRecDepth 100000 in
theorem rfFew (p : Pg) (m : Nat) (A : Option Addr) (c : Nat) (B : Option Addr) (d : Nat) (w : World) (h : PgAt w A c B d p) (hm : m ≤ 1000) :
  Calls Tryz.prog 10 #[.agg (pgC A c B d p), .int .i64 (m : Int)] w fun e w' => e = .returned (.bool (fewB p m)) ∧ Below w.heap.size w w' := by
 obtain ⟨hc1, hc2⟩ := seq_form h.1
 obtain ⟨hd1, hd2⟩ := h.2.form
 have hb0 : Below w.heap.size w (w.alloc (.cells (pgC A c B d p) 25)) := (Below.refl _ _).alloc (Nat.le_refl _) _
 have l0 := Lies.made w 25 (pgC A c B d p)
 have HH := Lib.hid h.2
 have HB0 := Lib.hid hb0
 have HL0 := Lib.hid l0
 have HE : Hid (fewB p m = _) := show fewB p m = _ by unfold fewB; rfl
 clear h hb0 l0
 by_cases h1 : 10 < p.rs.length
 ·have HF : Hid (fewB p m = false) := HE.out.trans (decide_eq_false (fun h => by omega))
  have e1 : decide ((10 : Int) < (p.rs.length : Int)) = true := by simp; omega
  clear HE h1
  go_enter Tryz.func10, Tryz.ntmps10
  go_wp2
  go_ret
  exact ⟨ret_bool (by rw [HF.out]), HB0.out⟩
 have e1 : decide ((10 : Int) < (p.rs.length : Int)) = false := by simp; omega
 by_cases h2 : 10 < p.ts.length
 ·have HF : Hid (fewB p m = false) := HE.out.trans (decide_eq_false (fun h => by omega))
  have e2 : decide ((10 : Int) < (p.ts.length : Int)) = true := by simp; omega
  clear HE h1 h2
  go_enter Tryz.func10, Tryz.ntmps10
  go_wp2
  go_ret
  exact ⟨ret_bool (by rw [HF.out]), HB0.out⟩
 have e2 : decide ((10 : Int) < (p.ts.length : Int)) = false := by simp; omega
 go_enter Tryz.func10, Tryz.ntmps10
 go_wp2_with fail
 generalize w.alloc (.cells (pgC A c B d p) 25) = w1 at *
 have c1 := (HL0.out.cell 1).trans (show _ = some (Value.slice B p.ts.length d) from rfl)
 have hl1 := HL0.out.lt
 go_loopw [5, 6] (fun v u wr => ∃ k s : Nat, k ≤ p.ts.length ∧ u = .int .i64 k ∧ v = .int .i64 s ∧ s ≤ k * m ∧ Hid (s = sumL (p.ts.take k)) ∧ Hid (∀ l ∈ p.ts.take k, l.length ≤ m) ∧ wr = w1) (fun _ u _ => p.ts.length - (intOf u).toNat)
 case atStart => exact ⟨0, 0, by omega, rfl, rfl, by omega, rfl, fun l hl => by simp at hl, rfl⟩
 case round =>
  obtain ⟨k, s, hk, rfl, rfl, hs, hsum, hall, rfl⟩ := hrel
  have hkm : k * m ≤ 10 * m := Nat.mul_le_mul_right m (by omega)
  have hs1 : s ≤ 10000 := by omega
  have HKM := Lib.hid hkm
  have HS := Lib.hid hs
  clear hkm hs
  by_cases hlt : k < p.ts.length
  ·have hki : (k : Int) < (p.ts.length : Int) := by omega
   obtain ⟨l, hl⟩ : ∃ l, p.ts[k]? = some l := ⟨_, List.getElem?_eq_getElem hlt⟩
   obtain ⟨b, off, B2, d2, rfl, g0, hil⟩ := (HH.out.later HB0.out).at_ hl
   obtain ⟨hc3, hc4⟩ := seq_form hil
   have HLM := Lib.hid (List.mem_of_getElem? hl)
   have HSN := Lib.hid (sumL_next hl)
   have HT := Lib.hid (show p.ts.take (k + 1) = p.ts.take k ++ [l] by rw [List.take_add_one, hl]; rfl)
   clear hil hl
   by_cases hlm : m < l.length
   ·have HF : Hid (fewB p m = false) := HE.out.trans (decide_eq_false (fun h => by have := h.2.2.1 l HLM.out; omega))
    have e3 : decide ((m : Int) < (l.length : Int)) = true := by simp; omega
    have e4 : decide (m < l.length) = true := by simpa using hlm
    clear HE hlm
    go_wp2
    go_ret
    exact ⟨ret_bool (by rw [HF.out]), HB0.out⟩
   have e3 : decide ((m : Int) < (l.length : Int)) = false := by simp; omega
   have e4 : decide (m < l.length) = false := by simpa using hlm
   have hll : l.length ≤ 1000 := by omega
   have HSZ : Hid (s + l.length ≤ (k + 1) * m) := by have := HS.out; show _ ≤ _; rw [Nat.add_mul]; omega
   have HS1 : Hid (s + l.length = sumL (p.ts.take (k + 1))) := by show _ = _; rw [HSN.out, hsum.out]
   have HA1 : Hid (∀ q ∈ p.ts.take (k + 1), q.length ≤ m) := fun q hq => by
    rw [HT.out] at hq
    rcases List.mem_append.1 hq with hq | hq
    ·exact hall.out q hq
    ·simp at hq; subst hq; omega
   clear hlm hsum hall
   go_wp2
   go_roundw
   case rel => exact ⟨k + 1, s + l.length, by omega, by go_num, by go_num, HSZ.out, HS1, HA1, trivial⟩
   case measure => simp [intOf]; omega
  ·obtain rfl : k = p.ts.length := by omega
   have hsum := hsum.out
   have hall := hall.out
   rw [List.take_length] at hsum hall
   have HF : Hid (fewB p m = decide (s ≤ m)) := by
    show _ = _
    rw [HE.out, Bool.eq_iff_iff, decide_eq_true_eq, decide_eq_true_eq, hsum]
    exact ⟨fun h => h.2.2.2, fun h => ⟨by omega, by omega, hall, h⟩⟩
   clear HE hsum hall
   go_wp2
   go_ret
   exact ⟨ret_bool (by rw [HF.out]), HB0.out⟩
theorem Tryz.infoIn : (Tryz.prog.info? 28).map (fun i => (i.zero, i.size, i.bytes)) = some (some (.agg #[.int .i64 0, .int .i64 0, .int .i64 0, .int .i64 0, .int .i64 0, .int .u64 0]), 6, 48) := by kernel_rfl
theorem Tryz.infoRi : (Tryz.prog.info? 51).map (fun i => (i.zero, i.size, i.bytes)) = some (some (.agg #[.int .i64 0, .int .i64 0, .int .i64 0]), 3, 24) := by kernel_rfl
theorem Tryz.infoTh : (Tryz.prog.info? 47).map (fun i => (i.zero, i.size, i.bytes)) = some (some (.slice none 0 0), 1, 24) := by kernel_rfl
theorem inF_one (l : List In) : ∀ u ∈ rowsOf inF l, u.oneCell' = true := fun u hu => by
 obtain ⟨x, _, hx⟩ := rowsOf_mem hu
 simp [inF] at hx
 rcases hx with rfl | rfl | rfl | rfl | rfl | rfl <;> rfl
theorem riF_one (l : List Ri) : ∀ u ∈ rowsOf riF l, u.oneCell' = true := fun u hu => by
 obtain ⟨x, _, hx⟩ := rowsOf_mem hu
 simp [riF] at hx
 rcases hx with rfl | rfl | rfl <;> rfl
abbrev OwnIn (w : World) (B : Nat) (v : Value) (l : List In) : Prop := w.ownsRow B 28 6 v l.length (rowsOf inF l)
def Inners (w : World) (B N : Nat) (ts : List (List In)) (vs : List Value) : Prop :=
 ∀ (j : Nat) (v : Value), vs[j]? = some v → ∃ l, ts[j]? = some l ∧ OwnIn w B v l ∧ ∀ r, v.ownBlock = some r → r < N
theorem own_lt {w : World} {B : Nat} {e : TypeId} {sz n : Nat} {v : Value} {xs : List Value} (h : w.ownsRow B e sz v n xs) {r : Nat} (hv : v.ownBlock = some r) : B ≤ r ∧ r < w.heap.size := by
 have := h.lt r hv
 exact ⟨this.1, this.2⟩
section
variable {w w' : World} {B N : Nat} {ts : List (List In)} {vs : List Value}
theorem Inners.kept {S : Nat → Prop} (h : Inners w B N ts vs) (k : Kept S w w') (hs : ∀ r cur, r < N → Lies w r 28 cur → ¬ S r) : Inners w' B N ts vs := by
 intro j v hv
 obtain ⟨l, h1, h2, h3⟩ := h j v hv
 exact ⟨l, h1, owns_kept h2 k (fun r cur hr hl => hs r cur (h3 r hr) hl), h3⟩
theorem Inners.mono (h : Inners w B N ts vs) {M : Nat} (hM : N ≤ M) : Inners w B M ts vs := by
 intro j v hv
 obtain ⟨l, h1, h2, h3⟩ := h j v hv
 exact ⟨l, h1, h2, fun r hr => Nat.lt_of_lt_of_le (h3 r hr) hM⟩
theorem Inners.snoc (h : Inners w B N ts vs) {l : List In} {u : Value} (hl : ts[vs.length]? = some l) (hu : OwnIn w B u l) (hlt : ∀ r, u.ownBlock = some r → r < N) : Inners w B N ts (vs ++ [u]) := by
 intro j v hv
 by_cases e : j < vs.length
 ·rw [List.getElem?_append_left e] at hv
  exact h j v hv
 ·rw [List.getElem?_append_right (by omega)] at hv
  have hj : j - vs.length = 0 := by
   have := (List.getElem?_eq_some_iff.1 hv).1
   simp at this; omega
  rw [hj] at hv
  simp at hv
  subst hv
  have : j = vs.length := by omega
  subst this
  exact ⟨l, hl, hu, hlt⟩
end
structure CpS (w0 wr w : World) (c0 : Array Value) (vr : Value) (p : Pg) (vs : List Value) : Prop where
 bel : Below w0.heap.size w0 w
 le : wr.heap.size ≤ w.heap.size
 rr : w.ownsRow w0.heap.size 51 3 vr p.rs.length (rowsOf riF p.rs)
 rlt : ∀ r, vr.ownBlock = some r → r < wr.heap.size
 inn : Inners w w0.heap.size wr.heap.size p.ts vs
 box : Lies w w0.heap.size 25 c0
 res : Lies w (w0.heap.size + 1) 25 #[.slice none 0 0, .slice none 0 0]
theorem CpS.kept {S : Nat → Prop} {w0 wr w w' : World} {c0 : Array Value} {vr : Value} {p : Pg} {vs : List Value} (h : CpS w0 wr w c0 vr p vs) (k : Kept S w w') (h1 : ∀ i, i < w0.heap.size → ¬ S i) (h4 : ¬ S w0.heap.size) (h5 : ¬ S (w0.heap.size + 1))
  (h2 : ∀ r cur, r < wr.heap.size → Lies w r 51 cur → ¬ S r) (h3 : ∀ r cur, r < wr.heap.size → Lies w r 28 cur → ¬ S r) : CpS w0 wr w' c0 vr p vs :=
 ⟨h.bel.trans (k.below h.bel.size h1), Nat.le_trans h.le k.size, owns_kept h.rr k (fun r cur hr hl => h2 r cur (h.rlt r hr) hl), h.rlt, h.inn.kept k h3, h.box.kept k h4, h.res.kept k h5⟩
def cpV (w0 wr : World) (n3 nb b o i : Nat) (vr vt vB vl : Value) (p : Pg) (vs : List Value) (l : List In) : Nat → Value → World → Prop
 | 0, v, _ => v = .pointer (some ⟨n3, 1, none⟩)
 | 1, v, _ => v = vt
 | 2, v, w => w.ownsRow wr.heap.size 28 6 v 0 []
 | 3, v, _ => v = .pointer (some ⟨nb, 1, none⟩)
 | 4, v, _ => v = vB
 | 5, v, _ => v = .int .i64 (i : Int)
 | 6, v, _ => v = .pointer (some ⟨b, o + i, none⟩)
 | 7, v, _ => v = vl
 | 8, v, w => OwnIn w wr.heap.size v l
 | 9, v, w => ∃ g u, v = .slice (some ⟨g, 0, none⟩) 1 1 ∧ wr.heap.size ≤ g ∧ Lies w g 47 #[u] ∧ OwnIn w wr.heap.size u l
 | 10, v, w => ∃ u, w.ownsRow w0.heap.size 47 1 v (i + 1) (vs ++ [u]) ∧ OwnIn w wr.heap.size u l
 | 11, v, _ => v = .pointer (some ⟨n3, 1, none⟩)
 | 12, _, w => ∃ v u, Lies w n3 25 #[vr, v] ∧ w.ownsRow w0.heap.size 47 1 v (i + 1) (vs ++ [u]) ∧ OwnIn w wr.heap.size u l
 | 13, _, w => Lies w n3 25 #[vr, vt]
 | 14, _, w => w.ownsRow w0.heap.size 47 1 vt i vs
 | _, _, _ => True
def cpLow : Nat → Bool
 | 2 => false
 | 8 => false
 | 9 => false
 | 10 => false
 | 12 => false
 | _ => true
section
variable {w0 wr w w' : World} {n3 nb b o i : Nat} {vr vt vB vl : Value} {p : Pg} {vs : List Value} {l : List In}
theorem cpV_low {S : Nat → Prop} (k : Kept S w w') (h1 : ¬ S n3) (h2 : ∀ r cur, vt.ownBlock = some r → Lies w r 47 cur → ¬ S r) {j : Nat} {u : Value} (hj : cpLow j = true) (h : cpV w0 wr n3 nb b o i vr vt vB vl p vs l j u w) : cpV w0 wr n3 nb b o i vr vt vB vl p vs l j u w' := by
 match j, hj with
 | 0, _ => exact h
 | 1, _ => exact h
 | 3, _ => exact h
 | 4, _ => exact h
 | 5, _ => exact h
 | 6, _ => exact h
 | 7, _ => exact h
 | 11, _ => exact h
 | 13, _ => exact Lies.kept h k h1
 | 14, _ => exact owns_kept h k h2
 | _ + 15, _ => trivial
theorem cpV_low2 {S : Nat → Prop} (k : Kept S w w') (h1 : ¬ S n3) {j : Nat} {u : Value} (hj : (cpLow j && j != 14) = true) (h : cpV w0 wr n3 nb b o i vr vt vB vl p vs l j u w) : cpV w0 wr n3 nb b o i vr vt vB vl p vs l j u w' := by
 match j, hj with
 | 0, _ => exact h
 | 1, _ => exact h
 | 3, _ => exact h
 | 4, _ => exact h
 | 5, _ => exact h
 | 6, _ => exact h
 | 7, _ => exact h
 | 11, _ => exact h
 | 13, _ => exact Lies.kept h k h1
 | _ + 15, _ => trivial
theorem cpV_low3 {j : Nat} {u : Value} (hj : (cpLow j && (j != 14 && j != 13)) = true) (h : cpV w0 wr n3 nb b o i vr vt vB vl p vs l j u w) : cpV w0 wr n3 nb b o i vr vt vB vl p vs l j u w' := by
 match j, hj with
 | 0, _ => exact h
 | 1, _ => exact h
 | 3, _ => exact h
 | 4, _ => exact h
 | 5, _ => exact h
 | 6, _ => exact h
 | 7, _ => exact h
 | 11, _ => exact h
 | _ + 15, _ => trivial
theorem cpV_alloc (ob : Obj) {j : Nat} {u : Value} (h : cpV w0 wr n3 nb b o i vr vt vB vl p vs l j u w) : cpV w0 wr n3 nb b o i vr vt vB vl p vs l j u (w.alloc ob) := by
 have hb : Below w.heap.size w (w.alloc ob) := (Below.refl _ _).alloc (Nat.le_refl _) _
 match j with
 | 0 => exact h
 | 1 => exact h
 | 2 => exact owned_below h hb
 | 3 => exact h
 | 4 => exact h
 | 5 => exact h
 | 6 => exact h
 | 7 => exact h
 | 8 => exact owned_below h hb
 | 9 =>
  obtain ⟨g, u, e, h1, h2, h3⟩ := h
  exact ⟨g, u, e, h1, h2.alloc ob, owned_below h3 hb⟩
 | 10 =>
  obtain ⟨u, h1, h2⟩ := h
  exact ⟨u, owned_below h1 hb, owned_below h2 hb⟩
 | 11 => exact h
 | 12 =>
  obtain ⟨v, u, h1, h2, h3⟩ := h
  exact ⟨v, u, h1.alloc ob, owned_below h2 hb, owned_below h3 hb⟩
 | 13 => exact Lies.alloc h ob
 | 14 => exact owned_below h hb
 | _ + 15 => trivial
end
theorem own_one {w : World} {B n : Nat} {e : TypeId} {sz : Nat} {v : Value} {xs : List Value} (h : w.ownsRow B e sz v n xs) : v.oneCell' = true := by
 rcases owns_row h with ⟨rfl, _⟩ | ⟨r, cap, cur, rfl, _⟩ <;> rfl
theorem own_slice {w : World} {B n : Nat} {e : TypeId} {sz : Nat} {v : Value} {xs : List Value} (h : w.ownsRow B e sz v n xs) : ∃ A c, v = .slice A n c := by
 rcases owns_row h with ⟨rfl, h0, _⟩ | ⟨r, cap, cur, rfl, _⟩
 ·subst h0; exact ⟨none, 0, rfl⟩
 ·exact ⟨_, _, rfl⟩
def CpPost (w : World) (p : Pg) (e : Ending) (w' : World) : Prop :=
 ∃ vr vt vs, e = .returned (.agg #[vr, vt]) ∧ w'.ownsRow w.heap.size 51 3 vr p.rs.length (rowsOf riF p.rs) ∧ w'.ownsRow w.heap.size 47 1 vt p.ts.length vs ∧ Inners w' w.heap.size w'.heap.size p.ts vs ∧ Below w.heap.size w w'
set_option maxHeartbeats 8000000 in
set_option maxRecDepth 100000 in
theorem rfCopy (p : Pg) (A : Option Addr) (c : Nat) (B : Option Addr) (d : Nat) (w : World) (h : PgAt w A c B d p) (hr : p.rs.length ≤ 10) (ht : p.ts.length ≤ 10) (hl : ∀ l ∈ p.ts, l.length ≤ 1000) :
  Calls Tryz.prog 12 #[.agg (pgC A c B d p)] w (CpPost w p) := by
 obtain ⟨hc1, hc2⟩ := seq_form h.1
 obtain ⟨hd1, hd2⟩ := h.2.form
 have hb0 : Below w.heap.size w ((w.alloc (.cells (pgC A c B d p) 25)).alloc (.cells #[.slice none 0 0, .slice none 0 0] 25)) := ((Below.refl _ _).alloc (Nat.le_refl _) _).alloc (by simp) _
 have l0 := (Lies.made w 25 (pgC A c B d p)).alloc (.cells #[.slice none 0 0, .slice none 0 0] 25)
 have l1 := Lies.made (w.alloc (.cells (pgC A c B d p) 25)) 25 #[.slice none 0 0, .slice none 0 0]
 rw [World.size_alloc] at l1
 have HH := Lib.hid h
 have HLEN := Lib.hid hl
 have HB0 := Lib.hid hb0
 have HL0 := Lib.hid l0
 have HL1 := Lib.hid l1
 clear h hl hb0 l0 l1
 go_enter Tryz.func12, Tryz.ntmps12
 go_upto_region 1 with (fail)
 generalize (w.alloc (.cells (pgC A c B d p) 25)).alloc (.cells #[.slice none 0 0, .slice none 0 0] 25) = w1 at *
 have c0 := (HL0.out.cell 0).trans (show _ = some (Value.slice A p.rs.length c) from rfl)
 have hlt0 := HL0.out.lt
 have HRS := Lib.hid ((HH.out.1.later HB0.out).later ((Below.refl w1.heap.size w1).alloc (Nat.le_refl _) (.cells #[] 51)))
 have HE := Lib.hid (owned_empty (w := w1) (B := w1.heap.size) 51 3 (Nat.le_refl _))
 go_wp2_with (at_builtin; refine append_argS (w1.alloc (.cells #[] 51)) 3 rfl (.tmp 5) (.tmp 7) 22 rfl w1.heap.size 51 _ 24 Tryz.underlying22 Tryz.infoRi rfl (by decide) _ 0 [] rfl HE.out A p.rs.length c rfl (rowsOf riF p.rs) HRS.out (riF_one _) (by unfold maxLen; omega) (by omega) (by simp) ?_)
 intro vr w2 ho2 hb2 hgr2
 obtain ⟨Ar, cr, rfl⟩ := own_slice ho2
 have hb12 : Below w1.heap.size w1 w2 := ((Below.refl w1.heap.size w1).alloc (Nat.le_refl _) (.cells #[] 51)).trans hb2
 have HB2 := Lib.hid (HB0.out.trans (hb12.mono HB0.out.size))
 have HL0a := Lib.hid (HL0.out.below hb12 HL0.out.lt)
 have HL1a := Lib.hid (HL1.out.below hb12 HL1.out.lt)
 have HO2 := Lib.hid (owns_mono ho2 HB0.out.size)
 have hw12 := hb12.size
 have hl1t := HL1.out.lt
 clear ho2 hb2 hgr2 hb12 HRS HE c0 hlt0 HB0 HL0 HL1
 go_wp2_with fail
 have HB3 := Lib.hid (HB2.out.alloc HB2.out.size (.cells #[.slice Ar p.rs.length cr, .slice none 0 0] 25))
 have HL0b := Lib.hid (HL0a.out.alloc (.cells #[.slice Ar p.rs.length cr, .slice none 0 0] 25))
 have HL1b := Lib.hid (HL1a.out.alloc (.cells #[.slice Ar p.rs.length cr, .slice none 0 0] 25))
 have HL2b := Lib.hid (Lies.made w2 25 #[.slice Ar p.rs.length cr, .slice none 0 0])
 have HO3 := Lib.hid (owned_below HO2.out ((Below.refl w2.heap.size w2).alloc (Nat.le_refl _) (.cells #[.slice Ar p.rs.length cr, .slice none 0 0] 25)))
 have hn3 : w.heap.size + 1 < w2.heap.size := by omega
 clear HB2 HL0a HL1a HO2
 generalize w2.alloc (.cells #[.slice Ar p.rs.length cr, .slice none 0 0] 25) = w3 at *
 generalize w2.heap.size = n3 at *
 have hw3 := HB3.out.size
 go_loopw [4] (fun u wr => ∃ (i : Nat) (vt : Value) (vs : List Value), i ≤ p.ts.length ∧ u = .int .i64 i ∧ Hid (CpS w wr wr (pgC A c B d p) (.slice Ar p.rs.length cr) p vs) ∧ Hid (Lies wr n3 25 #[.slice Ar p.rs.length cr, vt]) ∧ Hid (wr.ownsRow w.heap.size 47 1 vt i vs)) (fun u _ => p.ts.length - (intOf u).toNat)
 case atStart => exact ⟨0, .slice none 0 0, [], by omega, rfl, ⟨HB3.out, Nat.le_refl _, HO3.out, fun r hr => (own_lt HO3.out hr).2, (fun j v hv => by cases hv), HL0b.out, HL1b.out⟩, HL2b.out, World.ownsRow_nil _ _ _ _⟩
 case round =>
  clear HB3 HL0b HL1b HL2b HO3 hw3
  obtain ⟨i, vt, vs, hi, rfl, hS, hn, hv⟩ := hrel
  have c1 := (hS.out.box.cell 1).trans (show _ = some (Value.slice B p.ts.length d) from rfl)
  have hlc := hS.out.box.lt
  by_cases hlt : i < p.ts.length
  ·have hii : (i : Int) < (p.ts.length : Int) := by omega
   obtain ⟨l, hl⟩ : ∃ l, p.ts[i]? = some l := ⟨_, List.getElem?_eq_getElem hlt⟩
   obtain ⟨b, off, B2, d2, rfl, g0, hil⟩ := HH.out.2.at_ hl
   have hbl := World.block_lt_of_cell? w _ g0
   obtain ⟨hc3, hc4⟩ := seq_form hil
   have hll := HLEN.out l (List.mem_of_getElem? hl)
   have G0 := Lib.hid g0
   have HIL := Lib.hid hil
   have HLL := Lib.hid hl
   have HVL : Hid (vs.length = i) := by have := hv.out.1; show _ = _; omega
   have hS0 : Hid (w.heap.size + 2 ≤ wr.heap.size) := hS.out.res.lt
   have hn3l := Lib.hid hn.out.lt
   clear g0 hil hl
   go_wp2_with fail
   clear c1 hlc
   refine wp_region_rely (fun q => CpS w wr q (pgC A c (some ⟨b, off, none⟩) d p) (.slice Ar p.rs.length cr) p vs) (cpV w wr n3 w.heap.size b off i (.slice Ar p.rs.length cr) vt (.slice (some ⟨b, off, none⟩) p.ts.length d) (.slice B2 l.length d2) p vs l) [some 17, some 18, some 19, some 20, some 21, some 22, some 23, some 24, some 25, some 26, some 27, some 28, none] [[], [0, 13], [], [], [3], [], [4, 5], [6], [2, 7], [8], [1, 9, 14, 13], [], [11, 10, 13]] [[], [0], [], [], [3], [], [3, 4, 5], [4, 5, 6], [2, 6, 7], [2, 7, 8], [0, 1, 2, 7, 8, 9, 14], [0, 1, 2, 3, 4, 5, 6, 7, 8, 9, 14], [0, 1, 2, 3, 4, 5, 6, 7, 8, 9, 10, 11, 13, 14]] [[2, 3, 4, 5, 6, 7, 8, 9, 10, 13, 14], [2, 3, 4, 5, 6, 7, 8, 9, 13, 14], [0, 1, 3, 4, 5, 6, 7, 9, 10, 13, 14], [0, 1, 2, 5, 6, 7, 8, 9, 10, 13, 14], [0, 1, 2, 5, 7, 8, 9, 10, 13, 14], [0, 1, 2, 3, 4, 7, 8, 9, 10, 13, 14], [0, 1, 2, 8, 9, 10, 13, 14], [0, 1, 2, 9, 10, 13, 14], [0, 1, 3, 13, 14], [0, 1, 3, 4, 5, 13, 14], [3, 4, 5, 13], [10, 13], []] [0, 1, 2, 3, 4, 5, 6, 7, 8, 9, 10, 11, 12] 15 (by kernel_rfl) (by kernel_rfl) (by kernel_rfl) (by kernel_rfl) ?rS ?rI ?rT ?rE
   case rS => exact hS.out.kept (Kept.drew noRow wr) (fun _ _ h => h) (fun h => h) (fun h => h) (fun _ _ _ _ h => h) (fun _ _ _ _ h => h)
   case rI =>
    intro j h1 h2
    have h2 : 13 ≤ j := h2
    have : j = 13 ∨ j = 14 := by omega
    rcases this with rfl | rfl
    ·exact Lies.drew hn.out
    ·exact owns_drew hv.out
   case rT =>
    refine RelySteps.cons (RelyStep.mk [] [2, 3, 4, 5, 6, 7, 8, 9, 10, 13, 14] rfl rfl rfl (fun xv wS hS hV bq hb K hK => ?_)) ?_
    ·clear hV
     simp only [putsOf, List.foldl_cons, List.foldl_nil, List.getD_cons_zero, List.getD_cons_succ, List.getD_nil, cond_true, cond_false, Act.put, List.setIfInBounds_toArray, List.set_cons_zero, List.set_cons_succ] at hb
     subst hb
     rw [if_pos (by rfl)]
     go_wp2_with fail
     exact hK.out _ _ ⟨_, rfl, hS, rfl, AllP.same _⟩
    refine RelySteps.cons (RelyStep.mk [0, 13] [2, 3, 4, 5, 6, 7, 8, 9, 13, 14] rfl rfl rfl (fun xv wS hS hV bq hb K hK => ?_)) ?_
    ·obtain ⟨h0, h13, _⟩ := hV
     have h0 : xv 0 = _ := h0
     simp only [putsOf, List.foldl_cons, List.foldl_nil, List.getD_cons_zero, List.getD_cons_succ, List.getD_nil, cond_true, cond_false, Act.put, List.setIfInBounds_toArray, List.set_cons_zero, List.set_cons_succ, h0] at hb
     clear h0
     generalize xv 13 = y13 at *
     subst hb
     rw [if_pos (by rfl)]
     (have q1 : Lies wS n3 _ _ := h13; have c1 := (q1.cell 1).trans (show _ = some vt from rfl); have c2 := q1.lt; clear q1 h13)
     go_wp2_with fail
     exact hK.out _ _ ⟨_, rfl, hS, rfl, AllP.same _⟩
    refine RelySteps.cons (RelyStep.mk [] [0, 1, 3, 4, 5, 6, 7, 9, 10, 13, 14] rfl rfl rfl (fun xv wS hS hV bq hb K hK => ?_)) ?_
    ·clear hV
     simp only [putsOf, List.foldl_cons, List.foldl_nil, List.getD_cons_zero, List.getD_cons_succ, List.getD_nil, cond_true, cond_false, Act.put, List.setIfInBounds_toArray, List.set_cons_zero, List.set_cons_succ] at hb
     subst hb
     rw [if_pos (by rfl)]
     have HSS := Lib.hid hS
     clear hS
     go_wp2_with fail
     exact hK.out _ _ ⟨_, rfl, HSS.out.kept (Kept.alloc noRow wS _) (fun _ _ h => h) (fun h => h) (fun h => h) (fun _ _ _ _ h => h) (fun _ _ _ _ h => h), owned_empty _ _ HSS.out.le, AllP.of _ (fun j _ u h => cpV_alloc _ h)⟩
    refine RelySteps.cons (RelyStep.mk [] [0, 1, 2, 5, 6, 7, 8, 9, 10, 13, 14] rfl rfl rfl (fun xv wS hS hV bq hb K hK => ?_)) ?_
    ·clear hV
     simp only [putsOf, List.foldl_cons, List.foldl_nil, List.getD_cons_zero, List.getD_cons_succ, List.getD_nil, cond_true, cond_false, Act.put, List.setIfInBounds_toArray, List.set_cons_zero, List.set_cons_succ] at hb
     subst hb
     rw [if_pos (by rfl)]
     go_wp2_with fail
     exact hK.out _ _ ⟨_, rfl, hS, rfl, AllP.same _⟩
    refine RelySteps.cons (RelyStep.mk [3] [0, 1, 2, 5, 7, 8, 9, 10, 13, 14] rfl rfl rfl (fun xv wS hS hV bq hb K hK => ?_)) ?_
    ·obtain ⟨h3, _⟩ := hV
     have h3 : xv 3 = _ := h3
     simp only [putsOf, List.foldl_cons, List.foldl_nil, List.getD_cons_zero, List.getD_cons_succ, List.getD_nil, cond_true, cond_false, Act.put, List.setIfInBounds_toArray, List.set_cons_zero, List.set_cons_succ, h3] at hb
     clear h3
     subst hb
     rw [if_pos (by rfl)]
     (have q1 := hS.box; have c1 := (q1.cell 1).trans (show _ = some (Value.slice (some ⟨b, off, none⟩) p.ts.length d) from rfl); have c2 := q1.lt; clear q1)
     go_wp2_with fail
     exact hK.out _ _ ⟨_, rfl, hS, rfl, AllP.same _⟩
    refine RelySteps.cons (RelyStep.mk [] [0, 1, 2, 3, 4, 7, 8, 9, 10, 13, 14] rfl rfl rfl (fun xv wS hS hV bq hb K hK => ?_)) ?_
    ·clear hV
     simp only [putsOf, List.foldl_cons, List.foldl_nil, List.getD_cons_zero, List.getD_cons_succ, List.getD_nil, cond_true, cond_false, Act.put, List.setIfInBounds_toArray, List.set_cons_zero, List.set_cons_succ] at hb
     subst hb
     rw [if_pos (by rfl)]
     go_wp2_with fail
     exact hK.out _ _ ⟨_, rfl, hS, rfl, AllP.same _⟩
    refine RelySteps.cons (RelyStep.mk [4, 5] [0, 1, 2, 8, 9, 10, 13, 14] rfl rfl rfl (fun xv wS hS hV bq hb K hK => ?_)) ?_
    ·obtain ⟨h4, h5, _⟩ := hV
     have h4 : xv 4 = _ := h4
     have h5 : xv 5 = _ := h5
     simp only [putsOf, List.foldl_cons, List.foldl_nil, List.getD_cons_zero, List.getD_cons_succ, List.getD_nil, cond_true, cond_false, Act.put, List.setIfInBounds_toArray, List.set_cons_zero, List.set_cons_succ, h4, h5] at hb
     clear h4
     clear h5
     subst hb
     rw [if_pos (by rfl)]
     go_wp2_with fail
     exact hK.out _ _ ⟨_, rfl, hS, rfl, AllP.same _⟩
    refine RelySteps.cons (RelyStep.mk [6] [0, 1, 2, 9, 10, 13, 14] rfl rfl rfl (fun xv wS hS hV bq hb K hK => ?_)) ?_
    ·obtain ⟨h6, _⟩ := hV
     have h6 : xv 6 = _ := h6
     simp only [putsOf, List.foldl_cons, List.foldl_nil, List.getD_cons_zero, List.getD_cons_succ, List.getD_nil, cond_true, cond_false, Act.put, List.setIfInBounds_toArray, List.set_cons_zero, List.set_cons_succ, h6] at hb
     clear h6
     subst hb
     rw [if_pos (by rfl)]
     (have c1 := (hS.bel.cell hbl).trans G0.out; have c2 : b < wS.heap.size := Nat.lt_of_lt_of_le hbl hS.bel.size)
     go_wp2_with fail
     exact hK.out _ _ ⟨_, rfl, hS, rfl, AllP.same _⟩
    refine RelySteps.cons (RelyStep.mk [2, 7] [0, 1, 3, 13, 14] rfl rfl rfl (fun xv wS hS hV bq hb K hK => ?_)) ?_
    ·obtain ⟨h2, h7, _⟩ := hV
     have h7 : xv 7 = _ := h7
     simp only [putsOf, List.foldl_cons, List.foldl_nil, List.getD_cons_zero, List.getD_cons_succ, List.getD_nil, cond_true, cond_false, Act.put, List.setIfInBounds_toArray, List.set_cons_zero, List.set_cons_succ, h7] at hb
     generalize xv 2 = y2 at *
     clear h7
     subst hb
     rw [if_pos (by rfl)]
     have HSS := Lib.hid hS
     have hvt := hn
     clear hS
     refine step_list (ops := #[]) (by rfl) (append_argS wS 6 rfl (.tmp 19) (.tmp 24) 47 rfl wr.heap.size 28 _ 48 Tryz.underlying47 Tryz.infoIn rfl (by decide) y2 0 [] rfl h2 B2 l.length d2 rfl (rowsOf inF l) (HIL.out.later HSS.out.bel) (inF_one _) (by unfold maxLen; omega) (by omega) HSS.out.le ?_)
     intro v' w' ho hb hgr
     rw [List.nil_append, Nat.zero_add] at ho
     have hk := Kept.of_grown hgr
     have hg : ∀ r, y2.ownBlock = some r → wr.heap.size ≤ r := fun r hr => (own_lt h2 hr).1
     exact hK.out _ _ ⟨_, rfl, HSS.out.kept hk (fun k hk2 hs => by have := hg k hs; have := hS0.out; omega) (fun hs => by have := hg _ hs; have := hS0.out; omega) (fun hs => by have := hg _ hs; have := hS0.out; omega) (fun r cur hr _ hs => by have := hg r hs; omega) (fun r cur hr _ hs => by have := hg r hs; omega), ho, AllP.of _ (fun j hj u h => cpV_low hk (fun hs => by have := hg n3 hs; have := hn3l.out; omega) (fun r cur hv2 hl2 hs => by have := hg r hs; have := (own_lt hv.out hv2).2; omega) (all_in cpLow rfl hj) h)⟩
    refine RelySteps.cons (RelyStep.mk [8] [0, 1, 3, 4, 5, 13, 14] rfl rfl rfl (fun xv wS hS hV bq hb K hK => ?_)) ?_
    ·obtain ⟨h8, _⟩ := hV
     simp only [putsOf, List.foldl_cons, List.foldl_nil, List.getD_cons_zero, List.getD_cons_succ, List.getD_nil, cond_true, cond_false, Act.put, List.setIfInBounds_toArray, List.set_cons_zero, List.set_cons_succ] at hb
     generalize xv 8 = y8 at *
     subst hb
     rw [if_pos (by rfl)]
     have HSS := Lib.hid hS
     have H8 := Lib.hid h8
     obtain ⟨A8, c8, rfl⟩ := own_slice h8
     clear hS h8
     go_wp2_with fail
     exact hK.out _ _ ⟨_, rfl, HSS.out.kept (Kept.alloc noRow wS _) (fun _ _ h => h) (fun h => h) (fun h => h) (fun _ _ _ _ h => h) (fun _ _ _ _ h => h), ⟨wS.heap.size, _, rfl, HSS.out.le, Lies.made _ _ _, owned_below H8.out ((Below.refl _ _).alloc (Nat.le_refl _) _)⟩, AllP.of _ (fun j _ u h => cpV_alloc _ h)⟩
    refine RelySteps.cons (RelyStep.mk [1, 9, 14, 13] [3, 4, 5, 13] rfl rfl rfl (fun xv wS hS hV bq hb K hK => ?_)) ?_
    ·obtain ⟨h1, h9, h14, h13, _⟩ := hV
     have h1 : xv 1 = _ := h1
     simp only [putsOf, List.foldl_cons, List.foldl_nil, List.getD_cons_zero, List.getD_cons_succ, List.getD_nil, cond_true, cond_false, Act.put, List.setIfInBounds_toArray, List.set_cons_zero, List.set_cons_succ, h1] at hb
     clear h1
     generalize xv 9 = y9 at *
     generalize xv 14 = y14 at *
     generalize xv 13 = y13 at *
     subst hb
     rw [if_pos (by rfl)]
     have HSS := Lib.hid hS
     obtain ⟨g, u, rfl, hg9, hl9, hu9⟩ := h9
     clear hS
     refine step_list (ops := #[]) (by rfl) (append_argS wS 1 rfl (.tmp 18) (.tmp 26) 23 rfl w.heap.size 47 _ 24 Tryz.underlying23 Tryz.infoTh rfl (by decide) vt i vs rfl h14 (some ⟨g, 0, none⟩) 1 1 rfl [u] ⟨rfl, _, _, rfl, Nat.le_refl _, by unfold maxLen; omega, (fun h => by cases h), fun k x hx => ⟨g, 0, rfl, by rw [Nat.zero_add, hl9.cell]; rw [← hx]; simp⟩⟩ (by intro q hq; simp at hq; subst hq; exact own_one hu9) (by unfold maxLen; omega) (by omega) HSS.out.bel.size ?_)
     intro v' w' ho hb hgr
     have hk := Kept.of_grown hgr
     exact hK.out _ _ ⟨_, rfl, HSS.out.kept hk (fun k hk2 hs => by have := (own_lt h14 hs).1; omega) (fun hs => own_ne h14 HSS.out.box (by decide) hs) (fun hs => own_ne h14 HSS.out.res (by decide) hs) (fun r cur hr hl3 hs => own_ne h14 hl3 (by decide) hs) (fun r cur hr hl3 hs => own_ne h14 hl3 (by decide) hs), ⟨u, ho, owns_kept hu9 hk (fun r cur _ hl3 hs => own_ne h14 hl3 (by decide) hs)⟩, AllP.of _ (fun j hj q h => cpV_low2 hk (fun hs => own_ne h14 (show Lies wS n3 _ _ from h13) (by decide) hs) (all_in (fun j => cpLow j && j != 14) rfl hj) h)⟩
    refine RelySteps.cons (RelyStep.mk [] [10, 13] rfl rfl rfl (fun xv wS hS hV bq hb K hK => ?_)) ?_
    ·clear hV
     simp only [putsOf, List.foldl_cons, List.foldl_nil, List.getD_cons_zero, List.getD_cons_succ, List.getD_nil, cond_true, cond_false, Act.put, List.setIfInBounds_toArray, List.set_cons_zero, List.set_cons_succ] at hb
     subst hb
     rw [if_pos (by rfl)]
     go_wp2_with fail
     exact hK.out _ _ ⟨_, rfl, hS, rfl, AllP.same _⟩
    refine RelySteps.cons (RelyStep.mk [11, 10, 13] [] rfl rfl rfl (fun xv wS hS hV bq hb K hK => ?_)) ?_
    ·obtain ⟨h11, h10, h13, _⟩ := hV
     have h11 : xv 11 = _ := h11
     simp only [putsOf, List.foldl_cons, List.foldl_nil, List.getD_cons_zero, List.getD_cons_succ, List.getD_nil, cond_true, cond_false, Act.put, List.setIfInBounds_toArray, List.set_cons_zero, List.set_cons_succ, h11] at hb
     clear h11
     generalize xv 10 = y10 at *
     generalize xv 13 = y13 at *
     subst hb
     rw [if_pos (by rfl)]
     have HSS := Lib.hid hS
     obtain ⟨u, ho, hu⟩ := h10
     have hl13 : Lies wS n3 25 #[.slice Ar p.rs.length cr, vt] := h13
     obtain ⟨A10, c10, rfl⟩ := own_slice ho
     have HO10 := Lib.hid ho
     have HU10 := Lib.hid hu
     have HL13 := Lib.hid hl13
     have q1 := (hl13.cell 1).trans (show _ = some vt from rfl)
     have f1 := hl13.free 1
     have qt := hl13.lt
     clear hS ho hu hl13 h13
     go_wp2_with fail
     exact hK.out _ _ ⟨undef, rfl, HSS.out.kept (Kept.put wS n3 1 _) (fun k hk (e : k = n3) => by omega) (fun (e : _ = n3) => by omega) (fun (e : _ = n3) => by omega) (fun r cur _ hl3 (e : r = n3) => by subst e; exact absurd (hl3.same HL13.out).1 (by decide)) (fun r cur _ hl3 (e : r = n3) => by subst e; exact absurd (hl3.same HL13.out).1 (by decide)),
      ⟨_, u, HL13.out.put 1 _, owns_put HO10.out HL13.out (by decide) 1 _, owns_put HU10.out HL13.out (by decide) 1 _⟩, AllP.of _ (fun j hj q h => cpV_low3 (all_in (fun j => cpLow j && (j != 14 && j != 13)) rfl hj) h)⟩
    exact RelySteps.nil
   case rE =>
    intro xv wE hS hV
    have h12 := hV 12 (by decide) (by decide)
    clear hV
    simp only [putsOf, List.foldl_cons, List.foldl_nil, List.getD_cons_zero, List.getD_cons_succ, List.getD_nil, cond_true, cond_false, Act.put, List.setIfInBounds_toArray, List.set_cons_zero, List.set_cons_succ]
    generalize xv 0 = y0 at *
    generalize xv 1 = y1 at *
    generalize xv 2 = y2 at *
    generalize xv 3 = y3 at *
    generalize xv 4 = y4 at *
    generalize xv 5 = y5 at *
    generalize xv 6 = y6 at *
    generalize xv 7 = y7 at *
    generalize xv 8 = y8 at *
    generalize xv 9 = y9 at *
    generalize xv 10 = y10 at *
    generalize xv 11 = y11 at *
    generalize xv 12 = y12 at *
    obtain ⟨v, u, hn', hv', hu'⟩ := h12
    have HS2 : Hid (CpS w wE wE (pgC A c (some ⟨b, off, none⟩) d p) (.slice Ar p.rs.length cr) p (vs ++ [u])) :=
     ⟨hS.bel, Nat.le_refl _, hS.rr, fun r hr => Nat.lt_of_lt_of_le (hS.rlt r hr) hS.le, (hS.inn.mono hS.le).snoc (by rw [HVL.out]; exact HLL.out) (owns_mono hu' (by have := hS0.out; omega)) (fun r hr => (own_lt hu' hr).2), hS.box, hS.res⟩
    have HN2 := Lib.hid hn'
    have HV2 := Lib.hid hv'
    clear hS hn' hv' hu'
    go_wp2
    go_roundw
    case rel => exact ⟨i + 1, v, vs ++ [u], by omega, by go_num, HS2, HN2, HV2⟩
    case measure => simp [intOf]; omega
  ·obtain rfl : i = p.ts.length := by omega
   obtain ⟨At, ct, rfl⟩ := own_slice hv.out
   have n0 := (hn.out.cell 0).trans (show _ = some (Value.slice Ar p.rs.length cr) from rfl)
   have n1 := (hn.out.cell 1).trans (show _ = some (Value.slice At p.ts.length ct) from rfl)
   have nlt := hn.out.lt
   have rf0 := hS.out.res.free 0
   have rf1 := hS.out.res.free 1
   have rlt := hS.out.res.lt
   have r0 := (hS.out.res.cell 0).trans (show _ = some (Value.slice none 0 0) from rfl)
   have r1 := (hS.out.res.cell 1).trans (show _ = some (Value.slice none 0 0) from rfl)
   have HK := Lib.hid ((Kept.put wr (w.heap.size + 1) 0 (.slice Ar p.rs.length cr)).trans (Kept.put _ (w.heap.size + 1) 1 (.slice At p.ts.length ct)) (fun _ _ h => h))
   have HR := Lib.hid ((hS.out.res.put 0 (.slice Ar p.rs.length cr)).put 1 (.slice At p.ts.length ct))
   have q0 := (HR.out.cell 0).trans (show _ = some (Value.slice Ar p.rs.length cr) from rfl)
   have q1 := (HR.out.cell 1).trans (show _ = some (Value.slice At p.ts.length ct) from rfl)
   have HQ0 := Lib.hid q0
   have HQ1 := Lib.hid q1
   clear q0 q1
   go_wp2
   refine bodyPost_ret (v := .agg #[.slice Ar p.rs.length cr, .slice At p.ts.length ct]) (by simp [results, Tryz.results12, go_sem, HQ0.out, HQ1.out]) rfl ?_
   exact ⟨_, _, vs, rfl, owns_kept hS.out.rr HK.out (fun r cur hr hl3 (e : r = w.heap.size + 1) => by subst e; exact absurd (hl3.same hS.out.res).1 (by decide)),
    owns_kept hv.out HK.out (fun r cur hr hl3 (e : r = w.heap.size + 1) => by subst e; exact absurd (hl3.same hS.out.res).1 (by decide)),
    (hS.out.inn.kept HK.out (fun r cur _ hl3 (e : r = w.heap.size + 1) => by subst e; exact absurd (hl3.same hS.out.res).1 (by decide))).mono HK.out.size,
    hS.out.bel.trans (HK.out.below hS.out.bel.size (fun k hk (e : k = w.heap.size + 1) => by omega))⟩
theorem ril_iff {r : Ri} : rilB r = true ↔ (0 ≤ r.k ∧ r.k ≤ 255) ∧ (0 ≤ r.c ∧ r.c ≤ 255) ∧ (0 ≤ r.r ∧ r.r ≤ 255) := by
 unfold rilB wB
 simp only [Bool.and_eq_true, decide_eq_true_eq]
theorem ril_not {r : Ri} (h : ¬ ((0 ≤ r.k ∧ r.k ≤ 255) ∧ (0 ≤ r.c ∧ r.c ≤ 255) ∧ (0 ≤ r.r ∧ r.r ≤ 255))) : rilB r = false := by
 cases hq : rilB r with
 | false => rfl
 | true => exact absurd (ril_iff.1 hq) h
set_option maxHeartbeats 16000000 in
set_option maxRecDepth 100000 in
theorem rfWritten (p : Pg) (A : Option Addr) (c : Nat) (B : Option Addr) (d : Nat) (w : World) (h : PgAt w A c B d p) (hok : pgOk p) :
  Calls Tryz.prog 35 #[.agg (pgC A c B d p)] w fun e w' => e = .returned (.bool (encB p)) ∧ Below w.heap.size w w' := by
 obtain ⟨hc1, hc2⟩ := seq_form h.1
 obtain ⟨hd1, hd2⟩ := h.2.form
 have hb0 : Below w.heap.size w (w.alloc (.cells (pgC A c B d p) 25)) := (Below.refl _ _).alloc (Nat.le_refl _) _
 have l0 := Lies.made w 25 (pgC A c B d p)
 have HH := Lib.hid h
 have HOK := Lib.hid hok
 have HB0 := Lib.hid hb0
 have HL0 := Lib.hid l0
 have HEN := Lib.hid (@enc_not p)
 have HET := Lib.hid (@enc_parts p).2
 clear h hb0 l0 hok
 by_cases h1 : 8 < p.rs.length
 ·have HE := Lib.hid (HEN.out (fun h => by have := h.1; omega))
  have e1 : decide ((8 : Int) < (p.rs.length : Int)) = true := decide_eq_true (by omega)
  have e2 : decide (8 < p.rs.length) = true := decide_eq_true h1
  clear h1 HEN HET
  go_enter Tryz.func35, Tryz.ntmps35
  go_wp2
  go_ret
  exact ⟨ret_bool (by rw [HE.out]), HB0.out⟩
 have e1 : decide ((8 : Int) < (p.rs.length : Int)) = false := decide_eq_false (by omega)
 have e2 : decide (8 < p.rs.length) = false := decide_eq_false h1
 by_cases h2 : 8 < p.ts.length
 ·have HE := Lib.hid (HEN.out (fun h => by have := h.2.1; omega))
  have e3 : decide ((8 : Int) < (p.ts.length : Int)) = true := decide_eq_true (by omega)
  have e4 : decide (8 < p.ts.length) = true := decide_eq_true h2
  clear h2 HEN HET
  go_enter Tryz.func35, Tryz.ntmps35
  go_wp2
  go_ret
  exact ⟨ret_bool (by rw [HE.out]), HB0.out⟩
 have e3 : decide ((8 : Int) < (p.ts.length : Int)) = false := decide_eq_false (by omega)
 have e4 : decide (8 < p.ts.length) = false := decide_eq_false h2
 go_enter Tryz.func35, Tryz.ntmps35
 go_wp2_with fail
 generalize w.alloc (.cells (pgC A c B d p) 25) = w1 at *
 go_loopw [3] (fun u wr => ∃ i : Nat, i ≤ p.rs.length ∧ u = .int .i64 i ∧ Hid (∀ r ∈ p.rs.take i, rilB r = true) ∧ Hid (Below w.heap.size w wr) ∧ Hid (Lies wr w.heap.size 25 (pgC A c B d p))) (fun u _ => p.rs.length - (intOf u).toNat)
 case atStart => exact ⟨0, by omega, rfl, (by show ∀ r ∈ p.rs.take 0, _; simp), HB0, HL0⟩
 case round =>
  clear HB0 HL0
  obtain ⟨i, hi, rfl, hq, hbw, hlw⟩ := hrel
  have c0 := (hlw.out.cell 0).trans (show _ = some (Value.slice A p.rs.length c) from rfl)
  have cl := hlw.out.lt
  by_cases hlt : i < p.rs.length
  ·have hii : (i : Int) < (p.rs.length : Int) := by omega
   obtain ⟨r, hr⟩ : ∃ r, p.rs[i]? = some r := ⟨_, List.getElem?_eq_getElem hlt⟩
   obtain ⟨b, off, rfl, hbl, hg⟩ := RisAt.at_ (HH.out.1.later hbw.out) hr
   have g0 := hg 0 _ (by decide) rfl
   have g1 := hg 1 _ (by decide) rfl
   have g2 := hg 2 _ (by decide) rfl
   rw [Nat.add_zero] at g0
   have hbx : Below wr.heap.size wr (wr.alloc (.cells #[.int .i64 r.k, .int .i64 r.c, .int .i64 r.r] 51)) := (Below.refl _ _).alloc (Nat.le_refl _) _
   have HBW := Lib.hid (hbw.out.trans (hbx.mono hbw.out.size))
   have HLW := Lib.hid (hlw.out.below hbx hlw.out.lt)
   have HN := Lib.hid (fun (h : rilB r = true) => take_all_next (q := fun r => rilB r = true) hq.out hr h)
   have HNO := Lib.hid (fun (h : rilB r = false) => HEN.out (fun hh => by have := hh.2.2.1 r (List.mem_of_getElem? hr); rw [h] at this; cases this))
   clear hg hr hbx hq hbw hlw
   by_cases q1 : r.k < 0
   ·have ex : decide (r.k < 0) = true := decide_eq_true q1
    have HE := Lib.hid (HNO.out (ril_not (fun h => by omega)))
    clear q1
    go_wp2
    go_ret
    exact ⟨ret_bool (by rw [HE.out]), HBW.out⟩
   have f1 : decide (r.k < 0) = false := decide_eq_false q1
   by_cases q2 : 255 < r.k
   ·have ex : decide (255 < r.k) = true := decide_eq_true q2
    have HE := Lib.hid (HNO.out (ril_not (fun h => by omega)))
    clear q2
    go_wp2
    go_ret
    exact ⟨ret_bool (by rw [HE.out]), HBW.out⟩
   have f2 : decide (255 < r.k) = false := decide_eq_false q2
   by_cases q3 : r.c < 0
   ·have ex : decide (r.c < 0) = true := decide_eq_true q3
    have HE := Lib.hid (HNO.out (ril_not (fun h => by omega)))
    clear q3
    go_wp2
    go_ret
    exact ⟨ret_bool (by rw [HE.out]), HBW.out⟩
   have f3 : decide (r.c < 0) = false := decide_eq_false q3
   by_cases q4 : 255 < r.c
   ·have ex : decide (255 < r.c) = true := decide_eq_true q4
    have HE := Lib.hid (HNO.out (ril_not (fun h => by omega)))
    clear q4
    go_wp2
    go_ret
    exact ⟨ret_bool (by rw [HE.out]), HBW.out⟩
   have f4 : decide (255 < r.c) = false := decide_eq_false q4
   by_cases q5 : r.r < 0
   ·have ex : decide (r.r < 0) = true := decide_eq_true q5
    have HE := Lib.hid (HNO.out (ril_not (fun h => by omega)))
    clear q5
    go_wp2
    go_ret
    exact ⟨ret_bool (by rw [HE.out]), HBW.out⟩
   have f5 : decide (r.r < 0) = false := decide_eq_false q5
   by_cases q6 : 255 < r.r
   ·have ex : decide (255 < r.r) = true := decide_eq_true q6
    have HE := Lib.hid (HNO.out (ril_not (fun h => by omega)))
    clear q6
    go_wp2
    go_ret
    exact ⟨ret_bool (by rw [HE.out]), HBW.out⟩
   have f6 : decide (255 < r.r) = false := decide_eq_false q6
   have HN2 := Lib.hid (HN.out (ril_iff.2 ⟨⟨by omega, by omega⟩, ⟨by omega, by omega⟩, by omega, by omega⟩))
   clear q1 q2 q3 q4 q5 q6
   go_wp2
   go_roundw
   case rel => exact ⟨i + 1, by omega, by go_num, HN2, HBW, HLW⟩
   case measure => simp [intOf]; omega
  ·obtain rfl : i = p.rs.length := by omega
   have hq2 := hq.out
   rw [List.take_length] at hq2
   have HRA := Lib.hid hq2
   clear hq hq2
   go_wp2_with fail
   clear c0 cl
   go_loopw [5] (fun u wq => ∃ t : Nat, t ≤ p.ts.length ∧ u = .int .i64 t ∧ Hid (∀ l ∈ p.ts.take t, l.length ≤ 256 ∧ ∀ x ∈ l, rightB x = true) ∧ Hid (Below w.heap.size w wq) ∧ Hid (Lies wq w.heap.size 25 (pgC A c B d p))) (fun u _ => p.ts.length - (intOf u).toNat)
   case atStart => exact ⟨0, by omega, rfl, (by show ∀ l ∈ p.ts.take 0, _; simp), hbw, hlw⟩
   case round =>
    clear hbw hlw
    obtain ⟨t, ht, rfl, hq, hbw, hlw⟩ := hrel
    have c1 := (hlw.out.cell 1).trans (show _ = some (Value.slice B p.ts.length d) from rfl)
    have cl := hlw.out.lt
    by_cases hlt : t < p.ts.length
    ·have hii : (t : Int) < (p.ts.length : Int) := by omega
     obtain ⟨l, hl⟩ : ∃ l, p.ts[t]? = some l := ⟨_, List.getElem?_eq_getElem hlt⟩
     obtain ⟨b, off, B2, d2, rfl, g0w, hil⟩ := HH.out.2.at_ hl
     obtain ⟨hc3, hc4⟩ := seq_form hil
     have HG := Lib.hid (fun wx (hx : Below w.heap.size w wx) => (hx.cell (p := ⟨b, off + t, none⟩) (World.block_lt_of_cell? w _ g0w)).trans g0w)
     have g0 := HG.out _ hbw.out
     have gl := World.block_lt_of_cell? _ _ g0
     have HIL := Lib.hid hil
     have HOL := Lib.hid (HOK.out.2 l (List.mem_of_getElem? hl))
     have HN := Lib.hid (fun (h : l.length ≤ 256 ∧ ∀ x ∈ l, rightB x = true) => take_all_next (q := fun l => l.length ≤ 256 ∧ ∀ x ∈ l, rightB x = true) hq.out hl h)
     have HNO := Lib.hid (fun (h : ¬ (l.length ≤ 256 ∧ ∀ x ∈ l, rightB x = true)) => HEN.out (fun hh => h (hh.2.2.2 l (List.mem_of_getElem? hl))))
     clear hq hil hl g0w
     by_cases h256 : 256 < l.length
     ·have HE := Lib.hid (HNO.out (fun h => by have := h.1; omega))
      have e5 : decide ((256 : Int) < (l.length : Int)) = true := decide_eq_true (by omega)
      have e6 : decide (256 < l.length) = true := decide_eq_true h256
      go_wp2
      go_ret
      exact ⟨ret_bool (by rw [HE.out]), hbw.out⟩
     have e5 : decide ((256 : Int) < (l.length : Int)) = false := decide_eq_false (by omega)
     have e6 : decide (256 < l.length) = false := decide_eq_false h256
     go_wp2_with fail
     clear g0 gl c1 cl
     go_loopw [6] (fun u wk => ∃ k : Nat, k ≤ l.length ∧ u = .int .i64 k ∧ Hid (∀ x ∈ l.take k, rightB x = true) ∧ Hid (Below w.heap.size w wk) ∧ Hid (Lies wk w.heap.size 25 (pgC A c (some ⟨b, off, none⟩) d p))) (fun u _ => l.length - (intOf u).toNat)
     case atStart => exact ⟨0, by omega, rfl, (by show ∀ x ∈ l.take 0, _; simp), hbw, hlw⟩
     case round =>
      clear hbw hlw
      obtain ⟨k, hk, rfl, hqk, hbk, hlk⟩ := hrel
      have c1 := (hlk.out.cell 1).trans (show _ = some (Value.slice (some ⟨b, off, none⟩) p.ts.length d) from rfl)
      have cl := hlk.out.lt
      have g0 := HG.out _ hbk.out
      have gl := World.block_lt_of_cell? _ _ g0
      by_cases hkl : k < l.length
      ·have hkk : (k : Int) < (l.length : Int) := by omega
       obtain ⟨x, hx⟩ : ∃ x, l[k]? = some x := ⟨_, List.getElem?_eq_getElem hkl⟩
       obtain ⟨b3, off3, rfl, _, hg⟩ := InsAt.at_ (HIL.out.later hbk.out) hx
       have y0 := hg 0 _ (by decide) rfl
       have y1 := hg 1 _ (by decide) rfl
       have y2 := hg 2 _ (by decide) rfl
       have y3 := hg 3 _ (by decide) rfl
       have y4 := hg 4 _ (by decide) rfl
       have y5 := hg 5 _ (by decide) rfl
       rw [Nat.add_zero] at y0
       obtain ⟨rb, hrb⟩ : ∃ q, rightB x = q := ⟨_, rfl⟩
       have HX := Lib.hid hx
       have HRX := Lib.hid hrb
       have HC := Lib.hid (fun w => hrb ▸ rfRight x w (HOL.out x (List.mem_of_getElem? hx)))
       clear hg hx hrb
       go_wp2_with fail
       refine (HC.out _).mono ?_
       rintro e w4 ⟨rfl, hb4⟩
       have HB4 := Lib.hid (hbk.out.trans (hb4.mono hbk.out.size))
       have HL4 := Lib.hid (hlk.out.below hb4 hlk.out.lt)
       clear hb4 y0 y1 y2 y3 y4 y5 HC c1 cl g0 gl
       cases rb
       case false =>
        have HE := Lib.hid (HNO.out (fun h => by have := h.2 x (List.mem_of_getElem? HX.out); rw [HRX.out] at this; cases this))
        go_wp2
        go_ret
        exact ⟨ret_bool (by rw [HE.out]), HB4.out⟩
       have HQ := Lib.hid (take_all_next (q := fun x => rightB x = true) hqk.out HX.out HRX.out)
       go_wp2
       go_roundw
       case rel => exact ⟨k + 1, by omega, by go_num, HQ, HB4, HL4⟩
       case measure => simp [intOf]; omega
      ·obtain rfl : k = l.length := by omega
       have hqk2 := hqk.out
       rw [List.take_length] at hqk2
       have HN2 := Lib.hid (HN.out ⟨by omega, hqk2⟩)
       clear hqk hqk2
       go_wp2
       go_roundw
       case rel => exact ⟨t + 1, by omega, by go_num, HN2, hbk, hlk⟩
       case measure => simp [intOf]; omega
    ·obtain rfl : t = p.ts.length := by omega
     have hq2 := hq.out
     rw [List.take_length] at hq2
     have HE := Lib.hid (HET.out ⟨by omega, by omega, HRA.out, hq2⟩)
     clear hq hq2
     go_wp2
     go_ret
     exact ⟨ret_bool (by rw [HE.out]), hbw.out⟩
theorem lnrT_full {r : Ri} (h : rilOk r = true) : (lnrT r).toList.isEmpty = false := by
 unfold lnrT
 rw [if_pos h, text_toList]
 unfold lnR
 split <;> rfl
set_option maxHeartbeats 8000000 in
set_option maxRecDepth 100000 in
theorem rfListed10 (p : Pg) (A : Option Addr) (c : Nat) (B : Option Addr) (d : Nat) (w : World) (h : PgAt w A c B d p) (hok : pgOk p) :
  Calls Tryz.prog 16 #[.agg (pgC A c B d p)] w fun e w' => e = .returned (.bool (lsB p)) ∧ Below w.heap.size w w' := by
 obtain ⟨hc1, hc2⟩ := seq_form h.1
 obtain ⟨hd1, hd2⟩ := h.2.form
 have hb0 : Below w.heap.size w (w.alloc (.cells (pgC A c B d p) 25)) := (Below.refl _ _).alloc (Nat.le_refl _) _
 have HH := Lib.hid h
 have HOK := Lib.hid hok
 have HB0 := Lib.hid hb0
 have HL0 := Lib.hid (Lies.made w 25 (pgC A c B d p))
 clear h hb0 hok
 go_enter Tryz.func16, Tryz.ntmps16
 go_upto_region 1 with (fail)
 obtain ⟨g, hg⟩ : ∃ g, g = w.heap.size := ⟨_, rfl⟩
 rw [← hg] at HL0 ⊢
 clear hg
 generalize w.alloc (.cells (pgC A c B d p) 25) = w1 at *
 go_wp2_with fail
 go_loopw [3] (fun u wr => ∃ i : Nat, i ≤ p.rs.length ∧ u = .int .i64 i ∧ Hid (∀ r ∈ p.rs.take i, rilOk r = true) ∧ Hid (Lies wr g 25 (pgC A c B d p)) ∧ Hid (Below w.heap.size w wr)) (fun u _ => p.rs.length - (intOf u).toNat)
 case atStart => exact ⟨0, by omega, rfl, (fun r hr => by simp at hr), HL0.out, HB0.out⟩
 case round =>
  clear HL0 HB0
  obtain ⟨i, hi, rfl, HOKS, HL, HB⟩ := hrel
  have c0 := (HL.out.cell 0).trans (show _ = some (Value.slice A p.rs.length c) from rfl)
  have c1 := (HL.out.cell 1).trans (show _ = some (Value.slice B p.ts.length d) from rfl)
  have cl := HL.out.lt
  by_cases hlt : i < p.rs.length
  ·have hii : (i : Int) < (p.rs.length : Int) := by omega
   obtain ⟨r, hr⟩ : ∃ r, p.rs[i]? = some r := ⟨_, List.getElem?_eq_getElem hlt⟩
   obtain ⟨b, off, rfl, hbl, hg⟩ := RisAt.at_ (HH.out.1.later HB.out) hr
   have g0 := hg 0 _ (by decide) rfl
   have g1 := hg 1 _ (by decide) rfl
   have g2 := hg 2 _ (by decide) rfl
   rw [Nat.add_zero] at g0
   have HI := Lib.hid (rfRing10 r wr)
   have HRM := Lib.hid hr
   clear hg hr
   go_wp2_with fail
   refine HI.out.mono ?_
   rintro e w5 ⟨rfl, hb5⟩
   have HL5 := Lib.hid (HL.out.below hb5 HL.out.lt)
   have HB5 := Lib.hid (HB.out.trans (hb5.mono HB.out.size))
   clear HL HB HI hb5 g0 g1 g2 hbl c0 c1 cl
   by_cases hok : rilOk r = true
   case neg =>
    have hls : lsB p = false := by
     unfold lsB
     rw [Bool.and_eq_false_iff]
     refine .inr ?_
     rw [List.all_eq_false]
     exact ⟨r, List.mem_of_getElem? HRM.out, hok⟩
    have HE := Lib.hid hls
    rw [show lnrT r = ⟨#[]⟩ from if_neg hok]
    clear hls
    go_wp2
    go_ret
    exact ⟨by rw [HE.out]; rfl, HB5.out⟩
   have e1 := lnrT_full hok
   have HOK2 : Hid (∀ y ∈ p.rs.take (i + 1), rilOk y = true) := take_all_next HOKS.out HRM.out hok
   clear hok
   generalize lnrT r = T at *
   go_wp2
   go_roundw
   case rel => exact ⟨i + 1, by omega, by go_num, HOK2, HL5, HB5⟩
   case measure => simp [intOf]; omega
  ·obtain rfl : i = p.rs.length := by omega
   rw [List.take_length] at HOKS
   have HLS : Hid (lsB p = encB p) := by
    show _ = _
    unfold lsB
    rw [List.all_eq_true.2 HOKS.out, Bool.and_true]
   have HW := Lib.hid (rfWritten p A c B d wr (HH.out.later HB.out) HOK.out)
   go_wp2_with fail
   refine HW.out.mono ?_
   rintro e w9 ⟨rfl, hb9⟩
   have HB9 := Lib.hid (HB.out.trans (hb9.mono HB.out.size))
   go_wp2
   go_ret
   exact ⟨by rw [HLS.out]; rfl, HB9.out⟩
theorem prRs_len (l : List Ri) : (prRs l).length ≤ 47 * l.length := flat_le (f := fun r => lnR r ++ [10]) (m := 47) l (fun x _ => by
 have := lnR_len x
 simp only [List.length_append, List.length_cons, List.length_nil]; omega)
theorem prTs_len (l : List (List In)) (h : ∀ t ∈ l, t.length ≤ 256) : (prTs l).length ≤ 60000 * l.length := flat_le (f := fun t => thrW ++ prIs t) (m := 60000) l (fun x hx => by
 have := prIs_len x
 have := h x hx
 unfold thrW
 simp only [List.length_append, List.length_cons, List.length_nil]; omega)
theorem text_snoc2 (a b : List UInt8) : textB a ++ (textB b ++ (⟨#[10]⟩ : ByteArray)) = textB (a ++ (b ++ [10])) := by
 rw [show (⟨#[10]⟩ : ByteArray) = textB [10] from rfl, text_append, text_append]
set_option maxHeartbeats 16000000 in
set_option maxRecDepth 100000 in
theorem rfPrint10 (p : Pg) (A : Option Addr) (c : Nat) (B : Option Addr) (d : Nat) (w : World) (h : PgAt w A c B d p) (hls : lsB p = true) :
  Calls Tryz.prog 17 #[.agg (pgC A c B d p)] w fun e w' => e = .returned (.string (textB (prL p))) ∧ Below w.heap.size w w' := by
 obtain ⟨hc1, hc2⟩ := seq_form h.1
 obtain ⟨hd1, hd2⟩ := h.2.form
 have hb0 : Below w.heap.size w (w.alloc (.cells (pgC A c B d p) 25)) := (Below.refl _ _).alloc (Nat.le_refl _) _
 unfold lsB at hls
 rw [Bool.and_eq_true, List.all_eq_true] at hls
 obtain ⟨hr8, ht8, hril, hthl⟩ := enc_parts.1 hls.1
 have HRI := Lib.hid hls.2
 have HTH := Lib.hid hthl
 have HH := Lib.hid h
 have HB0 := Lib.hid hb0
 have HL0 := Lib.hid (Lies.made w 25 (pgC A c B d p))
 clear h hb0 hls hril hthl
 go_enter Tryz.func17, Tryz.ntmps17
 go_upto_region 2 with (fail)
 obtain ⟨g, hg⟩ : ∃ g, g = w.heap.size := ⟨_, rfl⟩
 rw [← hg] at HL0 ⊢
 clear hg
 generalize w.alloc (.cells (pgC A c B d p) 25) = w1 at *
 go_wp2_with fail
 go_loopw [3, 4] (fun s u wr => ∃ i : Nat, i ≤ p.rs.length ∧ u = .int .i64 i ∧ s = .string (textB (prRs (p.rs.take i))) ∧ Hid (Lies wr g 25 (pgC A c B d p)) ∧ Hid (Below w.heap.size w wr)) (fun _ u _ => p.rs.length - (intOf u).toNat)
 case atStart => exact ⟨0, by omega, rfl, rfl, HL0.out, HB0.out⟩
 case round =>
  clear HL0 HB0
  obtain ⟨i, hi, rfl, rfl, HL, HB⟩ := hrel
  have c0 := (HL.out.cell 0).trans (show _ = some (Value.slice A p.rs.length c) from rfl)
  have c1 := (HL.out.cell 1).trans (show _ = some (Value.slice B p.ts.length d) from rfl)
  have cl := HL.out.lt
  by_cases hlt : i < p.rs.length
  ·have hii : (i : Int) < (p.rs.length : Int) := by omega
   obtain ⟨r, hr⟩ : ∃ r, p.rs[i]? = some r := ⟨_, List.getElem?_eq_getElem hlt⟩
   obtain ⟨b, off, rfl, hbl, hg⟩ := RisAt.at_ (HH.out.1.later HB.out) hr
   have g0 := hg 0 _ (by decide) rfl
   have g1 := hg 1 _ (by decide) rfl
   have g2 := hg 2 _ (by decide) rfl
   rw [Nat.add_zero] at g0
   have hT : lnrT r = textB (lnR r) := if_pos (HRI.out r (List.mem_of_getElem? hr))
   have HI := Lib.hid (rfRing10 r wr)
   rw [hT] at HI
   have hJ : textB (prRs (p.rs.take i)) ++ (textB (lnR r) ++ (⟨#[10]⟩ : ByteArray)) = textB (prRs (p.rs.take (i + 1))) := by
    rw [text_snoc2]
    unfold prRs
    rw [flat_next _ hr]
   have s1 := prRs_len (p.rs.take i)
   rw [List.length_take] at s1
   have s2 := lnR_len r
   obtain ⟨S, hS⟩ : ∃ S, S = textB (prRs (p.rs.take i)) := ⟨_, rfl⟩
   obtain ⟨T, hT2⟩ : ∃ S, S = textB (lnR r) := ⟨_, rfl⟩
   have hs1 : S.size ≤ 1000 := by rw [hS, textB_size]; omega
   have hs2 : T.size ≤ 46 := by rw [hT2, textB_size]; omega
   rw [← hS, ← hT2] at hJ
   rw [← hT2] at HI
   rw [← hS]
   have HJ := Lib.hid hJ
   have z1 : ¬ 9223372036854775807 < T.size + 1 := by omega
   have z2 : ¬ 9223372036854775807 < S.size + (T.size + 1) := by omega
   clear hg hr hT hJ s1 s2 hS hT2
   go_wp2_with fail
   refine HI.out.mono ?_
   rintro e w5 ⟨rfl, hb5⟩
   have HL5 := Lib.hid (HL.out.below hb5 HL.out.lt)
   have HB5 := Lib.hid (HB.out.trans (hb5.mono HB.out.size))
   clear HL HB HI hb5 g0 g1 g2 hbl c0 c1 cl
   go_wp2
   go_roundw
   case rel => exact ⟨i + 1, by omega, by go_num, by rw [HJ.out], HL5, HB5⟩
   case measure => simp [intOf]; omega
  ·obtain rfl : i = p.rs.length := by omega
   have s0 := prRs_len p.rs
   have HS0 := Lib.hid (show textB (prRs (p.rs.take p.rs.length)) = textB (prRs p.rs ++ prTs (p.ts.take 0)) by rw [List.take_length]; simp [prTs])
   rw [HS0.out]
   clear HS0
   go_wp2_with fail
   clear c0 c1 cl
   go_loopw [3, 5] (fun s u wq => ∃ t : Nat, t ≤ p.ts.length ∧ u = .int .i64 t ∧ s = .string (textB (prRs p.rs ++ prTs (p.ts.take t))) ∧ Hid (Lies wq g 25 (pgC A c B d p)) ∧ Hid (Below w.heap.size w wq)) (fun _ u _ => p.ts.length - (intOf u).toNat)
   case atStart => exact ⟨0, by omega, rfl, rfl, HL.out, HB.out⟩
   case round =>
    clear HL HB
    obtain ⟨t, ht, rfl, rfl, HL, HB⟩ := hrel
    have c0 := (HL.out.cell 0).trans (show _ = some (Value.slice A p.rs.length c) from rfl)
    have c1 := (HL.out.cell 1).trans (show _ = some (Value.slice B p.ts.length d) from rfl)
    have cl := HL.out.lt
    by_cases hlt : t < p.ts.length
    ·have hii : (t : Int) < (p.ts.length : Int) := by omega
     obtain ⟨l, hl⟩ : ∃ l, p.ts[t]? = some l := ⟨_, List.getElem?_eq_getElem hlt⟩
     obtain ⟨b, off, B2, d2, rfl, g0w, hil⟩ := HH.out.2.at_ hl
     obtain ⟨hc3, hc4⟩ := seq_form hil
     have HGW := Lib.hid g0w
     obtain ⟨h256, hrx⟩ := HTH.out l (List.mem_of_getElem? hl)
     have HIL := Lib.hid hil
     have HRX := Lib.hid hrx
     have HNX : Hid (prRs p.rs ++ prTs (p.ts.take t) ++ (thrW ++ prIs l) = prRs p.rs ++ prTs (p.ts.take (t + 1))) := by
      show _ = _
      unfold prTs
      rw [flat_next _ hl, List.append_assoc]
     have s1 := prTs_len (p.ts.take t) (fun q hq => (HTH.out q (List.mem_of_mem_take hq)).1)
     rw [List.length_take] at s1
     have hXL : (prRs p.rs ++ prTs (p.ts.take t)).length ≤ 500000 := by rw [List.length_append]; omega
     generalize prRs p.rs ++ prTs (p.ts.take t) = X1 at *
     have hJ : textB X1 ++ (⟨#[116, 104, 114, 101, 97, 100, 10]⟩ : ByteArray) = textB (X1 ++ thrW ++ prIs (l.take 0)) := by
      rw [show (⟨#[116, 104, 114, 101, 97, 100, 10]⟩ : ByteArray) = textB thrW from rfl, text_append]
      simp [prIs]
     have HX1 := Lib.hid (show (X1 ++ thrW).length ≤ 500007 by rw [List.length_append]; unfold thrW; simp only [List.length_cons, List.length_nil]; omega)
     obtain ⟨S, hS⟩ : ∃ S, S = textB X1 := ⟨_, rfl⟩
     have hs1 : S.size ≤ 500000 := by rw [hS, textB_size]; omega
     rw [← hS] at hJ ⊢
     have HJ := Lib.hid hJ
     have z1 : ¬ 9223372036854775807 < S.size + 7 := by omega
     clear hil hrx hl s1 hXL hJ hS
     go_wp2_with fail
     clear c0 c1 cl
     go_loopw [3, 6] (fun s u wq => ∃ k : Nat, k ≤ l.length ∧ u = .int .i64 k ∧ s = .string (textB (X1 ++ thrW ++ prIs (l.take k))) ∧ Hid (Lies wq g 25 (pgC A c (some ⟨b, off, none⟩) d p)) ∧ Hid (Below w.heap.size w wq)) (fun _ u _ => l.length - (intOf u).toNat)
     case atStart => exact ⟨0, by omega, rfl, by rw [HJ.out], HL.out, HB.out⟩
     case round =>
      clear HL HB HJ hs1 z1
      obtain ⟨k, hk, rfl, rfl, HL, HB⟩ := hrel
      have c0 := (HL.out.cell 0).trans (show _ = some (Value.slice A p.rs.length c) from rfl)
      have c1 := (HL.out.cell 1).trans (show _ = some (Value.slice (some ⟨b, off, none⟩) p.ts.length d) from rfl)
      have cl := HL.out.lt
      have g0 := cell_later HGW.out HB.out
      have gl := World.block_lt_of_cell? _ _ g0
      by_cases hkl : k < l.length
      ·have hkk : (k : Int) < (l.length : Int) := by omega
       obtain ⟨x, hx⟩ : ∃ x, l[k]? = some x := ⟨_, List.getElem?_eq_getElem hkl⟩
       obtain ⟨b3, off3, rfl, _, hg⟩ := InsAt.at_ (HIL.out.later HB.out) hx
       have y0 := hg 0 _ (by decide) rfl
       have y1 := hg 1 _ (by decide) rfl
       have y2 := hg 2 _ (by decide) rfl
       have y3 := hg 3 _ (by decide) rfl
       have y4 := hg 4 _ (by decide) rfl
       have y5 := hg 5 _ (by decide) rfl
       rw [Nat.add_zero] at y0
       have HI := Lib.hid (rfLine10 x wr (HRX.out x (List.mem_of_getElem? hx)))
       have hJ : textB (X1 ++ thrW ++ prIs (l.take k)) ++ (textB (lnI x) ++ (⟨#[10]⟩ : ByteArray)) = textB (X1 ++ thrW ++ prIs (l.take (k + 1))) := by
        rw [text_snoc2]
        unfold prIs
        rw [flat_next _ hx, List.append_assoc]
       have s1 := prIs_len (l.take k)
       rw [List.length_take] at s1
       have s2 := lnI_len x
       have s3 : (X1 ++ thrW ++ prIs (l.take k)).length ≤ 600000 := by have := HX1.out; rw [List.length_append]; omega
       obtain ⟨S, hS⟩ : ∃ S, S = textB (X1 ++ thrW ++ prIs (l.take k)) := ⟨_, rfl⟩
       obtain ⟨T, hT2⟩ : ∃ S, S = textB (lnI x) := ⟨_, rfl⟩
       have hs1 : S.size ≤ 600000 := by rw [hS, textB_size]; omega
       have hs2 : T.size ≤ 200 := by rw [hT2, textB_size]; omega
       rw [← hS, ← hT2] at hJ
       rw [← hT2] at HI
       rw [← hS]
       have HJ := Lib.hid hJ
       have z1 : ¬ 9223372036854775807 < T.size + 1 := by omega
       have z2 : ¬ 9223372036854775807 < S.size + (T.size + 1) := by omega
       clear hg hx hJ s1 s2 s3 hS hT2
       go_wp2_with fail
       refine HI.out.mono ?_
       rintro e w5 ⟨rfl, hb5⟩
       have HL5 := Lib.hid (HL.out.below hb5 HL.out.lt)
       have HB5 := Lib.hid (HB.out.trans (hb5.mono HB.out.size))
       clear HL HB HI hb5 g0 gl c0 c1 cl y0 y1 y2 y3 y4 y5
       go_wp2
       go_roundw
       case rel => exact ⟨k + 1, by omega, by go_num, by rw [HJ.out], HL5, HB5⟩
       case measure => simp [intOf]; omega
      ·obtain rfl : k = l.length := by omega
       have HE := Lib.hid (show textB (X1 ++ thrW ++ prIs (l.take l.length)) = textB (prRs p.rs ++ prTs (p.ts.take (t + 1))) by rw [List.take_length, List.append_assoc, HNX.out])
       go_wp2
       go_roundw
       case rel => exact ⟨t + 1, by omega, by go_num, by rw [HE.out], HL, HB⟩
       case measure => simp [intOf]; omega
    ·obtain rfl : t = p.ts.length := by omega
     have HE := Lib.hid (show textB (prRs p.rs ++ prTs (p.ts.take p.ts.length)) = textB (prL p) by rw [List.take_length]; rfl)
     rw [HE.out]
     go_wp2
     go_ret
     exact ⟨rfl, HB.out⟩
section
variable {P : Program} {W : World} {H : Type} {enc : TypeId × Value → H}
theorem trod_slice_cell {t e : TypeId} {n : Nat} {cs : List Value} {y : DataW H × List MemPlace} (ht : P.underlying t = some (.slice e)) (h : DataW.trod enc P W 0 (fun _ => true) true n t cs = some y) :
  ∃ A len cap, cs = [.slice A len cap] ∧ DataW.Trod enc P W 0 (fun _ => true) true t (.slice A len cap) y.1 y.2 := by
 rcases Deep.open_slice ht h with ⟨hcs, _⟩ | ⟨a, len, cap, m, n, D, Pl, hcs, _⟩
 ·subst hcs; exact ⟨none, 0, 0, rfl, n, h⟩
 ·subst hcs; exact ⟨some a, len, cap, rfl, _, h⟩
end
theorem list6v {l : List Value} (h : l.length = 6) : ∃ a b c d e f, l = [a, b, c, d, e, f] := by
 match l, h with
 | [a, b, c, d, e, f], _ => exact ⟨a, b, c, d, e, f, rfl⟩
theorem list3v {l : List Value} (h : l.length = 3) : ∃ a b c, l = [a, b, c] := by
 match l, h with
 | [a, b, c], _ => exact ⟨a, b, c, rfl⟩
section
variable {W : World} {H : Type} {enc : TypeId × Value → H}
set_option maxRecDepth 100000 in
theorem in_open {n : Nat} {cs : List Value} {y : DataW H × List MemPlace} (hl : cs.length = 6) (h : DataW.trod enc Tryz.prog W 0 (fun _ => true) true n 28 cs = some y) : ∃ x : In, cs = inF x ∧ inOk x := by
 obtain ⟨z0, g0, b0⟩ := int_field (i := 0) (k := .i64) Tryz.underlying28 h rfl ⟨Tryz.underlying3, rfl, by kernel_rfl⟩
 obtain ⟨z1, g1, b1⟩ := int_field (i := 1) (k := .i64) Tryz.underlying28 h rfl ⟨Tryz.underlying3, rfl, by kernel_rfl⟩
 obtain ⟨z2, g2, b2⟩ := int_field (i := 2) (k := .i64) Tryz.underlying28 h rfl ⟨Tryz.underlying3, rfl, by kernel_rfl⟩
 obtain ⟨z3, g3, b3⟩ := int_field (i := 3) (k := .i64) Tryz.underlying28 h rfl ⟨Tryz.underlying3, rfl, by kernel_rfl⟩
 obtain ⟨z4, g4, b4⟩ := int_field (i := 4) (k := .i64) Tryz.underlying28 h rfl ⟨Tryz.underlying3, rfl, by kernel_rfl⟩
 obtain ⟨z5, g5, b5⟩ := int_field (i := 5) (k := .u64) Tryz.underlying28 h rfl ⟨Tryz.underlying26, rfl, by kernel_rfl⟩
 have c5 := Go.bounds_u64 b5
 obtain ⟨x0, x1, x2, x3, x4, x5, rfl⟩ := list6v hl
 simp at g0 g1 g2 g3 g4 g5
 subst g0 g1 g2 g3 g4 g5
 refine ⟨⟨z0, z1, z2, z3, z4, z5.toNat⟩, ?_, Go.bounds_i64 b0, Go.bounds_i64 b1, Go.bounds_i64 b2, Go.bounds_i64 b3, Go.bounds_i64 b4, ?_⟩
 ·unfold inF; simp only
  rw [show ((z5.toNat : Nat) : Int) = z5 by omega]
 ·simp only; omega
set_option maxRecDepth 100000 in
theorem ri_open {n : Nat} {cs : List Value} {y : DataW H × List MemPlace} (hl : cs.length = 3) (h : DataW.trod enc Tryz.prog W 0 (fun _ => true) true n 51 cs = some y) : ∃ x : Ri, cs = riF x ∧ riOk x := by
 obtain ⟨z0, g0, b0⟩ := int_field (i := 0) (k := .i64) Tryz.underlying51 h rfl ⟨Tryz.underlying3, rfl, by kernel_rfl⟩
 obtain ⟨z1, g1, b1⟩ := int_field (i := 1) (k := .i64) Tryz.underlying51 h rfl ⟨Tryz.underlying3, rfl, by kernel_rfl⟩
 obtain ⟨z2, g2, b2⟩ := int_field (i := 2) (k := .i64) Tryz.underlying51 h rfl ⟨Tryz.underlying3, rfl, by kernel_rfl⟩
 obtain ⟨x0, x1, x2, rfl⟩ := list3v hl
 simp at g0 g1 g2
 subst g0 g1 g2
 exact ⟨⟨z0, z1, z2⟩, rfl, Go.bounds_i64 b0, Go.bounds_i64 b1, Go.bounds_i64 b2⟩
theorem ins_open {a : Option Addr} {len cap : Nat} {d : DataW H} {p : List MemPlace} (h : DataW.Trod enc Tryz.prog W 0 (fun _ => true) true 47 (.slice a len cap) d p) : ∃ l : List In, l.length = len ∧ InsAt W a cap l ∧ ∀ x ∈ l, inOk x := by
 obtain ⟨l, _, h1, h2, h3⟩ := argOf (f := inF) (sz := 6) (ok := inOk) Tryz.underlying47 (by kernel_rfl) (by omega) (fun n cs y hl h => in_open hl h) h
 subst h1
 exact ⟨l, rfl, h2, h3⟩
theorem ris_open {a : Option Addr} {len cap : Nat} {d : DataW H} {p : List MemPlace} (h : DataW.Trod enc Tryz.prog W 0 (fun _ => true) true 22 (.slice a len cap) d p) : ∃ l : List Ri, l.length = len ∧ RisAt W a cap l ∧ ∀ x ∈ l, riOk x := by
 obtain ⟨l, _, h1, h2, h3⟩ := argOf (f := riF) (sz := 3) (ok := riOk) Tryz.underlying22 (by kernel_rfl) (by omega) (fun n cs y hl h => ri_open hl h) h
 subst h1
 exact ⟨l, rfl, h2, h3⟩
theorem ths_open {a : Option Addr} {len cap : Nat} {d : DataW H} {p : List MemPlace} (h : DataW.Trod enc Tryz.prog W 0 (fun _ => true) true 23 (.slice a len cap) d p) :
  ∃ ts : List (List In), ts.length = len ∧ ThsAt W a cap ts ∧ ∀ l ∈ ts, ∀ x ∈ l, inOk x := by
 obtain ⟨_, rows, hr, hs⟩ := argRows (sz := 1) Tryz.underlying23 (by kernel_rfl) (by omega) h
 obtain ⟨T, hT⟩ := Deep.choose_lt (α := Option Addr × Nat × List In) (n := len) (p := fun i q => rows i = [.slice q.1 q.2.2.length q.2.1] ∧ InsAt W q.1 q.2.1 q.2.2 ∧ ∀ x ∈ q.2.2, inOk x) (fun i hi => by
  obtain ⟨_, n, y, hy⟩ := hr i hi
  obtain ⟨A, l, c, e, ht⟩ := trod_slice_cell Tryz.underlying47 hy
  obtain ⟨q, h1, h2, h3⟩ := ins_open ht
  subst h1
  exact ⟨(A, c, q), e, h2, h3⟩)
 refine ⟨(List.range len).map (fun i => (T i).2.2), by simp, ⟨(List.range len).flatMap rows, ?_, fun i l hl => ?_⟩, fun l hl x hx => ?_⟩
 ·simp only [List.length_map, List.length_range]; exact hs
 ·rw [List.getElem?_map] at hl
  obtain ⟨j, hj, rfl⟩ := Option.map_eq_some_iff.1 hl
  have hi : i < len := by
   have := (List.getElem?_eq_some_iff.1 hj).1
   simpa using this
  rw [List.getElem?_range hi] at hj
  injection hj with hj
  subst hj
  obtain ⟨e, h2, h3⟩ := hT i hi
  refine ⟨(T i).1, (T i).2.1, ?_, h2⟩
  have := flat_get len (fun i hi => (hr i hi).1) i 0 hi (by omega)
  rw [Nat.mul_one, Nat.add_zero, e] at this
  exact this
 ·obtain ⟨i, hi, rfl⟩ := List.mem_map.1 hl
  exact (hT i (List.mem_range.1 hi)).2.2 x hx
structure Pa where
 A : Option Addr
 c : Nat
 B : Option Addr
 d : Nat
 p : Pg
def PaAt (W : World) (z : Pa) : Prop := PgAt W z.A z.c z.B z.d z.p ∧ pgOk z.p
set_option maxRecDepth 100000 in
theorem opened25 {base : Nat} {v : Value} {d : DataW H} {p : List MemPlace}
  (hok : Value.okWide Tryz.prog W .any base 25 v) (h : DataW.Trod enc Tryz.prog W 0 (fun _ => true) true 25 v d p) :
  ∃ z : Pa, v = .agg (pgC z.A z.c z.B z.d z.p) ∧ PaAt W z := by
 obtain ⟨cs, rfl, hl⟩ := WideShapes.okWide_struct Tryz.underlying25 hok
 obtain ⟨n, h⟩ := h
 obtain ⟨xs, m, _, _, hlx, hn, hx⟩ := DataW.trod_struct Tryz.underlying25 h
 have hl2 : cs.toList.length = 2 := by rw [Array.length_toList, hl]; kernel_rfl
 obtain ⟨x0, x1, hx01⟩ : ∃ x0 x1, cs.toList = [x0, x1] := by
  match cs.toList, hl2 with
  | [a, b], _ => exact ⟨a, b, rfl⟩
 have hcs : cs = #[x0, x1] := Array.toList_inj.1 hx01
 subst hcs
 have h0 := hx 0 _ rfl
 have h1 := hx 1 _ rfl
 have hx2 : xs.length = 2 := by rw [hn]; kernel_rfl
 rw [List.getElem?_eq_getElem (by omega)] at h0 h1
 obtain ⟨A, n1, c, e1, t1⟩ := trod_slice_cell Tryz.underlying22 h0
 obtain ⟨B, n2, d2, e2, t2⟩ := trod_slice_cell Tryz.underlying23 h1
 obtain ⟨rs, hr1, hr2, hr3⟩ := ris_open t1
 obtain ⟨ts, ht1, ht2, ht3⟩ := ths_open t2
 subst hr1 ht1
 have E1 : [x0] = [Value.slice A rs.length c] := e1
 have E2 : [x1] = [Value.slice B ts.length d2] := e2
 clear e1 e2 h0 h1 hx hlx h
 simp only [List.cons.injEq, and_true] at E1 E2
 subst E1
 subst E2
 exact ⟨⟨A, c, B, d2, ⟨rs, ts⟩⟩, rfl, ⟨hr2, ht2⟩, hr3, ht3⟩
end
section
variable {W : World} {H : Type} {enc : TypeId × Value → H}
set_option maxRecDepth 100000 in
theorem opened28 {base : Nat} {v : Value} {d : DataW H} {p : List MemPlace}
  (hok : Value.okWide Tryz.prog W .any base 28 v) (h : DataW.Trod enc Tryz.prog W 0 (fun _ => true) true 28 v d p) :
  ∃ z : In, v = .agg (inC z) ∧ inOk z := by
 obtain ⟨cs, rfl, hl⟩ := WideShapes.okWide_struct Tryz.underlying28 hok
 obtain ⟨n, h⟩ := h
 obtain ⟨x, hx, ho⟩ := in_open (cs := cs.toList) (by rw [Array.length_toList, hl]; kernel_rfl) h
 refine ⟨x, ?_, ho⟩
 rw [show inC x = cs from Array.toList_inj.1 hx.symm]
end
theorem own_pg {w' : World} {B0 B1 N : Nat} {p : Pg} {vr vt : Value} {vs : List Value} (hr : w'.ownsRow B0 51 3 vr p.rs.length (rowsOf riF p.rs)) (ht : w'.ownsRow B0 47 1 vt p.ts.length vs) (hi : Inners w' B1 N p.ts vs) :
  ∃ A c B d, vr = .slice A p.rs.length c ∧ vt = .slice B p.ts.length d ∧ PgAt w' A c B d p := by
 obtain ⟨A, c, rfl⟩ := own_slice hr
 obtain ⟨B, d, rfl⟩ := own_slice ht
 have hvl : vs.length = p.ts.length := by have := ht.1; omega
 refine ⟨A, c, B, d, rfl, rfl, SeqS.of_owns hr, vs, SeqS.of_owns ht, fun i l hl => ?_⟩
 have hil := (List.getElem?_eq_some_iff.1 hl).1
 have hv : vs[i]? = some (vs[i]'(by omega)) := List.getElem?_eq_getElem (by omega)
 obtain ⟨l2, h1, h2, _⟩ := hi i _ hv
 rw [hl] at h1
 injection h1 with h1
 subst h1
 obtain ⟨C, k, hC⟩ := own_slice h2
 rw [hC] at h2 hv
 exact ⟨C, k, hv, SeqS.of_owns h2⟩
theorem cp_pg {w w' : World} {p : Pg} {e : Ending} (h : CpPost w p e w') : ∃ A c B d vs, e = .returned (.agg (pgC A c B d p)) ∧ PgAt w' A c B d p ∧ w'.ownsRow w.heap.size 47 1 (.slice B p.ts.length d) p.ts.length vs ∧ Inners w' w.heap.size w'.heap.size p.ts vs ∧ Below w.heap.size w w' := by
 obtain ⟨vr, vt, vs, rfl, hr, ht, hi, hb⟩ := h
 obtain ⟨A, c, B, d, rfl, rfl, hp⟩ := own_pg hr ht hi
 exact ⟨A, c, B, d, vs, rfl, hp, ht, hi, hb⟩
set_option maxHeartbeats 16000000 in
set_option maxRecDepth 100000 in
theorem prints_walk (z : Pa) (x : In) (W : World) (h : PaAt W z) (hx : inOk x) (hN : Ld W) :
  Calls Tryz.prog 3 #[.agg (pgC z.A z.c z.B z.d z.p), .agg (inC x)] W fun e w' => e = .returned (.bool true) ∧ Below W.heap.size W w' := by
 obtain ⟨A, c, B, d, p⟩ := z
 obtain ⟨hp, hok⟩ := h
 replace hp : PgAt W A c B d p := hp
 replace hok : pgOk p := hok
 obtain ⟨hc1, hc2⟩ := seq_form hp.1
 obtain ⟨hd1, hd2⟩ := hp.2.form
 have hb0 : Below W.heap.size W ((W.alloc (.cells (pgC A c B d p) 25)).alloc (.cells (inC x) 28)) := ((Below.refl _ _).alloc (Nat.le_refl _) _).alloc (by simp) _
 have l0 := (Lies.made W 25 (pgC A c B d p)).alloc (.cells (inC x) 28)
 have l1 := Lies.made (W.alloc (.cells (pgC A c B d p) 25)) 28 (inC x)
 rw [World.size_alloc] at l1
 have HP := Lib.hid hp
 have HOK := Lib.hid hok
 have HXO := Lib.hid hx
 have HB := Lib.hid hb0
 have HL := Lib.hid l0
 have HX := Lib.hid l1
 have HN := Lib.hid hN
 clear hp hok hb0 l0 hN l1 hx
 go_enter Tryz.func3, Tryz.ntmps3
 go_wp2_with fail
 generalize (W.alloc (.cells (pgC A c B d p) 25)).alloc (.cells (inC x) 28) = w1 at *
 have c0 := (HL.out.cell 0).trans (show _ = some (Value.slice A p.rs.length c) from rfl)
 have c1 := (HL.out.cell 1).trans (show _ = some (Value.slice B p.ts.length d) from rfl)
 have cl := HL.out.lt
 have i0 := (HX.out.cell 0).trans (show _ = some (Value.int .i64 x.op) from rfl)
 have i1 := (HX.out.cell 1).trans (show _ = some (Value.int .i64 x.a) from rfl)
 have i2 := (HX.out.cell 2).trans (show _ = some (Value.int .i64 x.b) from rfl)
 have i3 := (HX.out.cell 3).trans (show _ = some (Value.int .i64 x.c) from rfl)
 have i4 := (HX.out.cell 4).trans (show _ = some (Value.int .i64 x.d) from rfl)
 have i5 := (HX.out.cell 5).trans (show _ = some (Value.int .u64 (x.k : Int)) from rfl)
 have il := HX.out.lt
 refine (awake_any _ (HN.out.later HB.out)).mono ?_
 rintro e w2 ⟨rfl, hbm⟩
 replace HB := Lib.hid (HB.out.trans ((hbm).mono HB.out.size))
 replace HL := Lib.hid (HL.out.below hbm HL.out.lt)
 replace HX := Lib.hid (HX.out.below hbm HX.out.lt)
 clear hbm c0 c1 cl i0 i1 i2 i3 i4 i5 il
 have c0 := (HL.out.cell 0).trans (show _ = some (Value.slice A p.rs.length c) from rfl)
 have c1 := (HL.out.cell 1).trans (show _ = some (Value.slice B p.ts.length d) from rfl)
 have cl := HL.out.lt
 have i0 := (HX.out.cell 0).trans (show _ = some (Value.int .i64 x.op) from rfl)
 have i1 := (HX.out.cell 1).trans (show _ = some (Value.int .i64 x.a) from rfl)
 have i2 := (HX.out.cell 2).trans (show _ = some (Value.int .i64 x.b) from rfl)
 have i3 := (HX.out.cell 3).trans (show _ = some (Value.int .i64 x.c) from rfl)
 have i4 := (HX.out.cell 4).trans (show _ = some (Value.int .i64 x.d) from rfl)
 have i5 := (HX.out.cell 5).trans (show _ = some (Value.int .u64 (x.k : Int)) from rfl)
 have il := HX.out.lt
 go_wp2_with fail
 have HF := Lib.hid (fun w (hw : Below W.heap.size W w) => rfFew p 100 A c B d w (HP.out.later hw) (by omega))
 refine (HF.out _ HB.out).mono ?_
 rintro e wf ⟨rfl, hbm⟩
 clear HF
 replace HB := Lib.hid (HB.out.trans ((hbm).mono HB.out.size))
 replace HL := Lib.hid (HL.out.below hbm HL.out.lt)
 replace HX := Lib.hid (HX.out.below hbm HX.out.lt)
 clear hbm c0 c1 cl i0 i1 i2 i3 i4 i5 il
 have c0 := (HL.out.cell 0).trans (show _ = some (Value.slice A p.rs.length c) from rfl)
 have c1 := (HL.out.cell 1).trans (show _ = some (Value.slice B p.ts.length d) from rfl)
 have cl := HL.out.lt
 have i0 := (HX.out.cell 0).trans (show _ = some (Value.int .i64 x.op) from rfl)
 have i1 := (HX.out.cell 1).trans (show _ = some (Value.int .i64 x.a) from rfl)
 have i2 := (HX.out.cell 2).trans (show _ = some (Value.int .i64 x.b) from rfl)
 have i3 := (HX.out.cell 3).trans (show _ = some (Value.int .i64 x.c) from rfl)
 have i4 := (HX.out.cell 4).trans (show _ = some (Value.int .i64 x.d) from rfl)
 have i5 := (HX.out.cell 5).trans (show _ = some (Value.int .u64 (x.k : Int)) from rfl)
 have il := HX.out.lt
 obtain ⟨fb, hfb⟩ : ∃ fb, fewB p 100 = fb := ⟨_, rfl⟩
 have HFB := Lib.hid hfb
 rw [hfb]
 clear hfb
 cases fb
 case false =>
  clear HFB
  go_wp2_with fail
  refine (awake_any _ (HN.out.later HB.out)).mono ?_
  rintro e wz ⟨rfl, hbz⟩
  have hbz := HB.out.trans (hbz.mono HB.out.size)
  go_wp2
  go_ret
  exact ⟨rfl, hbz⟩
 obtain ⟨hf1, hf2, hf3, hf4⟩ := of_decide_eq_true HFB.out
 have HF3 := Lib.hid hf3
 clear hf3 HFB
 have HCP := Lib.hid (fun w (hw : Below W.heap.size W w) => rfCopy p A c B d w (HP.out.later hw) hf1 hf2 (fun l hl => by have := HF3.out l hl; omega))
 go_wp2_with fail
 refine (HCP.out _ HB.out).mono ?_
 intro e w3 hcp
 obtain ⟨A', c', B', d', vs, rfl, hpg, _, _, hbm⟩ := cp_pg hcp
 have hb3 := HB.out.trans (hbm.mono HB.out.size)
 have HC := Lib.hid (print10 p A' c' B' d' w3 hpg (HN.out.later hb3).names (HN.out.later hb3).pow)
 clear hcp hpg HCP hb3
 replace HB := Lib.hid (HB.out.trans ((hbm).mono HB.out.size))
 replace HL := Lib.hid (HL.out.below hbm HL.out.lt)
 replace HX := Lib.hid (HX.out.below hbm HX.out.lt)
 clear hbm c0 c1 cl i0 i1 i2 i3 i4 i5 il
 have c0 := (HL.out.cell 0).trans (show _ = some (Value.slice A p.rs.length c) from rfl)
 have c1 := (HL.out.cell 1).trans (show _ = some (Value.slice B p.ts.length d) from rfl)
 have cl := HL.out.lt
 have i0 := (HX.out.cell 0).trans (show _ = some (Value.int .i64 x.op) from rfl)
 have i1 := (HX.out.cell 1).trans (show _ = some (Value.int .i64 x.a) from rfl)
 have i2 := (HX.out.cell 2).trans (show _ = some (Value.int .i64 x.b) from rfl)
 have i3 := (HX.out.cell 3).trans (show _ = some (Value.int .i64 x.c) from rfl)
 have i4 := (HX.out.cell 4).trans (show _ = some (Value.int .i64 x.d) from rfl)
 have i5 := (HX.out.cell 5).trans (show _ = some (Value.int .u64 (x.k : Int)) from rfl)
 have il := HX.out.lt
 go_wp2_with fail
 refine HC.out.mono ?_
 rintro e w4 ⟨rfl, hbm⟩
 clear HC
 replace HB := Lib.hid (HB.out.trans ((hbm).mono HB.out.size))
 replace HL := Lib.hid (HL.out.below hbm HL.out.lt)
 replace HX := Lib.hid (HX.out.below hbm HX.out.lt)
 clear hbm c0 c1 cl i0 i1 i2 i3 i4 i5 il
 have c0 := (HL.out.cell 0).trans (show _ = some (Value.slice A p.rs.length c) from rfl)
 have c1 := (HL.out.cell 1).trans (show _ = some (Value.slice B p.ts.length d) from rfl)
 have cl := HL.out.lt
 have i0 := (HX.out.cell 0).trans (show _ = some (Value.int .i64 x.op) from rfl)
 have i1 := (HX.out.cell 1).trans (show _ = some (Value.int .i64 x.a) from rfl)
 have i2 := (HX.out.cell 2).trans (show _ = some (Value.int .i64 x.b) from rfl)
 have i3 := (HX.out.cell 3).trans (show _ = some (Value.int .i64 x.c) from rfl)
 have i4 := (HX.out.cell 4).trans (show _ = some (Value.int .i64 x.d) from rfl)
 have i5 := (HX.out.cell 5).trans (show _ = some (Value.int .u64 (x.k : Int)) from rfl)
 have il := HX.out.lt
 have HLN := Lib.hid (fun w (hw : Below W.heap.size W w) => line_any x w (HN.out.later hw).names (HN.out.later hw).pow)
 have HRX := Lib.hid (fun w => rfRight x w HXO.out)
 have HRL := Lib.hid (rfLine10 x)
 have HLS := Lib.hid (fun w (hw : Below W.heap.size W w) => rfListed10 p A c B d w (HP.out.later hw) HOK.out)
 have HPR := Lib.hid (fun w (hw : Below W.heap.size W w) h => rfPrint10 p A c B d w (HP.out.later hw) h)
 have HNO := Lib.hid (@prn_no p)
 have HYES := Lib.hid (@prn_yes p)
 obtain ⟨PT, hPT⟩ : ∃ T, T = prnT p := ⟨_, rfl⟩
 obtain ⟨PE, hPE⟩ : ∃ T, T = prnE p := ⟨_, rfl⟩
 rw [← hPT, ← hPE] at HNO HYES ⊢
 clear hPT hPE
 cases hrb : rightB x
 ·have e1 : lnT x = ⟨#[]⟩ := by unfold lnT; rw [hrb]; exact if_neg (by decide)
  have e2 : lnE x = 1 := by unfold lnE; rw [hrb]; exact if_neg (by decide)
  rw [e1, e2] at HLN
  rw [hrb] at HRX
  clear e1 e2 hrb HRL
  go_wp2_with fail
  refine (HLN.out _ HB.out).mono ?_
  rintro e w5 ⟨rfl, hbm⟩
  clear HLN
  replace HB := Lib.hid (HB.out.trans ((hbm).mono HB.out.size))
  replace HL := Lib.hid (HL.out.below hbm HL.out.lt)
  replace HX := Lib.hid (HX.out.below hbm HX.out.lt)
  clear hbm c0 c1 cl i0 i1 i2 i3 i4 i5 il
  have c0 := (HL.out.cell 0).trans (show _ = some (Value.slice A p.rs.length c) from rfl)
  have c1 := (HL.out.cell 1).trans (show _ = some (Value.slice B p.ts.length d) from rfl)
  have cl := HL.out.lt
  have i0 := (HX.out.cell 0).trans (show _ = some (Value.int .i64 x.op) from rfl)
  have i1 := (HX.out.cell 1).trans (show _ = some (Value.int .i64 x.a) from rfl)
  have i2 := (HX.out.cell 2).trans (show _ = some (Value.int .i64 x.b) from rfl)
  have i3 := (HX.out.cell 3).trans (show _ = some (Value.int .i64 x.c) from rfl)
  have i4 := (HX.out.cell 4).trans (show _ = some (Value.int .i64 x.d) from rfl)
  have i5 := (HX.out.cell 5).trans (show _ = some (Value.int .u64 (x.k : Int)) from rfl)
  have il := HX.out.lt
  go_wp2_with fail
  refine (HRX.out _).mono ?_
  rintro e w6 ⟨rfl, hbm⟩
  clear HRX
  replace HB := Lib.hid (HB.out.trans ((hbm).mono HB.out.size))
  replace HL := Lib.hid (HL.out.below hbm HL.out.lt)
  replace HX := Lib.hid (HX.out.below hbm HX.out.lt)
  clear hbm c0 c1 cl i0 i1 i2 i3 i4 i5 il
  have c0 := (HL.out.cell 0).trans (show _ = some (Value.slice A p.rs.length c) from rfl)
  have c1 := (HL.out.cell 1).trans (show _ = some (Value.slice B p.ts.length d) from rfl)
  have cl := HL.out.lt
  have i0 := (HX.out.cell 0).trans (show _ = some (Value.int .i64 x.op) from rfl)
  have i1 := (HX.out.cell 1).trans (show _ = some (Value.int .i64 x.a) from rfl)
  have i2 := (HX.out.cell 2).trans (show _ = some (Value.int .i64 x.b) from rfl)
  have i3 := (HX.out.cell 3).trans (show _ = some (Value.int .i64 x.c) from rfl)
  have i4 := (HX.out.cell 4).trans (show _ = some (Value.int .i64 x.d) from rfl)
  have i5 := (HX.out.cell 5).trans (show _ = some (Value.int .u64 (x.k : Int)) from rfl)
  have il := HX.out.lt
  go_wp2_with fail
  refine (HLS.out _ HB.out).mono ?_
  rintro e w8 ⟨rfl, hbm⟩
  clear HLS
  replace HB := Lib.hid (HB.out.trans ((hbm).mono HB.out.size))
  replace HL := Lib.hid (HL.out.below hbm HL.out.lt)
  replace HX := Lib.hid (HX.out.below hbm HX.out.lt)
  clear hbm c0 c1 cl i0 i1 i2 i3 i4 i5 il
  have c0 := (HL.out.cell 0).trans (show _ = some (Value.slice A p.rs.length c) from rfl)
  have c1 := (HL.out.cell 1).trans (show _ = some (Value.slice B p.ts.length d) from rfl)
  have cl := HL.out.lt
  have i0 := (HX.out.cell 0).trans (show _ = some (Value.int .i64 x.op) from rfl)
  have i1 := (HX.out.cell 1).trans (show _ = some (Value.int .i64 x.a) from rfl)
  have i2 := (HX.out.cell 2).trans (show _ = some (Value.int .i64 x.b) from rfl)
  have i3 := (HX.out.cell 3).trans (show _ = some (Value.int .i64 x.c) from rfl)
  have i4 := (HX.out.cell 4).trans (show _ = some (Value.int .i64 x.d) from rfl)
  have i5 := (HX.out.cell 5).trans (show _ = some (Value.int .u64 (x.k : Int)) from rfl)
  have il := HX.out.lt
  cases hlb : lsB p
  ·obtain ⟨e1, e2⟩ := HNO.out hlb
   subst e1
   subst e2
   clear hlb HNO HYES HPR
   go_wp2_with fail
   go_ret
   exact ⟨rfl, HB.out⟩
  ·obtain ⟨e1, e2⟩ := HYES.out hlb
   subst e2
   have HP2 := Lib.hid (fun w hw => HPR.out w hw hlb)
   rw [← e1] at HP2
   clear hlb HNO HYES HPR e1
   go_wp2_with fail
   refine (HP2.out _ HB.out).mono ?_
   rintro e w9 ⟨rfl, hbm⟩
   have hbz := HB.out.trans (hbm.mono HB.out.size)
   go_wp2
   go_ret
   exact ⟨rfl, hbz⟩
 ·have e1 : lnT x = textB (lnI x) := by unfold lnT; rw [hrb]; exact if_pos rfl
  have e2 : lnE x = 0 := by unfold lnE; rw [hrb]; exact if_pos rfl
  rw [e1, e2] at HLN
  rw [hrb] at HRX
  have HRL2 := Lib.hid (fun w => HRL.out w hrb)
  obtain ⟨T, hT⟩ : ∃ T, T = textB (lnI x) := ⟨_, rfl⟩
  rw [← hT] at HLN HRL2
  clear e1 e2 hrb HRL hT
  go_wp2_with fail
  refine (HLN.out _ HB.out).mono ?_
  rintro e w5 ⟨rfl, hbm⟩
  clear HLN
  replace HB := Lib.hid (HB.out.trans ((hbm).mono HB.out.size))
  replace HL := Lib.hid (HL.out.below hbm HL.out.lt)
  replace HX := Lib.hid (HX.out.below hbm HX.out.lt)
  clear hbm c0 c1 cl i0 i1 i2 i3 i4 i5 il
  have c0 := (HL.out.cell 0).trans (show _ = some (Value.slice A p.rs.length c) from rfl)
  have c1 := (HL.out.cell 1).trans (show _ = some (Value.slice B p.ts.length d) from rfl)
  have cl := HL.out.lt
  have i0 := (HX.out.cell 0).trans (show _ = some (Value.int .i64 x.op) from rfl)
  have i1 := (HX.out.cell 1).trans (show _ = some (Value.int .i64 x.a) from rfl)
  have i2 := (HX.out.cell 2).trans (show _ = some (Value.int .i64 x.b) from rfl)
  have i3 := (HX.out.cell 3).trans (show _ = some (Value.int .i64 x.c) from rfl)
  have i4 := (HX.out.cell 4).trans (show _ = some (Value.int .i64 x.d) from rfl)
  have i5 := (HX.out.cell 5).trans (show _ = some (Value.int .u64 (x.k : Int)) from rfl)
  have il := HX.out.lt
  go_wp2_with fail
  refine (HRX.out _).mono ?_
  rintro e w6 ⟨rfl, hbm⟩
  clear HRX
  replace HB := Lib.hid (HB.out.trans ((hbm).mono HB.out.size))
  replace HL := Lib.hid (HL.out.below hbm HL.out.lt)
  replace HX := Lib.hid (HX.out.below hbm HX.out.lt)
  clear hbm c0 c1 cl i0 i1 i2 i3 i4 i5 il
  have c0 := (HL.out.cell 0).trans (show _ = some (Value.slice A p.rs.length c) from rfl)
  have c1 := (HL.out.cell 1).trans (show _ = some (Value.slice B p.ts.length d) from rfl)
  have cl := HL.out.lt
  have i0 := (HX.out.cell 0).trans (show _ = some (Value.int .i64 x.op) from rfl)
  have i1 := (HX.out.cell 1).trans (show _ = some (Value.int .i64 x.a) from rfl)
  have i2 := (HX.out.cell 2).trans (show _ = some (Value.int .i64 x.b) from rfl)
  have i3 := (HX.out.cell 3).trans (show _ = some (Value.int .i64 x.c) from rfl)
  have i4 := (HX.out.cell 4).trans (show _ = some (Value.int .i64 x.d) from rfl)
  have i5 := (HX.out.cell 5).trans (show _ = some (Value.int .u64 (x.k : Int)) from rfl)
  have il := HX.out.lt
  go_wp2_with fail
  refine (HRL2.out _).mono ?_
  rintro e w7 ⟨rfl, hbm⟩
  clear HRL2
  replace HB := Lib.hid (HB.out.trans ((hbm).mono HB.out.size))
  replace HL := Lib.hid (HL.out.below hbm HL.out.lt)
  replace HX := Lib.hid (HX.out.below hbm HX.out.lt)
  clear hbm c0 c1 cl i0 i1 i2 i3 i4 i5 il
  have c0 := (HL.out.cell 0).trans (show _ = some (Value.slice A p.rs.length c) from rfl)
  have c1 := (HL.out.cell 1).trans (show _ = some (Value.slice B p.ts.length d) from rfl)
  have cl := HL.out.lt
  have i0 := (HX.out.cell 0).trans (show _ = some (Value.int .i64 x.op) from rfl)
  have i1 := (HX.out.cell 1).trans (show _ = some (Value.int .i64 x.a) from rfl)
  have i2 := (HX.out.cell 2).trans (show _ = some (Value.int .i64 x.b) from rfl)
  have i3 := (HX.out.cell 3).trans (show _ = some (Value.int .i64 x.c) from rfl)
  have i4 := (HX.out.cell 4).trans (show _ = some (Value.int .i64 x.d) from rfl)
  have i5 := (HX.out.cell 5).trans (show _ = some (Value.int .u64 (x.k : Int)) from rfl)
  have il := HX.out.lt
  go_wp2_with fail
  refine (HLS.out _ HB.out).mono ?_
  rintro e w8 ⟨rfl, hbm⟩
  clear HLS
  replace HB := Lib.hid (HB.out.trans ((hbm).mono HB.out.size))
  replace HL := Lib.hid (HL.out.below hbm HL.out.lt)
  replace HX := Lib.hid (HX.out.below hbm HX.out.lt)
  clear hbm c0 c1 cl i0 i1 i2 i3 i4 i5 il
  have c0 := (HL.out.cell 0).trans (show _ = some (Value.slice A p.rs.length c) from rfl)
  have c1 := (HL.out.cell 1).trans (show _ = some (Value.slice B p.ts.length d) from rfl)
  have cl := HL.out.lt
  have i0 := (HX.out.cell 0).trans (show _ = some (Value.int .i64 x.op) from rfl)
  have i1 := (HX.out.cell 1).trans (show _ = some (Value.int .i64 x.a) from rfl)
  have i2 := (HX.out.cell 2).trans (show _ = some (Value.int .i64 x.b) from rfl)
  have i3 := (HX.out.cell 3).trans (show _ = some (Value.int .i64 x.c) from rfl)
  have i4 := (HX.out.cell 4).trans (show _ = some (Value.int .i64 x.d) from rfl)
  have i5 := (HX.out.cell 5).trans (show _ = some (Value.int .u64 (x.k : Int)) from rfl)
  have il := HX.out.lt
  cases hlb : lsB p
  ·obtain ⟨e1, e2⟩ := HNO.out hlb
   subst e1
   subst e2
   clear hlb HNO HYES HPR
   go_wp2_with fail
   go_ret
   exact ⟨rfl, HB.out⟩
  ·obtain ⟨e1, e2⟩ := HYES.out hlb
   subst e2
   have HP2 := Lib.hid (fun w hw => HPR.out w hw hlb)
   rw [← e1] at HP2
   clear hlb HNO HYES HPR e1
   go_wp2_with fail
   refine (HP2.out _ HB.out).mono ?_
   rintro e w9 ⟨rfl, hbm⟩
   have hbz := HB.out.trans (hbm.mono HB.out.size)
   go_wp2
   go_ret
   exact ⟨rfl, hbz⟩
end Go.Proofs.YtcpgneimagmknaaGreatDoor
