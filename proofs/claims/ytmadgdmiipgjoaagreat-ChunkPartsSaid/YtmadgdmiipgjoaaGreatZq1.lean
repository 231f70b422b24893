import Derived.WalkKit
import Derived.ProofKit
import Derived.Lib.Hide
import Derived.Lib.AppendStr
import Derived.Lib.SlBytesRow
import Derived.Laws.AppendOwnNone
import Derived.Deep.AppendLies
import Derived.Deep.Draws
import Derived.BigQuiet
import Derived.Deep.QuietTactic
import Derived.Deep.RegionWith
import Derived.OpenShut
import Derived.Outline
import Derived.Deep.Slices
import Derived.ChangeSame
import Derived.Laws.IdiomStrings
import Derived.SliceStrings
import Derived.Laws.DeepStrings4
import Derived.SizedLaws
import Derived.Laws.OwnMore
import Derived.Test.YtmadgdmiipgjoaaGreatRows
import Derived.Deep.OwnRows
import Derived.Laws.StructEq
import Derived.Deep.DeepCutAuto
import Derived.IntWalk
import Derived.Lib.BufferRead
import Derived.Laws.BitsAllLaws
import Derived.Laws.Bits64
import Derived.Laws.Bits64b
import Derived.Deep.RegionHeld3
import Derived.Laws.DeepNot64
import Derived.Deep.MidRow
import Derived.RegionTactic
import Derived.StillTailTactics
import Derived.Deep.RegionLaw
import Derived.Laws.CopyOwn
import Derived.Deep.RegionHeld
import Derived.ShutString
import Derived.ChangeOld
import Derived.Below
import Derived.Test.YtmadgdmiipgjoaaGreatZz11
namespace Go.Proofs.YtmadgdmiipgjoaaGreat
open Go.RowKit
set_option linter.unusedVariables false
set_option linter.unusedSimpArgs false
section
variable {P : Program} {W : World} {H : Type} {enc : TypeId × Value → H}
theorem argSlice_of {t e : TypeId} {a : Option Addr} {len cap sz : Nat} {d : DataW H} {p : List MemPlace} (ht : P.underlying t = some (.slice e)) (hc : P.cellsOf e = sz) (hsz : 0 < sz)
  (h : DataW.Trod enc P W 0 (fun _ => true) true t (.slice a len cap) d p) :
  len ≤ cap ∧ cap ≤ maxLen ∧ ∃ rows : Nat → List Value, ∀ i, i < len → (rows i).length = sz ∧ (∃ n y, DataW.trod enc P W 0 (fun _ => true) true n e (rows i) = some y) ∧
   ∃ b off, a = some ⟨b, off, none⟩ ∧ b < W.heap.size ∧ ∀ j, j < sz → W.cell? ⟨b, off + i * sz + j, none⟩ = (rows i)[j]? := by
 obtain ⟨fuel, hf⟩ := h
 rcases Deep.open_slice ht hf with ⟨hcs, _⟩ | ⟨x, l, c, m, n, D, Pl, hcs, _, hl, hm, hmm, _, hx⟩
 ·simp [Value.cells] at hcs
  obtain ⟨rfl, rfl, rfl⟩ := hcs
  exact ⟨by omega, by unfold maxLen; omega, fun _ => [], fun i hi => by omega⟩
 ·simp [Value.cells] at hcs
  obtain ⟨rfl, rfl, rfl⟩ := hcs
  simp at hmm
  subst hmm
  refine ⟨hl, hm, ?_⟩
  obtain ⟨rows, hr⟩ := Deep.choose_lt (α := List Value) (n := len) (p := fun i cs => W.cells? 0 (x.add (i * P.cellsOf e)) (P.cellsOf e) = some cs ∧ DataW.trod enc P W 0 (fun _ => true) true n e cs = some (D i, Pl i)) (fun i hi => hx i (by omega))
  refine ⟨rows, fun i hi => ?_⟩
  obtain ⟨h1, h2⟩ := hr i hi
  obtain ⟨h01, _⟩ := hr 0 (by omega)
  rw [hc] at h1 h01
  obtain ⟨_, g2, g3⟩ := World.cells?_some h1
  obtain ⟨_, g02, g03⟩ := World.cells?_some h01
  have z := g03 0 hsz
  rw [List.getElem?_eq_getElem (by omega), Nat.zero_mul] at z
  obtain ⟨b, off, spot⟩ := x
  have hlt := World.block_lt_of_cell? W _ z
  have hs := World.cell?_spot z
  simp [Addr.add] at hlt hs
  subst hs
  refine ⟨g2, ⟨n, _, h2⟩, b, off, rfl, hlt, fun j hj => ?_⟩
  have := g3 j hj
  rwa [addr_plus, addr_plus] at this
end
theorem slice_sized {H : Type} {enc : TypeId × Value → H} {P : Program} {W : World} {ts : List TypeId} {ds : List (DataW H)} (h : (DataW.weightsEach P ts ds).all (· ≤ reachBytes) = true)
  {j : Nat} {t e : TypeId} {a : Option Addr} {len cap : Nat} {d : DataW H} {p : List MemPlace} (ht : ts[j]? = some t) (hd : ds[j]? = some d) (hu : P.underlying t = some (.slice e))
  (k : DataW.Trod enc P W 0 (fun _ => true) true t (.slice a len cap) d p) : cap * P.bytesOf e ≤ reachBytes := by
 obtain ⟨fuel, hf⟩ := k
 rcases Deep.open_slice hu hf with ⟨hcs, _⟩ | ⟨x, l, c, m, n, D, Pl, hcs, _, hl, hm, hmm, hx, _⟩
 ·simp [Value.cells] at hcs
  obtain ⟨rfl, rfl, rfl⟩ := hcs
  simp
 ·simp [Value.cells] at hcs
  obtain ⟨rfl, rfl, rfl⟩ := hcs
  simp at hmm
  subst hmm
  simp only [Prod.mk.injEq] at hx
  rw [hx.1] at hd
  have := sized_slice h ht hd hu
  simpa [Nat.add_sub_cancel' hl] using this
theorem SeqS.front {w : World} {sz n c : Nat} {A : Option Addr} {xs : List Value} (h : SeqS w sz (.slice A n c) n xs) {k : Nat} (hk : k ≤ n) : SeqS w sz (.slice A k c) k (xs.take (k * sz)) := by
 obtain ⟨h1, A', c', e, h2, h3, h0, h4⟩ := h
 simp only [Value.slice.injEq, true_and] at e
 obtain ⟨rfl, rfl⟩ := e
 have hm : k * sz ≤ n * sz := Nat.mul_le_mul_right sz hk
 refine ⟨by rw [List.length_take]; omega, A, c, rfl, by omega, h3, h0, fun j u hu => ?_⟩
 rw [List.getElem?_take] at hu
 split at hu
 ·exact h4 j u hu
 ·cases hu
theorem flat_length {rows : Nat → List Value} {sz : Nat} : ∀ n, (∀ i, i < n → (rows i).length = sz) → ((List.range n).flatMap rows).length = n * sz
 | 0, _ => by simp
 | n + 1, h => by
  rw [List.range_succ, List.flatMap_append, List.length_append, flat_length n (fun i hi => h i (by omega))]
  simp [h n (by omega), Nat.add_mul]
theorem flat_get {rows : Nat → List Value} {sz : Nat} : ∀ n, (∀ i, i < n → (rows i).length = sz) → ∀ i j, i < n → j < sz → ((List.range n).flatMap rows)[i * sz + j]? = (rows i)[j]?
 | 0, _, i, j, hi, _ => by omega
 | n + 1, h, i, j, hi, hj => by
  have hl := flat_length n (fun i hi => h i (by omega))
  rw [List.range_succ, List.flatMap_append]
  by_cases e : i = n
  ·subst e
   rw [List.getElem?_append_right (by omega), hl, Nat.add_sub_cancel_left]
   simp
  ·have hm : i * sz + sz ≤ n * sz := by
    have := Nat.mul_le_mul_right sz (show i + 1 ≤ n by omega)
    rw [Nat.add_mul] at this; omega
   rw [List.getElem?_append_left (by omega)]
   exact flat_get n (fun i hi => h i (by omega)) i j (by omega) hj
section
variable {P : Program} {W : World} {H : Type} {enc : TypeId × Value → H}
theorem argRows {t e : TypeId} {a : Option Addr} {len cap sz : Nat} {d : DataW H} {p : List MemPlace} (ht : P.underlying t = some (.slice e)) (hc : P.cellsOf e = sz) (hsz : 0 < sz)
  (h : DataW.Trod enc P W 0 (fun _ => true) true t (.slice a len cap) d p) :
  (a = none → len = 0 ∧ cap = 0) ∧ ∃ rows : Nat → List Value, (∀ i, i < len → (rows i).length = sz ∧ ∃ n y, DataW.trod enc P W 0 (fun _ => true) true n e (rows i) = some y) ∧ SeqS W sz (.slice a len cap) len ((List.range len).flatMap rows) := by
 have hn : a = none → len = 0 ∧ cap = 0 := by
  obtain ⟨fuel, hf⟩ := h
  rcases Deep.open_slice ht hf with ⟨hcs, _⟩ | ⟨x, l, c, m, n, D, Pl, hcs, _⟩
  ·simp [Value.cells] at hcs
   exact fun _ => hcs.2
  ·simp [Value.cells] at hcs
   intro ha; rw [ha] at hcs; exact absurd hcs.1 (by simp)
 obtain ⟨h1, h2, rows, hr⟩ := argSlice_of ht hc hsz h
 refine ⟨hn, rows, fun i hi => ⟨(hr i hi).1, (hr i hi).2.1⟩, ?_⟩
 have hl := flat_length (rows := rows) (sz := sz) len (fun i hi => (hr i hi).1)
 refine ⟨hl, a, cap, rfl, h1, h2, fun ha => (hn ha).2, fun k u hu => ?_⟩
 have hk : k < len * sz := by rw [← hl]; exact (List.getElem?_eq_some_iff.1 hu).1
 have hi : k / sz < len := (Nat.div_lt_iff_lt_mul hsz).2 hk
 have hj : k % sz < sz := Nat.mod_lt _ hsz
 have hkk : k / sz * sz + k % sz = k := by rw [Nat.mul_comm]; exact Nat.div_add_mod k sz
 have hg := flat_get (rows := rows) (sz := sz) len (fun i hi => (hr i hi).1) (k / sz) (k % sz) hi hj
 rw [hkk, hu] at hg
 obtain ⟨_, _, b, off, ea, _, hc⟩ := hr (k / sz) hi
 refine ⟨b, off, ea, ?_⟩
 have := hc (k % sz) hj
 rw [Nat.add_assoc, hkk] at this
 rw [this, ← hg]
end
theorem flatMap_congr_range {α : Type} {f g : Nat → List α} : ∀ n, (∀ i, i < n → f i = g i) → (List.range n).flatMap f = (List.range n).flatMap g
 | 0, _ => rfl
 | n + 1, h => by
  rw [List.range_succ, List.flatMap_append, List.flatMap_append, flatMap_congr_range n (fun i hi => h i (by omega))]
  simp [h n (by omega)]
section
variable {α : Type} {f : α → List Value} {sz : Nat}
theorem range_rows (g : Nat → α) (n : Nat) : (List.range n).flatMap (fun i => f (g i)) = rowsOf f ((List.range n).map g) := by unfold rowsOf; rw [List.flatMap_map]
end
section
variable {P : Program} {W : World} {H : Type} {enc : TypeId × Value → H}
def IntField (P : Program) (k : IntKind) (i : Nat) (f : Field) : Prop := P.underlying f.type = some (.int k) ∧ f.offset = i ∧ P.cellsOf f.type = 1
theorem int_field {e : TypeId} {fs : Array Field} {n : Nat} {cs : List Value} {y : DataW H × List MemPlace} (he : P.underlying e = some (.struct fs)) (h : DataW.trod enc P W 0 (fun _ => true) true n e cs = some y)
  {i : Nat} {f : Field} {k : IntKind} (hf : fs[i]? = some f) (hk : IntField P k i f) : ∃ z, cs[i]? = some (.int k z) ∧ (Lit.int k z).wf = true := by
 obtain ⟨xs, m, _, _, hl, hn, hx⟩ := DataW.trod_struct he h
 obtain ⟨k1, k2, k3⟩ := hk
 have := hx i f hf
 rw [k2, k3] at this
 have hi : i < xs.length := by rw [hn]; exact (Array.getElem?_eq_some_iff.1 hf).1
 rw [List.getElem?_eq_getElem hi] at this
 obtain ⟨z, e1, _, e2⟩ := DataW.trod_int k1 this
 refine ⟨z, ?_, e2⟩
 have e3 : ((cs.drop i).take 1)[0]? = some (.int k z) := by rw [e1]; rfl
 rw [List.getElem?_take, if_pos (by decide), List.getElem?_drop] at e3
 exact e3
def ArgOf {α : Type} (f : α → List Value) (sz : Nat) (ok : α → Prop) (w : World) (a : Option Addr) (len cap : Nat) (l : List α) : Prop :=
 (a = none → len = 0 ∧ cap = 0) ∧ l.length = len ∧ SeqS w sz (.slice a len cap) len (rowsOf f l) ∧ ∀ x ∈ l, ok x
theorem argOf {α : Type} [Inhabited α] {f : α → List Value} {sz : Nat} {ok : α → Prop} {t e : TypeId} {a : Option Addr} {len cap : Nat} {d : DataW H} {p : List MemPlace} (ht : P.underlying t = some (.slice e)) (hc : P.cellsOf e = sz) (hsz : 0 < sz)
  (hopen : ∀ n cs y, cs.length = sz → DataW.trod enc P W 0 (fun _ => true) true n e cs = some y → ∃ x, cs = f x ∧ ok x)
  (h : DataW.Trod enc P W 0 (fun _ => true) true t (.slice a len cap) d p) : ∃ l, ArgOf f sz ok W a len cap l := by
 obtain ⟨h1, rows, h2, h3⟩ := argRows (sz := sz) ht hc hsz h
 obtain ⟨z, hz⟩ := Deep.choose_lt (α := α) (n := len) (p := fun i q => rows i = f q ∧ ok q) (fun i hi => by
  obtain ⟨g1, n, y, g2⟩ := h2 i hi
  exact hopen n _ y g1 g2)
 have he : (List.range len).flatMap rows = rowsOf f ((List.range len).map z) := by
  rw [← range_rows]
  exact flatMap_congr_range len (fun i hi => (hz i hi).1)
 rw [he] at h3
 refine ⟨(List.range len).map z, h1, by simp, h3, fun q hq => ?_⟩
 obtain ⟨i, hi, rfl⟩ := List.mem_map.1 hq
 exact (hz i (List.mem_range.1 hi)).2
end
theorem leb_mono (f : Nat) : ∀ a b, a ≤ b → (leb f a).length ≤ (leb f b).length := by
 induction f with
 | zero => intro a b _; simp [leb]
 | succ f ih =>
  intro a b h
  by_cases ha : a < 128
  ·rw [leb_small _ _ ha]; exact (leb_length _ _).1
  ·rw [leb_big _ _ ha, leb_big _ _ (by omega), List.length_cons, List.length_cons]
   have := ih (a / 128) (b / 128) (Nat.div_le_div_right h)
   omega
section
variable {P : Program} {ops : Array Oper}
def updX (x : Nat → Value) (i : Nat) (v : Value) : Nat → Value := fun j => if j = i then v else x j
def updL (L : Nat → Bool) (i : Nat) : Nat → Bool := fun j => (j == i) || L j
theorem updL_set {listed : Array Bool} {i : Nat} (hi : i < listed.size) : updL (fun k => listed.getD k false) i = fun k => (listed.setIfInBounds i true).getD k false := by
 funext k
 unfold updL
 rw [Bool.eq_iff_iff, Bool.or_eq_true, beq_iff_eq, set_getD hi]
theorem none_listed {n : Nat} : (fun k => (Array.replicate n false).getD k false) = fun _ => false := by
 funext k
 by_cases h : k < n
 ·simp [h]
 ·simp [h]
def AllPX (V : Nat → Value → World → Prop) (x : Nat → Value) (L : Nat → Bool) (w w' : World) : List Nat → Prop
 | [] => True
 | j :: l => ((j < ops.size → L j = true) → V j (x j) w → V j (x j) w') ∧ AllPX V x L w w' l
theorem AllPX.get {V : Nat → Value → World → Prop} {x : Nat → Value} {L : Nat → Bool} {w w' : World} : ∀ {l : List Nat}, AllPX (ops := ops) V x L w w' l → ∀ j ∈ l, (j < ops.size → L j = true) → V j (x j) w → V j (x j) w'
 | [], _, _, h => by cases h
 | k :: l, h, j, hj => by
  rcases List.mem_cons.1 hj with rfl | hj
  ·exact h.1
  ·exact h.2.get j hj
theorem AllPX.same {V : Nat → Value → World → Prop} {x : Nat → Value} {L : Nat → Bool} {w : World} : ∀ (l : List Nat), AllPX (ops := ops) V x L w w l
 | [] => trivial
 | _ :: l => ⟨fun _ h => h, AllPX.same l⟩
theorem AllPX.of {V : Nat → Value → World → Prop} {x : Nat → Value} {L : Nat → Bool} {w w' : World} : ∀ (l : List Nat), (∀ j ∈ l, (j < ops.size → L j = true) → V j (x j) w → V j (x j) w') → AllPX (ops := ops) V x L w w' l
 | [], _ => trivial
 | k :: l, h => ⟨h k List.mem_cons_self, AllPX.of l (fun j hj => h j (List.mem_cons_of_mem _ hj))⟩
theorem wpAny_relyx {ds : List (Option Tmp)} {js es ps : List (List Nat)} {N : Nat} {Q : Exit → Act → World → Prop} {a0 : Act} {S : (Nat → Value) → (Nat → Bool) → World → Prop} {V : Nat → Value → World → Prop} (hok : Rely ops ds js es ps N)
  (hjs : ∀ i j, i < ops.size → j ∈ js.getD i [] → j < N) (hstep : ∀ i, i < ops.size → ∀ (x : Nat → Value) (L : Nat → Bool) (w : World), S x L w → L i = false → AllV V x w (js.getD i []) → (∀ e ∈ dirs ops i, L e = true) →
   StepV P ops i (putsOf ds x a0 (js.getD i [])) w (fun v w' => S (updX x i v) (updL L i) w' ∧ V i v w' ∧ AllPX (ops := ops) V x L w w' (ps.getD i [])))
  (hend : ∀ (x : Nat → Value) (L : Nat → Bool) (w : World), S x L w → (∀ j, j < ops.size → L j = true) → (∀ j, j < N → (∀ i, i < ops.size → j ∉ es.getD i []) → V j (x j) w) → Q .normal (putsOf ds x a0 (List.range ops.size)) w) :
  ∀ (fuel : Nat) (listed : Array Bool) (a : Act) (x : Nat → Value) (w : World), listed.size = ops.size → (∀ j, j < ops.size → listed.getD j false = true → ∀ e ∈ dirs ops j, listed.getD e false = true) → unl listed ≤ fuel → S x (fun k => listed.getD k false) w →
   (∀ j, j < N → (j < ops.size → listed.getD j false = true) → (∀ i, i < ops.size → listed.getD i false = true → j ∉ es.getD i []) → V j (x j) w) → FrV ops ds a0 x listed a → wpAny P .any ops Q fuel listed a w := by
 have hfin : ∀ (listed : Array Bool) (a : Act) (x : Nat → Value) (w : World), S x (fun k => listed.getD k false) w → (∀ j, j < ops.size → listed.getD j false = true) →
   (∀ j, j < N → (j < ops.size → listed.getD j false = true) → (∀ i, i < ops.size → listed.getD i false = true → j ∉ es.getD i []) → V j (x j) w) → FrV ops ds a0 x listed a → Q .normal a w := by
  intro listed a x w hS hall hV hF
  rw [hF.full hok hall]
  exact hend x _ w hS hall (fun j hj hn => hV j hj (hall j) (fun i hi _ => hn i hi))
 intro fuel
 induction fuel with
 | zero =>
  intro listed a x w hsz hdc hu hS hV hF
  have hall : ∀ j, j < ops.size → listed.getD j false = true := fun j hj => unl_zero (by omega) j (by omega)
  refine ⟨?_, hfin listed a x w hS hall hV hF⟩
  cases hr : Region.ready .any ops listed with
  | nil => rfl
  | cons i rs =>
   exfalso
   have hm : i ∈ Region.ready .any ops listed := by rw [hr]; exact List.mem_cons_self
   obtain ⟨h0, o, ho, _⟩ := mem_ready.1 hm
   have hi := (Array.getElem?_eq_some_iff.1 ho).1
   have := hall i hi
   rw [getD_tf (by omega) false true, h0] at this
   cases this
 | succ fuel ih =>
  intro listed a x w hsz hdc hu hS hV hF
  refine ⟨fun hr => hfin listed a x w hS ?_ hV hF, fun i hi => ?_⟩
  ·intro j
   induction j using Nat.strongRecOn with
   | ind j ihj =>
    intro hj
    cases hl : listed.getD j false with
    | true => rfl
    | false =>
     exfalso
     have hm : j ∈ Region.ready .any ops listed := by
      refine mem_ready.2 ⟨by rw [getD_tf (by omega) true false]; exact hl, ops[j], Array.getElem?_eq_getElem hj, fun e he hb => ?_⟩
      have hd := (dirs_mem (Array.getElem?_eq_getElem hj)).2 ⟨e, he, hb, rfl⟩
      have hlt := hok.back j e.on hj hd
      exact ihj e.on hlt (by omega)
     rw [hr] at hm
     cases hm
  ·obtain ⟨h0, o, ho, hall⟩ := mem_ready.1 hi
   have hin := (Array.getElem?_eq_some_iff.1 ho).1
   have hun : listed.getD i false = false := by rw [getD_tf (by omega) false true]; exact h0
   have hdi : ∀ e ∈ dirs ops i, listed.getD e false = true := fun e he => by
    obtain ⟨g, h1, h2, h3⟩ := (dirs_mem ho).1 he
    rw [← h3]; exact hall g h1 h2
   have hdl : ∀ e ∈ dirs ops i, e < ops.size := fun e he => Nat.lt_trans (hok.back i e hin he) hin
   have hds : o.dst = ds.getD i none := by
    rw [hok.ds_, List.getD_eq_getElem?_getD, List.getElem?_map, Array.getElem?_toList, ho]; rfl
   have hpre : ∀ j ∈ js.getD i [], V j (x j) w := fun j hj => by
    have hjd := hok.sub i j hin hj
    refine hV j (hjs i j hin hj) (fun hjn => hdi j (hjd.resolve_right (by omega))) (fun k hk hkl hjk => ?_)
    rcases hok.eats i k j hin hk hjk hj with e | e
    ·subst e
     rw [hun] at hkl; cases hkl
    ·have := hdc k hk hkl i e
     rw [hun] at this; cases this
   have hst := hstep i hin x _ w hS hun (AllV.of _ hpre) hdi
   have hz := putsOf_size ds x (js.getD i []) a0
   have hmv := StepV.move (Q := Q) (a := a) ho (Region.noSelect_spec hok.sel i o · · ho) (hF.size.trans hz.1.symm) (fun t ht => ?_) hst
   ·refine wpOp_mono (fun a' w' h => ?_) hmv
    obtain ⟨v, rfl, hS', hVi, hpr⟩ := h
    rw [hds]
    refine ih (listed.setIfInBounds i true) _ (fun j => if j = i then v else x j) w' (by simpa using hsz) ?_ ?_ (by rw [updL_set (by omega)] at hS'; exact hS') ?_ (hF.step hok hin hsz hun)
    ·intro j hj hl e he
     refine (set_getD (by omega)).2 (.inr ?_)
     rcases (set_getD (by omega)).1 hl with e2 | e2
     ·subst e2; exact hdi e he
     ·exact hdc j hj e2 e he
    ·have := unl_set (by omega) hun
     omega
    ·intro j hjN hl hn
     by_cases e : j = i
     ·subst e
      simpa using hVi
     ·simp only [if_neg e]
      have hps : j ∈ ps.getD i [] := by
       rcases hok.pres i j hin hjN with e2 | e2 | e2 | e2 | ⟨k, hk, e2⟩
       ·exact absurd e2.symm e
       ·exact e2
       ·exact absurd e2 (hn i hin ((set_getD (by omega)).2 (.inl rfl)))
       ·exfalso
        by_cases hjn : j < ops.size
        ·have := hdc j hjn (((set_getD (by omega)).1 (hl hjn)).resolve_left e) i e2
         rw [hun] at this; cases this
        ·unfold dirs at e2
         rw [Array.getElem?_eq_none (by omega)] at e2
         cases e2
       ·exact absurd e2 (hn k (hdl k hk) ((set_getD (by omega)).2 (.inr (hdi k hk))))
      refine hpr.get j hps (fun hjo => ?_) ?_
      ·exact ((set_getD (by omega)).1 (hl hjo)).resolve_left e
      exact hV j hjN (fun hj => ((set_getD (by omega)).1 (hl hj)).resolve_left e) (fun k hk hkl => hn k hk ((set_getD (by omega)).2 (.inr hkl)))
   ·have hnone : ∀ k, ops.size ≤ k → ds.getD k none = none := fun k hk => by
     rw [List.getD_eq_getElem?_getD, List.getElem?_eq_none (by rw [hok.ds_]; simpa using hk)]; rfl
    have hget : (ops.getD i default) = o := by
     rw [Array.getD_eq_getD_getElem?, ho]; rfl
    by_cases hsz2 : t < a0.tmps.size
    ·by_cases hex : ∃ j, j < ops.size ∧ listed.getD j false = true ∧ ds.getD j none = some t
     ·obtain ⟨j, hj, hl, hd⟩ := hex
      rw [hF.put j t hj hl hd hsz2]
      rcases hok.looks i j t hin hj hd (by rw [hget]; exact ht) with e | e | e
      ·subst e; rw [hun] at hl; cases hl
      ·refine (putsOf_new ds x t j _ a0 (fun k hk e2 => ?_) e hd hsz2).symm
       rcases hok.sub i k hin hk with e3 | e3
       ·exact hok.one k j t (hdl k e3) hj hd e2
       ·rw [hnone k e3] at e2; cases e2
      ·have := hdc j hj hl i e
       rw [hun] at this; cases this
     ·rw [hF.old t (fun j hj hl e => hex ⟨j, hj, hl, e⟩)]
      refine (putsOf_old ds x t _ a0 (fun j hj e => ?_)).symm
      rcases hok.sub i j hin hj with e3 | e3
      ·exact hex ⟨j, hdl j e3, hdi j e3, e⟩
      ·rw [hnone j e3] at e; cases e
    ·rw [Array.getElem?_eq_none (by rw [hF.size]; exact Nat.le_of_not_lt hsz2), Array.getElem?_eq_none (by rw [hz.1]; exact Nat.le_of_not_lt hsz2)]
def RelyStepX (P : Program) (ops : Array Oper) (ds : List (Option Tmp)) (js ps : List (List Nat)) (a0 : Act) (S : (Nat → Value) → (Nat → Bool) → World → Prop) (V : Nat → Value → World → Prop) (i : Nat) : Prop :=
 ∀ (x : Nat → Value) (L : Nat → Bool) (w : World), S x L w → L i = false → AllV V x w (js.getD i []) → (∀ e ∈ dirs ops i, L e = true) → StepV P ops i (putsOf ds x a0 (js.getD i [])) w (fun v w' => S (updX x i v) (updL L i) w' ∧ V i v w' ∧ AllPX (ops := ops) V x L w w' (ps.getD i []))
def RelyStepsX (P : Program) (ops : Array Oper) (ds : List (Option Tmp)) (js ps : List (List Nat)) (a0 : Act) (S : (Nat → Value) → (Nat → Bool) → World → Prop) (V : Nat → Value → World → Prop) (is : List Nat) : Prop :=
 ∀ i ∈ is, RelyStepX P ops ds js ps a0 S V i
theorem RelyStepsX.nil {ds : List (Option Tmp)} {js ps : List (List Nat)} {a0 : Act} {S : (Nat → Value) → (Nat → Bool) → World → Prop} {V : Nat → Value → World → Prop} : RelyStepsX P ops ds js ps a0 S V [] := fun _ h => by cases h
theorem RelyStepsX.cons {ds : List (Option Tmp)} {js ps : List (List Nat)} {a0 : Act} {S : (Nat → Value) → (Nat → Bool) → World → Prop} {V : Nat → Value → World → Prop} {i : Nat} {is : List Nat} (h : RelyStepX P ops ds js ps a0 S V i)
  (hs : RelyStepsX P ops ds js ps a0 S V is) : RelyStepsX P ops ds js ps a0 S V (i :: is) := fun k hk => by
 rcases List.mem_cons.1 hk with rfl | hk
 ·exact h
 ·exact hs k hk
theorem RelyStepX.mk {ds : List (Option Tmp)} {js ps : List (List Nat)} {a0 : Act} {S : (Nat → Value) → (Nat → Bool) → World → Prop} {V : Nat → Value → World → Prop} {i : Nat} {o : Oper} (J K : List Nat) (ho : ops[i]? = some o) (hJ : js.getD i [] = J) (hK : ps.getD i [] = K)
  (h : ∀ (x : Nat → Value) (L : Nat → Bool) (w : World), S x L w → L i = false → (∀ e ∈ dirs ops i, L e = true) → AllV V x w J → ∀ (b : Act), b = putsOf ds x a0 J → ∀ K' : Act → World → Prop, Shut (∀ a' w', (∃ v, a' = b.put o.dst v ∧ S (updX x i v) (updL L i) w' ∧ V i v w' ∧ AllPX (ops := ops) V x L w w' K) → K' a' w') →
   if Region.wanted o (yielded ops b.tmps) = true then Oper.wp P o b w K' QF else K' (b.put o.dst undef) w) : RelyStepX P ops ds js ps a0 S V i := by
 intro x L w hS hL hV hd
 rw [hJ] at hV ⊢
 rw [hK]
 exact StepV.mk ho (fun K' hK' => h x L w hS hL hd hV _ rfl K' hK')
theorem wp_region_relyx {id : Nat} {a0 : Act} {w : World} {Q : Exit → Act → World → Prop} (S : (Nat → Value) → (Nat → Bool) → World → Prop) (V : Nat → Value → World → Prop) (ds : List (Option Tmp)) (js es ps : List (List Nat)) (is : List Nat) (N : Nat) (hm : P.follows .mixedOrders = true)
  (hok : relyB ops ds js es ps N = true) (hjs : js.all (fun l => l.all (fun j => decide (j < N))) = true) (his : List.range ops.size = is) (hS : S (fun _ => undef) (fun _ => false) w.drew) (hI : ∀ j, j < N → ops.size ≤ j → V j undef w.drew) (hsteps : RelyStepsX P ops ds js ps a0 S V is)
  (hend : ∀ (x : Nat → Value) (L : Nat → Bool) (w : World), S x L w → (∀ j, j < ops.size → L j = true) → (∀ j, j < N → (is.all fun i => !(es.getD i []).contains j) = true → V j (x j) w) → Q .normal (putsOf ds x a0 is) w) : (Code.region id ops true).wp P Q a0 w := by
 subst his
 have hjs2 : ∀ i j, i < ops.size → j ∈ js.getD i [] → j < N := fun i j _ hj => by
  rw [List.getD_eq_getElem?_getD] at hj
  cases hg : js[i]? with
  | none => rw [hg] at hj; cases hj
  | some l =>
   rw [hg] at hj
   have := List.all_eq_true.1 (List.all_eq_true.1 hjs l (List.mem_of_getElem? hg)) j hj
   simpa using this
 refine wp_region_any hm (wpAny_relyx (Rely.of hok) hjs2 (fun i hi => hsteps i (List.mem_range.2 hi)) (fun x L w h1 hL h2 => hend x L w h1 hL (fun j hj hn => h2 j hj (fun i hi hc => ?_))) ops.size _ a0 (fun _ => undef) _ (by simp) (fun j hj h => ?_) ?_ (by rw [none_listed]; exact hS) (fun j hj h hn => ?_) ⟨rfl, rfl, fun j t hj h => ?_, fun _ _ => rfl⟩)
 ·have := List.all_eq_true.1 hn i (List.mem_range.2 hi)
  rw [List.contains_iff_mem.2 hc] at this
  cases this
 ·simp [hj] at h
 ·unfold unl
  refine Nat.le_trans List.countP_le_length (by simp)
 ·refine hI j hj (Nat.le_of_not_lt fun hj => ?_)
  have := h hj
  simp [hj] at this
 ·simp [hj] at h
end
theorem kept_rowS {w : World} {g : Nat} {S : Nat → Prop} (cs : Array Value) (h : S g) : Kept S w (w.setRow g cs) :=
 ⟨rfl, rfl, rfl, by unfold World.setRow; simp, fun k _ hk => setRow_other w g k cs (fun e => hk (e ▸ h))⟩
theorem lies_row {w : World} {g : Nat} {t : TypeId} {old : Array Value} (h : Lies w g t old) (cs : Array Value) : Lies (w.setRow g cs) g t cs := setRow_heap w g old cs t (0, 0) h
def BkS (T : TypeId) (i k m : Nat) (z0 : Array Value) (N : Nat) (x : Nat → Value) (L : Nat → Bool) (q : World) : Prop :=
 (L k = true → L i = true ∧ L m = true) ∧ (L i = true → ∃ g a, x i = .pointer (some ⟨g, 0, none⟩) ∧ N ≤ g ∧ Lies q g T a ∧ (L k = false → a = z0) ∧ (L k = true → x m = .agg a))
section
variable {T : TypeId} {i k m : Nat} {z0 : Array Value} {N : Nat} {x : Nat → Value} {L : Nat → Bool} {q q' : World}
theorem updL_ne {j a : Nat} (h : j ≠ a) : updL L a j = L j := by
 unfold updL
 rw [show (j == a) = false by rw [beq_eq_false_iff_ne]; exact h, Bool.false_or]
theorem updX_ne {j a : Nat} {v : Value} (h : j ≠ a) : updX x a v j = x j := by unfold updX; rw [if_neg h]
theorem updL_at {a : Nat} : updL L a a = true := by simp [updL]
theorem updX_at {a : Nat} {v : Value} : updX x a v a = v := by simp [updX]
theorem bk_none : BkS T i k m z0 N x (fun _ => false) q := ⟨(fun h => by cases h), fun h => by cases h⟩
theorem bk_kept {S : Nat → Prop} (h : BkS T i k m z0 N x L q) (hk : Kept S q q') (hS : ∀ g a, Lies q g T a → ¬ S g) : BkS T i k m z0 N x L q' := by
 refine ⟨h.1, fun hi => ?_⟩
 obtain ⟨g, a, h1, h2, h3, h4, h5⟩ := h.2 hi
 exact ⟨g, a, h1, h2, h3.kept hk (hS g a h3), h4, h5⟩
theorem bk_below (h : BkS T i k m z0 N x L q) (hb : Below q.heap.size q q') : BkS T i k m z0 N x L q' := bk_kept h (Kept.of_below hb) (fun _ _ _ e => e)
theorem bk_pure {j : Nat} {v : Value} (h : BkS T i k m z0 N x L q) (hj : (j != i && j != k) = true) (hL : L j = false) : BkS T i k m z0 N (updX x j v) (updL L j) q := by
 rw [Bool.and_eq_true, bne_iff_ne, bne_iff_ne] at hj
 unfold BkS
 rw [updL_ne (Ne.symm hj.1), updL_ne (Ne.symm hj.2), updX_ne (Ne.symm hj.1)]
 by_cases hm : m = j
 ·subst hm
  refine ⟨fun hk => ⟨(h.1 hk).1, updL_at⟩, fun hi => ?_⟩
  obtain ⟨g, a, h1, h2, h3, h4, h5⟩ := h.2 hi
  exact ⟨g, a, h1, h2, h3, h4, fun hk => by have := (h.1 hk).2; rw [hL] at this; cases this⟩
 ·rw [updL_ne hm, updX_ne hm]
  exact h
theorem bk_made (h : BkS T i k m z0 N x L q) (hL : L i = false) (hki : k ≠ i) (hmi : m ≠ i) (hN : N ≤ q.heap.size) : BkS T i k m z0 N (updX x i (.pointer (some ⟨q.heap.size, 0, none⟩))) (updL L i) (q.alloc (.cells z0 T)) := by
 unfold BkS
 rw [updL_at, updX_at, updL_ne hki, updL_ne hmi, updX_ne hmi]
 have hk : L k = false := by
  cases hk : L k with
  | false => rfl
  | true => have := (h.1 hk).1; rw [hL] at this; cases this
 rw [hk]
 exact ⟨(fun h => by cases h), fun _ => ⟨_, z0, rfl, hN, Lies.made _ _ _, fun _ => rfl, fun h => by cases h⟩⟩
theorem bk_open (h : BkS T i k m z0 N x L q) (hi : L i = true) (hk : L k = false) : ∃ g, x i = .pointer (some ⟨g, 0, none⟩) ∧ N ≤ g ∧ Lies q g T z0 := by
 obtain ⟨g, a, h1, h2, h3, h4, _⟩ := h.2 hi
 obtain rfl := h4 hk
 exact ⟨g, h1, h2, h3⟩
theorem bk_store {v : Value} {g : Nat} {a : Array Value} (hi : L i = true) (hm : L m = true) (hki : k ≠ i) (hmk : k ≠ m) (h1 : x i = .pointer (some ⟨g, 0, none⟩)) (h2 : N ≤ g) (h3 : Lies q g T z0) (hv : x m = .agg a) : BkS T i k m z0 N (updX x k v) (updL L k) (q.setRow g a) := by
 unfold BkS
 rw [updL_at, updL_ne (Ne.symm hki), updX_ne (Ne.symm hki), updL_ne (Ne.symm hmk), updX_ne (Ne.symm hmk)]
 exact ⟨fun _ => ⟨hi, hm⟩, fun _ => ⟨g, a, h1, h2, lies_row h3 a, (fun h => by cases h), fun _ => hv⟩⟩
theorem bk_done (h : BkS T i k m z0 N x L q) (hi : L i = true) (hk : L k = true) : ∃ g a, x i = .pointer (some ⟨g, 0, none⟩) ∧ N ≤ g ∧ Lies q g T a ∧ x m = .agg a := by
 obtain ⟨g, a, h1, h2, h3, _, h5⟩ := h.2 hi
 exact ⟨g, a, h1, h2, h3, h5 hk⟩
end
theorem infoEvP : (Tryz.prog.info? 36).map (fun i => (i.zero, i.size, i.bytes)) = some (some (.agg #[.int .i64 0, .int .i64 0, .int .i64 0, .int .u64 0, .int .u64 0]), 5, 40) := by kernel_rfl
theorem evF_one (x : Ev) : ∀ u ∈ evF x, u.oneCell' = true := fun u hu => by
 unfold evF at hu
 simp only [List.mem_cons, List.not_mem_nil, or_false] at hu
 rcases hu with rfl | rfl | rfl | rfl | rfl <;> rfl
def KpE (q : World) (r s : Value) (g : Nat) (x : Ev) : Prop := Lies q g 36 (evC x) ∧ r.ownBlock ≠ some g ∧ s.ownBlock ≠ some g
structure TwE (B : Nat) (q : World) (r s : Value) (X Y : List Ev) : Prop where
 le : B ≤ q.heap.size
 o1 : q.ownsRow B 36 5 r X.length (rowsOf evF X)
 o2 : q.ownsRow B 36 5 s Y.length (rowsOf evF Y)
 ap : Apt r s
theorem own_ltE {w : World} {B n sz : Nat} {e : TypeId} {v : Value} {xs : List Value} (h : w.ownsRow B e sz v n xs) {g : Nat} (hg : v.ownBlock = some g) : g < w.heap.size := by
 rcases owns_row h with ⟨rfl, _⟩ | ⟨r, cap, cur, rfl, _, hl, _⟩
 ·cases hg
 ·have h3 : r = g := Option.some.inj hg
  have := hl.lt
  omega
section
variable {B : Nat} {q q' : World} {r s : Value} {X Y : List Ev} {g : Nat} {x y : Ev}
theorem KpE.below (h : KpE q r s g x) (hb : Below q.heap.size q q') : KpE q' r s g x := ⟨h.1.below hb h.1.lt, h.2⟩
theorem KpE.swap (h : KpE q r s g x) : KpE q s r g x := ⟨h.1, h.2.2, h.2.1⟩
theorem TwE.below (h : TwE B q r s X Y) (hb : Below q.heap.size q q') : TwE B q' r s X Y := ⟨Nat.le_trans h.le hb.size, owned_below h.o1 hb, owned_below h.o2 hb, h.ap⟩
theorem TwE.swap (h : TwE B q r s X Y) : TwE B q s r Y X := ⟨h.le, h.o2, h.o1, h.ap.symm⟩
theorem TwE.nil (hB : B ≤ q.heap.size) : TwE B q (.slice none 0 0) (.slice none 0 0) [] [] := ⟨hB, World.ownsRow_nil _ _ _ _, World.ownsRow_nil _ _ _ _, fun k h => by cases h⟩
theorem TwE.fresh (h : TwE B q r s X Y) (x : Ev) : KpE (q.alloc (.cells (evC x) 36)) r s q.heap.size x :=
 ⟨Lies.made q 36 (evC x), (fun e => by have := own_ltE h.o1 e; omega), (fun e => by have := own_ltE h.o2 e; omega)⟩
theorem TwE.put (h : TwE B q r s X Y) {cs : Array Value} (hr : r.ownBlock ≠ some g) (hs : s.ownBlock ≠ some g) (i : Nat) (u : Value) : TwE B (q.setCell ⟨g, i, none⟩ u) r s X Y :=
 ⟨Nat.le_trans h.le (Kept.put q g i u).size, owns_kept h.o1 (Kept.put q g i u) (fun k cur e _ (hk : k = g) => hr (by rw [e, hk])), owns_kept h.o2 (Kept.put q g i u) (fun k cur e _ (hk : k = g) => hs (by rw [e, hk])), h.ap⟩
end
theorem append_two {P : Program} {ops : Array Oper} {rest : List Oper} {o : Oper} {act : Act} {Q : Exit → Act → World → Prop} (w : World)
  (hg : o.guard = none) (a y : Operand) (t : TypeId) (hop : o.op = Op.call { callee := Callee.builtin Builtin.append, args := #[a, y], argTypes := #[t, t] })
  (B : Nat) (ht : P.underlying t = some (.slice 36)) (hi : (P.info? 36).map (fun i => (i.zero, i.size, i.bytes)) = some (some (.agg #[.int .i64 0, .int .i64 0, .int .i64 0, .int .u64 0, .int .u64 0]), 5, 40))
  {r s : Value} {X Y : List Ev} {g : Nat} {x : Ev} (h : TwE B w r s X Y) (hs : act.eval a = r) (hy : act.eval y = .slice (some ⟨g, 0, none⟩) 1 1) (hk : KpE w r s g x) (b1 : X.length ≤ 1000000)
  (hK : ∀ r' w', TwE B w' r' s (X ++ [x]) Y → Below B w w' → (∀ g y, KpE w r s g y → KpE w' r' s g y) → wpList P ops Q rest (act.put o.dst r') w') :
  wpList P ops Q (o :: rest) act w := by
 refine append_argS_at w 5 hg a y t hop B 36 _ 40 ht hi rfl (by decide) r X.length (rowsOf evF X) hs h.o1 (some ⟨g, 0, none⟩) 1 1 hy (evF x) ⟨rfl, some ⟨g, 0, none⟩, 1, rfl, Nat.le_refl _, by decide, (fun e => by cases e), fun j u hu => ?_⟩ (evF_one x) (by unfold maxLen; omega) (by omega) h.le ?_
 ·refine ⟨g, 0, rfl, ?_⟩
  rw [Nat.zero_add, hk.1.cell]
  exact (List.getElem?_toArray).trans hu
 ·intro r' w' ho hb hgr hat
  have hnew : ∀ k, k < w.heap.size → r.ownBlock ≠ some k → r'.ownBlock ≠ some k := fun k hk h1 e => by
   rcases hat with e1 | ⟨e1, _⟩
   ·exact h1 (e1 ▸ e)
   ·rw [e1] at e
    have := Option.some.inj e
    omega
  refine hK r' w' ⟨Nat.le_trans h.le hb.size, ?_, ?_, ?_⟩ hb ?_
  ·have e : rowsOf evF X ++ evF x = rowsOf evF (X ++ [x]) := by rw [rowsOf_append, rowsOf_one]
   rw [e] at ho
   rw [List.length_append]; exact ho
  ·exact owns_kept h.o2 (Kept.of_grown hgr) (fun k cur e _ (hk : r.ownBlock = some k) => h.ap k hk e)
  ·intro k e1 e2
   exact hnew k (own_ltE h.o2 e2) (fun e => h.ap k e e2) e1
  ·exact fun g y hkp => ⟨hkp.1.kept (Kept.of_grown hgr) (fun e => hkp.2.1 e), hnew g hkp.1.lt hkp.2.1, hkp.2.2⟩
def PrS (B : Nat) (w0 : World) (ga gb : Nat) (a b : Ev) (v1 v2 : Value) (X Y : List Ev) (x : Nat → Value) (L : Nat → Bool) (q : World) : Prop :=
 Below B w0 q ∧ ∃ r s X' Y', (L 3 = false → r = v1 ∧ X' = X) ∧ (L 3 = true → r = x 3 ∧ X' = X ++ [a]) ∧ (L 7 = false → s = v2 ∧ Y' = Y) ∧ (L 7 = true → s = x 7 ∧ Y' = Y ++ [b]) ∧
  TwE B q r s X' Y' ∧ KpE q r s ga a ∧ KpE q r s gb b ∧ (L 2 = true → ∃ g, x 2 = .slice (some ⟨g, 0, none⟩) 1 1 ∧ KpE q r s g a) ∧ (L 6 = true → ∃ g, x 6 = .slice (some ⟨g, 0, none⟩) 1 1 ∧ KpE q r s g b)
section
variable {B : Nat} {w0 : World} {ga gb : Nat} {a b : Ev} {v1 v2 : Value} {X Y : List Ev} {x : Nat → Value} {L : Nat → Bool} {q q' : World} {i : Nat} {v : Value}
theorem pr_start (hb : Below B w0 q) (h : TwE B q v1 v2 X Y) (ha : KpE q v1 v2 ga a) (hc : KpE q v1 v2 gb b) : PrS B w0 ga gb a b v1 v2 X Y x (fun _ => false) q :=
 ⟨hb, v1, v2, X, Y, fun _ => ⟨rfl, rfl⟩, (fun h => by cases h), fun _ => ⟨rfl, rfl⟩, (fun h => by cases h), h, ha, hc, (fun h => by cases h), (fun h => by cases h)⟩
theorem pr_pure (hi : (i != 2 && (i != 3 && (i != 6 && i != 7))) = true) (h : PrS B w0 ga gb a b v1 v2 X Y x L q) : PrS B w0 ga gb a b v1 v2 X Y (updX x i v) (updL L i) q := by
 simp only [Bool.and_eq_true, bne_iff_ne] at hi
 obtain ⟨i2, i3, i6, i7⟩ := hi
 unfold PrS
 rw [updL_ne (Ne.symm i2), updL_ne (Ne.symm i3), updL_ne (Ne.symm i6), updL_ne (Ne.symm i7), updX_ne (Ne.symm i2), updX_ne (Ne.symm i3), updX_ne (Ne.symm i6), updX_ne (Ne.symm i7)]
 exact h
theorem pr_litA (h : PrS B w0 ga gb a b v1 v2 X Y x L q) : PrS B w0 ga gb a b v1 v2 X Y (updX x 2 (.slice (some ⟨q.heap.size, 0, none⟩) 1 1)) (updL L 2) (q.alloc (.cells (evC a) 36)) := by
 obtain ⟨h0, r, s, X', Y', h1, h2, h3, h4, h5, h6, h7, h8, h9⟩ := h
 have hb := (Below.refl q.heap.size q).alloc (Nat.le_refl _) (.cells (evC a) 36)
 unfold PrS
 rw [updL_at, updX_at, updL_ne (show 3 ≠ 2 by decide), updL_ne (show 6 ≠ 2 by decide), updL_ne (show 7 ≠ 2 by decide), updX_ne (show 3 ≠ 2 by decide), updX_ne (show 6 ≠ 2 by decide), updX_ne (show 7 ≠ 2 by decide)]
 exact ⟨h0.trans (hb.mono h5.le), r, s, X', Y', h1, h2, h3, h4, h5.below hb, h6.below hb, h7.below hb, fun _ => ⟨_, rfl, h5.fresh a⟩, fun e => by obtain ⟨g, e1, e2⟩ := h9 e; exact ⟨g, e1, e2.below hb⟩⟩
theorem pr_litB (h : PrS B w0 ga gb a b v1 v2 X Y x L q) : PrS B w0 ga gb a b v1 v2 X Y (updX x 6 (.slice (some ⟨q.heap.size, 0, none⟩) 1 1)) (updL L 6) (q.alloc (.cells (evC b) 36)) := by
 obtain ⟨h0, r, s, X', Y', h1, h2, h3, h4, h5, h6, h7, h8, h9⟩ := h
 have hb := (Below.refl q.heap.size q).alloc (Nat.le_refl _) (.cells (evC b) 36)
 unfold PrS
 rw [updL_at, updX_at, updL_ne (show 3 ≠ 6 by decide), updL_ne (show 2 ≠ 6 by decide), updL_ne (show 7 ≠ 6 by decide), updX_ne (show 3 ≠ 6 by decide), updX_ne (show 2 ≠ 6 by decide), updX_ne (show 7 ≠ 6 by decide)]
 exact ⟨h0.trans (hb.mono h5.le), r, s, X', Y', h1, h2, h3, h4, h5.below hb, h6.below hb, h7.below hb, (fun e => by obtain ⟨g, e1, e2⟩ := h8 e; exact ⟨g, e1, e2.below hb⟩), fun _ => ⟨_, rfl, h5.fresh b⟩⟩
theorem pr_openA (h : PrS B w0 ga gb a b v1 v2 X Y x L q) (h2 : L 2 = true) (h3 : L 3 = false) (h7 : L 7 = false) : ∃ g, x 2 = .slice (some ⟨g, 0, none⟩) 1 1 ∧ KpE q v1 v2 g a ∧ TwE B q v1 v2 X Y := by
 obtain ⟨h0, r, s, X', Y', k1, k2, k3, k4, k5, k6, k7, k8, k9⟩ := h
 obtain ⟨rfl, rfl⟩ := k1 h3
 obtain ⟨rfl, rfl⟩ := k3 h7
 obtain ⟨g, e1, e2⟩ := k8 h2
 exact ⟨g, e1, e2, k5⟩
theorem pr_pushA (h : PrS B w0 ga gb a b v1 v2 X Y x L q) (h3 : L 3 = false) (h7 : L 7 = false) {r' : Value} (ht : TwE B q' r' v2 (X ++ [a]) Y) (hb : Below B q q') (hk : ∀ g y, KpE q v1 v2 g y → KpE q' r' v2 g y) : PrS B w0 ga gb a b v1 v2 X Y (updX x 3 r') (updL L 3) q' := by
 obtain ⟨h0, r, s, X', Y', k1, k2, k3, k4, k5, k6, k7, k8, k9⟩ := h
 obtain ⟨rfl, rfl⟩ := k1 h3
 obtain ⟨rfl, rfl⟩ := k3 h7
 unfold PrS
 rw [updL_at, updX_at, updL_ne (show 2 ≠ 3 by decide), updL_ne (show 6 ≠ 3 by decide), updL_ne (show 7 ≠ 3 by decide), updX_ne (show 2 ≠ 3 by decide), updX_ne (show 6 ≠ 3 by decide), updX_ne (show 7 ≠ 3 by decide)]
 exact ⟨h0.trans hb, r', s, _, _, (fun e => by cases e), fun _ => ⟨rfl, rfl⟩, fun _ => ⟨rfl, rfl⟩, (fun e => by rw [h7] at e; cases e), ht, hk _ _ k6, hk _ _ k7, (fun e => by obtain ⟨g, e1, e2⟩ := k8 e; exact ⟨g, e1, hk _ _ e2⟩), fun e => by obtain ⟨g, e1, e2⟩ := k9 e; exact ⟨g, e1, hk _ _ e2⟩⟩
theorem pr_openB (h : PrS B w0 ga gb a b v1 v2 X Y x L q) (h6 : L 6 = true) (h3 : L 3 = true) (h7 : L 7 = false) : ∃ g, x 6 = .slice (some ⟨g, 0, none⟩) 1 1 ∧ KpE q (x 3) v2 g b ∧ TwE B q (x 3) v2 (X ++ [a]) Y := by
 obtain ⟨h0, r, s, X', Y', k1, k2, k3, k4, k5, k6, k7, k8, k9⟩ := h
 obtain ⟨rfl, rfl⟩ := k2 h3
 obtain ⟨rfl, rfl⟩ := k3 h7
 obtain ⟨g, e1, e2⟩ := k9 h6
 exact ⟨g, e1, e2, k5⟩
theorem pr_pushB (h : PrS B w0 ga gb a b v1 v2 X Y x L q) (h3 : L 3 = true) (h7 : L 7 = false) {s' : Value} (ht : TwE B q' (x 3) s' (X ++ [a]) (Y ++ [b])) (hb : Below B q q') (hk : ∀ g y, KpE q (x 3) v2 g y → KpE q' (x 3) s' g y) : PrS B w0 ga gb a b v1 v2 X Y (updX x 7 s') (updL L 7) q' := by
 obtain ⟨h0, r, s, X', Y', k1, k2, k3, k4, k5, k6, k7, k8, k9⟩ := h
 obtain ⟨rfl, rfl⟩ := k2 h3
 obtain ⟨rfl, rfl⟩ := k3 h7
 unfold PrS
 rw [updL_at, updX_at, updL_ne (show 2 ≠ 7 by decide), updL_ne (show 6 ≠ 7 by decide), updL_ne (show 3 ≠ 7 by decide), updX_ne (show 2 ≠ 7 by decide), updX_ne (show 6 ≠ 7 by decide), updX_ne (show 3 ≠ 7 by decide)]
 exact ⟨h0.trans hb, _, s', _, _, (fun e => by rw [h3] at e; cases e), fun _ => ⟨rfl, rfl⟩, (fun e => by cases e), fun _ => ⟨rfl, rfl⟩, ht, hk _ _ k6, hk _ _ k7, (fun e => by obtain ⟨g, e1, e2⟩ := k8 e; exact ⟨g, e1, hk _ _ e2⟩), fun e => by obtain ⟨g, e1, e2⟩ := k9 e; exact ⟨g, e1, hk _ _ e2⟩⟩
theorem pr_done (h : PrS B w0 ga gb a b v1 v2 X Y x L q) (h3 : L 3 = true) (h7 : L 7 = true) : Below B w0 q ∧ TwE B q (x 3) (x 7) (X ++ [a]) (Y ++ [b]) := by
 obtain ⟨h0, r, s, X', Y', k1, k2, k3, k4, k5, k6, k7, k8, k9⟩ := h
 obtain ⟨rfl, rfl⟩ := k2 h3
 obtain ⟨rfl, rfl⟩ := k4 h7
 exact ⟨h0, k5⟩
theorem pr_evA (h : PrS B w0 ga gb a b v1 v2 X Y x L q) : Lies q ga 36 (evC a) ∧ Lies q gb 36 (evC b) := by
 obtain ⟨h0, r, s, X', Y', k1, k2, k3, k4, k5, k6, k7, k8, k9⟩ := h
 exact ⟨k6.1, k7.1⟩
def PrO (x : Nat → Value) (L : Nat → Bool) : Prop := (L 7 = true → L 3 = true) ∧ (L 8 = true → L 3 = true ∧ x 8 = x 3) ∧ (L 9 = true → L 7 = true ∧ x 9 = x 7)
theorem po_start : PrO x (fun _ => false) := ⟨(fun h => by cases h), (fun h => by cases h), (fun h => by cases h)⟩
theorem po_ne (hi : (i != 3 && (i != 7 && (i != 8 && i != 9))) = true) (h : PrO x L) : PrO (updX x i v) (updL L i) := by
 simp only [Bool.and_eq_true, bne_iff_ne] at hi
 obtain ⟨i3, i7, i8, i9⟩ := hi
 unfold PrO
 rw [updL_ne (Ne.symm i3), updL_ne (Ne.symm i7), updL_ne (Ne.symm i8), updL_ne (Ne.symm i9), updX_ne (Ne.symm i3), updX_ne (Ne.symm i7), updX_ne (Ne.symm i8), updX_ne (Ne.symm i9)]
 exact h
theorem po_no7 (h : PrO x L) (h3 : L 3 = false) : L 7 = false := by
 cases e : L 7 with
 | false => rfl
 | true => have := h.1 e; rw [h3] at this; cases this
theorem po3 (h : PrO x L) (h3 : L 3 = false) : PrO (updX x 3 v) (updL L 3) := by
 unfold PrO
 rw [updL_at, updX_at, updL_ne (show 7 ≠ 3 by decide), updL_ne (show 8 ≠ 3 by decide), updL_ne (show 9 ≠ 3 by decide), updX_ne (show 8 ≠ 3 by decide), updX_ne (show 9 ≠ 3 by decide), updX_ne (show 7 ≠ 3 by decide)]
 exact ⟨fun _ => rfl, (fun e => by have := (h.2.1 e).1; rw [h3] at this; cases this), h.2.2⟩
theorem po7 (h : PrO x L) (h3 : L 3 = true) (h7 : L 7 = false) : PrO (updX x 7 v) (updL L 7) := by
 unfold PrO
 rw [updL_at, updX_at, updL_ne (show 3 ≠ 7 by decide), updL_ne (show 8 ≠ 7 by decide), updL_ne (show 9 ≠ 7 by decide), updX_ne (show 8 ≠ 7 by decide), updX_ne (show 9 ≠ 7 by decide), updX_ne (show 3 ≠ 7 by decide)]
 exact ⟨fun _ => h3, h.2.1, (fun e => by have := (h.2.2 e).1; rw [h7] at this; cases this)⟩
theorem po8 (h : PrO x L) (h3 : L 3 = true) : PrO (updX x 8 (x 3)) (updL L 8) := by
 unfold PrO
 rw [updL_at, updX_at, updL_ne (show 3 ≠ 8 by decide), updL_ne (show 7 ≠ 8 by decide), updL_ne (show 9 ≠ 8 by decide), updX_ne (show 3 ≠ 8 by decide), updX_ne (show 9 ≠ 8 by decide), updX_ne (show 7 ≠ 8 by decide)]
 exact ⟨h.1, fun _ => ⟨h3, rfl⟩, h.2.2⟩
theorem po9 (h : PrO x L) (h7 : L 7 = true) : PrO (updX x 9 (x 7)) (updL L 9) := by
 unfold PrO
 rw [updL_at, updX_at, updL_ne (show 3 ≠ 9 by decide), updL_ne (show 7 ≠ 9 by decide), updL_ne (show 8 ≠ 9 by decide), updX_ne (show 3 ≠ 9 by decide), updX_ne (show 8 ≠ 9 by decide), updX_ne (show 7 ≠ 9 by decide)]
 exact ⟨h.1, h.2.1, fun _ => ⟨h7, rfl⟩⟩
def PqS (B : Nat) (w0 : World) (ga gb : Nat) (a b : Ev) (v1 v2 : Value) (X Y : List Ev) (x : Nat → Value) (L : Nat → Bool) (q : World) : Prop := PrS B w0 ga gb a b v1 v2 X Y x L q ∧ PrO x L
theorem pq_pure (hi : (i != 2 && (i != 3 && (i != 6 && (i != 7 && (i != 8 && i != 9))))) = true) (h : PqS B w0 ga gb a b v1 v2 X Y x L q) : PqS B w0 ga gb a b v1 v2 X Y (updX x i v) (updL L i) q := by
 simp only [Bool.and_eq_true, bne_iff_ne] at hi
 refine ⟨pr_pure ?_ h.1, po_ne ?_ h.2⟩ <;> simp only [Bool.and_eq_true, bne_iff_ne]
 ·exact ⟨hi.1, hi.2.1, hi.2.2.1, hi.2.2.2.1⟩
 ·exact ⟨hi.2.1, hi.2.2.2⟩
def prP (v1 v2 : Value) (a b : Ev) : Nat → Value → World → Prop
 | 0, v, _ => v = v1
 | 1, v, _ => v = .agg (evC a)
 | 4, v, _ => v = v2
 | 5, v, _ => v = .agg (evC b)
 | _, _, _ => True
theorem prP_any {j : Nat} {u : Value} {q2 : World} (h : prP v1 v2 a b j u q) : prP v1 v2 a b j u q2 := by
 unfold prP at h ⊢
 split at h <;> trivial
end
def EvZ : Array Value := evC ⟨0, 0, 0, 0, 0⟩
def LwE (w9 : World) (x : Nat → Value) (L : Nat → Bool) (q : World) : Prop :=
 Below w9.heap.size w9 q ∧ BkS 36 8 10 3 EvZ w9.heap.size x L q ∧ BkS 36 9 11 7 EvZ w9.heap.size x L q ∧ ∀ g k, L 8 = true → L 9 = true → x 8 = .pointer (some ⟨g, 0, none⟩) → x 9 = .pointer (some ⟨k, 0, none⟩) → g ≠ k
section
variable {w9 : World} {x : Nat → Value} {L : Nat → Bool} {q : World} {i : Nat} {v : Value}
theorem le_start : LwE w9 x (fun _ => false) (w9.drewN 1) := ⟨below_drewN (Below.refl _ _) 1, bk_none, bk_none, fun _ _ h => by cases h⟩
theorem le_pure (hi : (i != 8 && (i != 9 && (i != 10 && i != 11))) = true) (h : LwE w9 x L q) (hL : L i = false := by assumption) : LwE w9 (updX x i v) (updL L i) q := by
 simp only [Bool.and_eq_true, bne_iff_ne] at hi
 obtain ⟨i8, i9, i10, i11⟩ := hi
 refine ⟨h.1, bk_pure h.2.1 (by simp [i8, i10]) hL, bk_pure h.2.2.1 (by simp [i9, i11]) hL, ?_⟩
 rw [updL_ne (Ne.symm i8), updL_ne (Ne.symm i9), updX_ne (Ne.symm i8), updX_ne (Ne.symm i9)]
 exact h.2.2.2
theorem le_made1 (h : LwE w9 x L q) (hL : L 8 = false) : LwE w9 (updX x 8 (.pointer (some ⟨q.heap.size, 0, none⟩))) (updL L 8) (q.alloc (.cells EvZ 36)) := by
 have hb : Below q.heap.size q (q.alloc (.cells EvZ 36)) := (Below.refl _ _).alloc (Nat.le_refl _) _
 refine ⟨h.1.trans (hb.mono h.1.size), bk_made h.2.1 hL (by decide) (by decide) h.1.size, bk_pure (bk_below h.2.2.1 hb) (by decide) hL, ?_⟩
 rw [updL_ne (show 9 ≠ 8 by decide), updX_at, updX_ne (show 9 ≠ 8 by decide)]
 intro g k _ h9 e1 e2
 obtain ⟨g2, a2, e3, _, hl, _⟩ := h.2.2.1.2 h9
 rw [e2] at e3
 simp only [Value.pointer.injEq, Option.some.injEq, Addr.mk.injEq, and_true] at e1 e3
 have := hl.lt
 omega
theorem le_made2 (h : LwE w9 x L q) (hL : L 9 = false) : LwE w9 (updX x 9 (.pointer (some ⟨q.heap.size, 0, none⟩))) (updL L 9) (q.alloc (.cells EvZ 36)) := by
 have hb : Below q.heap.size q (q.alloc (.cells EvZ 36)) := (Below.refl _ _).alloc (Nat.le_refl _) _
 refine ⟨h.1.trans (hb.mono h.1.size), bk_pure (bk_below h.2.1 hb) (by decide) hL, bk_made h.2.2.1 hL (by decide) (by decide) h.1.size, ?_⟩
 rw [updL_ne (show 8 ≠ 9 by decide), updX_at, updX_ne (show 8 ≠ 9 by decide)]
 intro g k h8 _ e1 e2
 obtain ⟨g2, a2, e3, _, hl, _⟩ := h.2.1.2 h8
 rw [e1] at e3
 simp only [Value.pointer.injEq, Option.some.injEq, Addr.mk.injEq, and_true] at e2 e3
 have := hl.lt
 omega
theorem bk_put {T : TypeId} {i k m : Nat} {z0 : Array Value} {N g : Nat} (h : BkS T i k m z0 N x L q) (a : Array Value) (hg : ∀ g2, L i = true → x i = .pointer (some ⟨g2, 0, none⟩) → g2 ≠ g) : BkS T i k m z0 N x L (q.setRow g a) := by
 refine ⟨h.1, fun hi => ?_⟩
 obtain ⟨g2, a2, h1, h2, h3, h4, h5⟩ := h.2 hi
 exact ⟨g2, a2, h1, h2, h3.kept (kept_rowS (w := q) (g := g) (S := fun i => i = g) a rfl) (hg g2 hi h1), h4, h5⟩
theorem le_store1 {g : Nat} {a : Array Value} (h : LwE w9 x L q) (hi : L 8 = true) (hm : L 3 = true) (h1 : x 8 = .pointer (some ⟨g, 0, none⟩)) (h2 : w9.heap.size ≤ g) (h3 : Lies q g 36 EvZ) (hv : x 3 = .agg a) (hL : L 10 = false) : LwE w9 (updX x 10 v) (updL L 10) (q.setRow g a) := by
 have hk := kept_rowS (w := q) (g := g) (S := fun i => i = g) a rfl
 refine ⟨h.1.trans (hk.below h.1.size (fun i hi (e : i = g) => by omega)), bk_store hi hm (by decide) (by decide) h1 h2 h3 hv, bk_pure (bk_put h.2.2.1 a (fun g2 h9 e => (h.2.2.2 g g2 hi h9 h1 e).symm)) (by decide) hL, ?_⟩
 rw [updL_ne (show 8 ≠ 10 by decide), updL_ne (show 9 ≠ 10 by decide), updX_ne (show 8 ≠ 10 by decide), updX_ne (show 9 ≠ 10 by decide)]
 exact h.2.2.2
theorem le_store2 {g : Nat} {a : Array Value} (h : LwE w9 x L q) (hi : L 9 = true) (hm : L 7 = true) (h1 : x 9 = .pointer (some ⟨g, 0, none⟩)) (h2 : w9.heap.size ≤ g) (h3 : Lies q g 36 EvZ) (hv : x 7 = .agg a) (hL : L 11 = false) : LwE w9 (updX x 11 v) (updL L 11) (q.setRow g a) := by
 have hk := kept_rowS (w := q) (g := g) (S := fun i => i = g) a rfl
 refine ⟨h.1.trans (hk.below h.1.size (fun i hi (e : i = g) => by omega)), bk_pure (bk_put h.2.1 a (fun g2 h8 e => h.2.2.2 g2 g h8 hi e h1)) (by decide) hL, bk_store hi hm (by decide) (by decide) h1 h2 h3 hv, ?_⟩
 rw [updL_ne (show 8 ≠ 11 by decide), updL_ne (show 9 ≠ 11 by decide), updX_ne (show 8 ≠ 11 by decide), updX_ne (show 9 ≠ 11 by decide)]
 exact h.2.2.2
def leV (A1 : Option Addr) (n1 c1 : Nat) (A2 : Option Addr) (n2 c2 : Nat) (k : Nat) (p1 p2 : Addr) (a b : Ev) : Nat → Value → World → Prop
 | 0, v, _ => v = .slice A1 n1 c1
 | 1, v, _ => v = .int .i64 (k : Int)
 | 2, v, _ => v = .pointer (some p1)
 | 3, v, _ => v = .agg (evC a)
 | 4, v, _ => v = .slice A2 n2 c2
 | 5, v, _ => v = .int .i64 (k : Int)
 | 6, v, _ => v = .pointer (some p2)
 | 7, v, _ => v = .agg (evC b)
 | _, _, _ => True
theorem leV_any {A1 : Option Addr} {n1 c1 : Nat} {A2 : Option Addr} {n2 c2 k : Nat} {p1 p2 : Addr} {a b : Ev} {j : Nat} {u : Value} {q q2 : World} (h : leV A1 n1 c1 A2 n2 c2 k p1 p2 a b j u q) : leV A1 n1 c1 A2 n2 c2 k p1 p2 a b j u q2 := by
 unfold leV at h ⊢
 split at h <;> trivial
end
theorem enc_mono {a b : Nat} (h : a ≤ b) : (enc a).length ≤ (enc b).length := leb_mono 9 a b h
def ev0 (x : Ev) : Ev := ⟨0, x.kd, x.rg, x.tk, x.vl⟩
def ev7 (x : Ev) : Ev := ⟨7, x.kd, x.rg, x.tk, x.vl⟩
theorem enc_one {k : Nat} (h : k < 128) : (enc k).length = 1 := by
 have h1 := enc_mono (show k ≤ 127 by omega)
 have h2 : (enc 127).length = 1 := by decide +kernel
 have h3 := (enc_length k).1
 omega
theorem pr_one {n : Nat} (h0 : n ≠ 0) (h : n ≤ 128) : (printR (List.replicate n 0)).length = 3 := by
 have hp : packs (List.replicate n 0) = [(0, n)] := by
  have : List.replicate n 0 = spreads [(0, n)] := by simp [spreads]
  rw [this]
  exact packs_spreads _ ⟨h0, rfl, trivial⟩
 unfold printR
 rw [hp, List.length_append, show (bodyR [(0, n)]) = enc 0 ++ enc (n - 1) by simp [bodyR], List.length_append]
 have e1 := enc_one (by simp : [(0, n)].length < 128)
 have e2 := enc_one (show 0 < 128 by decide)
 have e3 := enc_one (show n - 1 < 128 by omega)
 omega
theorem pr_two {n m : Nat} (h0 : n ≠ 0) (h : n ≤ 128) (m0 : m ≠ 0) (hm : m ≤ 128) : (printR (List.replicate n 0 ++ List.replicate m 7)).length = 5 := by
 have hp : packs (List.replicate n 0 ++ List.replicate m 7) = [(0, n), (7, m)] := by
  have : List.replicate n 0 ++ List.replicate m 7 = spreads [(0, n), (7, m)] := by simp [spreads]
  rw [this]
  exact packs_spreads _ ⟨h0, rfl, m0, rfl, trivial⟩
 unfold printR
 rw [hp, List.length_append, show (bodyR [(0, n), (7, m)]) = (enc 0 ++ enc (n - 1)) ++ (enc 7 ++ enc (m - 1)) by simp [bodyR], List.length_append, List.length_append, List.length_append]
 have e1 := enc_one (by simp : [(0, n), (7, m)].length < 128)
 have e2 := enc_one (show 0 < 128 by decide)
 have e3 := enc_one (show n - 1 < 128 by omega)
 have e4 := enc_one (show 7 < 128 by decide)
 have e5 := enc_one (show m - 1 < 128 by omega)
 omega
def frontN (m : Nat) : Nat := if m = 0 then 3 else 5
theorem own_both (a b : List Ev) : ownE (a.map ev0 ++ b.map ev7) 0 = a.map ev0 := by
 unfold ownE
 rw [List.filter_append]
 have h1 : (a.map ev0).filter (fun x => decide (x.th = 0)) = a.map ev0 := List.filter_eq_self.2 (fun x hx => by
  obtain ⟨y, _, rfl⟩ := List.mem_map.1 hx
  exact decide_eq_true rfl)
 have h2 : (b.map ev7).filter (fun x => decide (x.th = 0)) = [] := List.filter_eq_nil_iff.2 (fun x hx => by
  obtain ⟨y, _, rfl⟩ := List.mem_map.1 hx
  show ¬ decide ((7 : Int) = 0) = true
  decide)
 rw [h1, h2, List.append_nil]
theorem thF_both (a b : List Ev) : (a.map ev0 ++ b.map ev7).map thF = List.replicate a.length 0 ++ List.replicate b.length 7 := by
 rw [List.map_append, List.map_map, List.map_map]
 have h1 : a.map (thF ∘ ev0) = List.replicate a.length 0 := by rw [← List.map_const']; rfl
 have h2 : b.map (thF ∘ ev7) = List.replicate b.length 7 := by rw [← List.map_const']; rfl
 rw [h1, h2]
theorem parts_front (a b : List Ev) (ha : a.length ≠ 0) (ha2 : a.length ≤ 128) (hb : b.length ≤ 128) : ∃ F R, strS (a.map ev0 ++ b.map ev7) = F ++ (thrS (a.map ev0) ++ R) ∧ F.length = frontN b.length ∧ (b.length = 0 → R = []) := by
 have h1 : strK (a.map ev0 ++ b.map ev7) 1 = printR (List.replicate a.length 0 ++ List.replicate b.length 7) ++ thrS (a.map ev0) := by
  rw [strK, strK, thF_both]
  unfold strT
  rw [show ((0 : Nat) : Int) = 0 from rfl, own_both, List.length_map, if_neg ha]
 have hpre : ∀ d, ∃ q, strK (a.map ev0 ++ b.map ev7) (1 + d) = strK (a.map ev0 ++ b.map ev7) 1 ++ q ∧ (b.length = 0 → q = []) := fun d => by
  induction d with
  | zero => exact ⟨[], by rw [List.append_nil], fun _ => rfl⟩
  | succ d ih =>
   obtain ⟨q, hq, hq2⟩ := ih
   refine ⟨q ++ strT (a.map ev0 ++ b.map ev7) (1 + d), by rw [show 1 + (d + 1) = (1 + d) + 1 by omega, strK, hq]; simp only [List.append_assoc], fun h0 => ?_⟩
   rw [hq2 h0]
   have hb0 : b = [] := List.eq_nil_of_length_eq_zero h0
   unfold strT
   have : ownE (a.map ev0 ++ b.map ev7) ((1 + d : Nat) : Int) = [] := by
    rw [hb0, List.map_nil, List.append_nil]
    unfold ownE
    refine List.filter_eq_nil_iff.2 (fun x hx => ?_)
    obtain ⟨y, _, rfl⟩ := List.mem_map.1 hx
    show ¬ decide ((0 : Int) = ((1 + d : Nat) : Int)) = true
    simp; omega
   rw [this]; rfl
 obtain ⟨q, hq, hq2⟩ := hpre 7
 refine ⟨_, q, by unfold strS; rw [show 8 = 1 + 7 by decide, hq, h1, List.append_assoc], ?_, hq2⟩
 unfold frontN
 by_cases h0 : b.length = 0
 ·rw [if_pos h0, h0, List.replicate_zero, List.append_nil]; exact pr_one ha ha2
 ·rw [if_neg h0]; exact pr_two ha ha2 h0 hb
theorem cut_mid21 (F M R : List UInt8) : (textB (F ++ (M ++ R))).extract F.length (F.length + M.length) = textB M := by
 apply ByteArray.ext
 apply Array.toList_inj.1
 rw [ByteArray.data_extract, Array.toList_extract, List.extract_eq_take_drop]
 show ((F ++ (M ++ R)).drop F.length).take _ = M
 rw [List.drop_left, show F.length + M.length - F.length = M.length by omega, List.take_left]
theorem cut_end21 (F M : List UInt8) : (textB (F ++ M)).extract F.length (textB (F ++ M)).size = textB M := by
 rw [textB_size, List.length_append]
 have := cut_mid21 F M []
 rwa [List.append_nil] at this
theorem list5v {l : List Value} (h : l.length = 5) : ∃ a b c d e, l = [a, b, c, d, e] := by
 match l, h with
 | [a, b, c, d, e], _ => exact ⟨a, b, c, d, e, rfl⟩
section
variable {W : World} {H : Type} {enc : TypeId × Value → H}
set_option maxRecDepth 100000 in
theorem ev_open {n : Nat} {cs : List Value} {y : DataW H × List MemPlace} (hl : cs.length = 5) (h : DataW.trod enc Tryz.prog W 0 (fun _ => true) true n 36 cs = some y) : ∃ x : Ev, cs = evF x ∧ evOk x := by
 obtain ⟨z0, g0, b0⟩ := int_field (i := 0) (k := .i64) Tryz.underlying36 h rfl ⟨Tryz.underlying3, rfl, by kernel_rfl⟩
 obtain ⟨z1, g1, b1⟩ := int_field (i := 1) (k := .i64) Tryz.underlying36 h rfl ⟨Tryz.underlying3, rfl, by kernel_rfl⟩
 obtain ⟨z2, g2, b2⟩ := int_field (i := 2) (k := .i64) Tryz.underlying36 h rfl ⟨Tryz.underlying3, rfl, by kernel_rfl⟩
 obtain ⟨z3, g3, b3⟩ := int_field (i := 3) (k := .u64) Tryz.underlying36 h rfl ⟨Tryz.underlying34, rfl, by kernel_rfl⟩
 obtain ⟨z4, g4, b4⟩ := int_field (i := 4) (k := .u64) Tryz.underlying36 h rfl ⟨Tryz.underlying34, rfl, by kernel_rfl⟩
 have c3 := Go.bounds_u64 b3
 have c4 := Go.bounds_u64 b4
 obtain ⟨x0, x1, x2, x3, x4, rfl⟩ := list5v hl
 simp at g0 g1 g2 g3 g4
 subst g0 g1 g2 g3 g4
 refine ⟨⟨z0, z1, z2, z3.toNat, z4.toNat⟩, ?_, Go.bounds_i64 b0, Go.bounds_i64 b1, Go.bounds_i64 b2, ?_, ?_⟩
 ·unfold evF; simp only
  rw [show ((z3.toNat : Nat) : Int) = z3 by omega, show ((z4.toNat : Nat) : Int) = z4 by omega]
 ·simp only; omega
 ·simp only; omega
def EvArg (w : World) (a : Option Addr) (len cap : Nat) (l : List Ev) : Prop := l.length = len ∧ EvsAt w a cap l ∧ ∀ x ∈ l, evOk x
theorem opened22 {base : Nat} {a : Option Addr} {len cap : Nat} {d : DataW H} {p : List MemPlace}
  (_ : Value.okWide Tryz.prog W .any base 22 (.slice a len cap)) (h : DataW.Trod enc Tryz.prog W 0 (fun _ => true) true 22 (.slice a len cap) d p) : ∃ l : List Ev, EvArg W a len cap l := by
 obtain ⟨l, _, h1, h2, h3⟩ := argOf (f := evF) (sz := 5) (ok := evOk) Tryz.underlying22 (by kernel_rfl) (by omega) (fun n cs y hl h => ev_open hl h) h
 subst h1
 exact ⟨l, rfl, h2, h3⟩
end
theorem streams_ok (X : List Ev) (A : Option Addr) (c : Nat) (w : World) (hR : ∀ x ∈ X, rightE x = true ∧ evOk x) (hn : X.length ≤ 65536) (h : EvsAt w A c X) :
  Calls Tryz.prog 7 #[.slice A X.length c] w fun e w' => e = .returned (.tuple #[.string (textB (strS X)), .int .i64 0]) ∧ Below w.heap.size w w' := by
 have hc := chE_ok (l := X) (by omega) (fun x hx => (hR x hx).1)
 have := chunkStreams X A c w h (fun x hx => (hR x hx).2)
 rw [hc, show strV X = strS X by unfold strV; rw [hc]; rfl] at this
 exact this
theorem head_ok (X : List Ev) (n : Nat) (A : Option Addr) (c : Nat) (w : World) (hn : X.length = n) (hR : ∀ x ∈ X, rightE x = true ∧ evOk x) (h9 : n ≤ 65536) (h : SeqS w 5 (.slice A n c) n (rowsOf evF X)) :
  Calls Tryz.prog 10 #[.slice A n c] w fun e w' => e = .returned (.string (textB (strS X))) ∧ Below w.heap.size w w' := by
 subst hn
 exact refStreams21 X A c w h (fun x hx => (hR x hx).1) (fun x hx => (hR x hx).2) h9
set_option maxHeartbeats 16000000 in
set_option maxRecDepth 100000 in
theorem parts_walk (a1 : Option Addr) (n1 c1 : Nat) (za : List Ev) (a2 : Option Addr) (n2 c2 : Nat) (zb : List Ev) (a3 : Option Addr) (n3 c3 : Nat) (zc : List Ev) (W : World) (h1 : EvArg W a1 n1 c1 za) (h2 : EvArg W a2 n2 c2 zb) (h3 : EvArg W a3 n3 c3 zc)
  (x0 : c1 * Tryz.prog.bytesOf 36 ≤ reachBytes) (x1 : c2 * Tryz.prog.bytesOf 36 ≤ reachBytes) (x2 : c3 * Tryz.prog.bytesOf 36 ≤ reachBytes) :
  Calls Tryz.prog 5 #[.slice a1 n1 c1, .slice a2 n2 c2, .slice a3 n3 c3] W fun e w' => e = .returned (.bool true) ∧ Below W.heap.size W w' := by
 obtain ⟨rfl, hza, hoa⟩ := h1
 obtain ⟨rfl, hzb, hob⟩ := h2
 obtain ⟨rfl, hzc, hoc⟩ := h3
 have hby : Tryz.prog.bytesOf 36 = 40 := by kernel_rfl
 rw [hby] at x0 x1 x2
 unfold reachBytes at x0 x1 x2
 obtain ⟨A', c', e', l1, m1, _⟩ := (hza).form
 simp only [Value.slice.injEq, true_and] at e'
 obtain ⟨rfl, rfl⟩ := e'
 unfold maxLen at m1
 obtain ⟨A', c', e', l2, m2, _⟩ := (hzb).form
 simp only [Value.slice.injEq, true_and] at e'
 obtain ⟨rfl, rfl⟩ := e'
 unfold maxLen at m2
 obtain ⟨A', c', e', l3, m3, _⟩ := (hzc).form
 simp only [Value.slice.injEq, true_and] at e'
 obtain ⟨rfl, rfl⟩ := e'
 unfold maxLen at m3
 have HZA := Lib.hid (fun (q : World) (hq : Below W.heap.size W q) => SeqS.later hza hq)
 have HZB := Lib.hid (fun (q : World) (hq : Below W.heap.size W q) => SeqS.later hzb hq)
 have HZC := Lib.hid (fun (q : World) (hq : Below W.heap.size W q) => SeqS.later hzc hq)
 have HOA := Lib.hid hoa
 have HOB := Lib.hid hob
 have HOC := Lib.hid hoc
 have HB := Lib.hid (Below.refl W.heap.size W)
 clear hza hzb hzc hoa hob hoc hby
 have la : za.length ≤ 3518437208884 := by omega
 have lb : zb.length ≤ 3518437208884 := by omega
 have lc : zc.length ≤ 3518437208884 := by omega
 clear x0 x1 x2
 have s1 : IntKind.i64.wrap ((za.length : Int) + (zb.length : Int)) = (za.length : Int) + (zb.length : Int) := by rw [IntKind.wrap_i64]; omega
 have s2 : IntKind.i64.wrap ((za.length : Int) + (zb.length : Int) + (zc.length : Int)) = (za.length : Int) + (zb.length : Int) + (zc.length : Int) := by rw [IntKind.wrap_i64]; omega
 by_cases hS : 100 < za.length + zb.length + zc.length
 ·have e1 : decide ((100 : Int) < (za.length : Int) + (zb.length : Int) + (zc.length : Int)) = true := decide_eq_true (by omega)
  have e2 : decide (100 < za.length + zb.length + zc.length) = true := decide_eq_true hS
  clear hS
  clear HZA HZB HZC
  go_enter Tryz.func5, Tryz.ntmps5
  go_wp2_with fail
  refine (awake21 _).mono ?_
  rintro e w1 ⟨rfl, hb1⟩
  replace HB := Lib.hid (HB.out.trans (hb1.mono HB.out.size))
  clear hb1
  go_wp2_with fail
  refine (awake21 _).mono ?_
  rintro e w2 ⟨rfl, hb1⟩
  replace HB := Lib.hid (HB.out.trans (hb1.mono HB.out.size))
  clear hb1
  go_wp2
  go_ret
  exact ⟨rfl, HB.out⟩
 have e1 : decide ((100 : Int) < (za.length : Int) + (zb.length : Int) + (zc.length : Int)) = false := decide_eq_false (by omega)
 have e2 : decide (100 < za.length + zb.length + zc.length) = false := decide_eq_false hS
 by_cases hA0 : za.length = 0
 ·have e3 : ((za.length : Int) == 0) = true := by rw [beq_iff_eq]; omega
  have e4 : (za.length == 0) = true := by rw [beq_iff_eq]; exact hA0
  clear hA0
  clear HZA HZB HZC
  go_enter Tryz.func5, Tryz.ntmps5
  go_wp2_with fail
  refine (awake21 _).mono ?_
  rintro e w1 ⟨rfl, hb1⟩
  replace HB := Lib.hid (HB.out.trans (hb1.mono HB.out.size))
  clear hb1
  go_wp2_with fail
  refine (awake21 _).mono ?_
  rintro e w2 ⟨rfl, hb1⟩
  replace HB := Lib.hid (HB.out.trans (hb1.mono HB.out.size))
  clear hb1
  go_wp2
  go_ret
  exact ⟨rfl, HB.out⟩
 have e3 : ((za.length : Int) == 0) = false := by rw [beq_eq_false_iff_ne]; omega
 have e4 : (za.length == 0) = false := by rw [beq_eq_false_iff_ne]; exact hA0
 by_cases hBC : zb.length = zc.length
 case neg =>
  have e5 : ((zb.length : Int) != (zc.length : Int)) = true := by rw [bne_iff_ne]; omega
  have e6 : (zb.length != zc.length) = true := by rw [bne_iff_ne]; exact hBC
  clear hBC
  clear HZA HZB HZC
  go_enter Tryz.func5, Tryz.ntmps5
  go_wp2_with fail
  refine (awake21 _).mono ?_
  rintro e w1 ⟨rfl, hb1⟩
  replace HB := Lib.hid (HB.out.trans (hb1.mono HB.out.size))
  clear hb1
  go_wp2_with fail
  refine (awake21 _).mono ?_
  rintro e w2 ⟨rfl, hb1⟩
  replace HB := Lib.hid (HB.out.trans (hb1.mono HB.out.size))
  clear hb1
  go_wp2
  go_ret
  exact ⟨rfl, HB.out⟩
 have e5 : ((zb.length : Int) != (zc.length : Int)) = false := by rw [bne_eq_false_iff_eq]; omega
 have e6 : (zb.length != zc.length) = false := by rw [bne_eq_false_iff_eq]; exact hBC
 have HBC := Lib.hid hBC
 have hA9 : za.length ≤ 100 := by omega
 have hB9 : zb.length ≤ 100 := by omega
 clear hBC
 go_enter Tryz.func5, Tryz.ntmps5
 go_wp2_with fail
 refine (awake21 _).mono ?_
 rintro e w1 ⟨rfl, hb1⟩
 replace HB := Lib.hid (HB.out.trans (hb1.mono HB.out.size))
 clear hb1
 obtain ⟨B, hB⟩ : ∃ B, B = w1.heap.size := ⟨_, rfl⟩
 have HBe := Lib.hid hB
 have hWB : W.heap.size ≤ B := by rw [hB]; exact HB.out.size
 clear hB
 go_wp2_with fail
 clear s1 s2 e1 e2 e5 e6 la lb lc
 go_loopw [7, 8, 49] (fun v1 v2 t wr => ∃ k : Nat, k ≤ za.length ∧ t = .int .i64 k ∧ Hid (TwE B wr v1 v2 ((za.take k).map ev0) ((za.take k).map ev0)) ∧ Hid (∀ x ∈ (za.take k).map ev0, rightE x = true ∧ evOk x) ∧ Hid (Below B w1 wr)) (fun _ _ t _ => za.length - (intOf t).toNat)
 case atStart => exact ⟨0, by omega, rfl, TwE.nil (by rw [HBe.out]; exact Nat.le_refl _), (by show ∀ x ∈ [], _; intro x hx; cases hx), by rw [HBe.out]; exact Below.refl _ _⟩
 case round =>
  obtain ⟨k, hk, rfl, ht, hr, hb⟩ := hrel
  have HBw := Lib.hid (HB.out.trans (hb.out.mono hWB))
  have htz := ht.out.le
  by_cases hlt : k < za.length
  ·have hki : (k : Int) < (za.length : Int) := by omega
   obtain ⟨x, hx⟩ : ∃ x, za[k]? = some x := ⟨_, List.getElem?_eq_getElem hlt⟩
   obtain ⟨bA, off, rfl, hbA, hc⟩ := EvsAt.at_ (HZA.out _ HBw.out) hx
   have c0 := hc 0 _ (by decide) rfl
   have c1 := hc 1 _ (by decide) rfl
   have c2 := hc 2 _ (by decide) rfl
   have c3 := hc 3 _ (by decide) rfl
   have c4 := hc 4 _ (by decide) rfl
   rw [Nat.add_zero] at c0
   have HOX := Lib.hid (HOA.out x (List.mem_of_getElem? hx))
   have htk : (za.take (k + 1)).map ev0 = (za.take k).map ev0 ++ [ev0 x] := by rw [List.take_add_one, hx]; simp
   have HTK := Lib.hid htk
   clear hc hx htk
   go_upto_region 7 with (fail)
   have hba := (Below.refl wr.heap.size wr).alloc (Nat.le_refl _) (.cells (evC x) 36)
   have HT2 := Lib.hid (ht.out.below hba)
   have HF := Lib.hid (ht.out.fresh x)
   have HB2 := Lib.hid (hb.out.trans (hba.mono htz))
   obtain ⟨g, hg⟩ : ∃ g, g = wr.heap.size := ⟨_, rfl⟩
   have hgB : B ≤ g := by omega
   rw [← hg] at HF ⊢
   clear c0 c1 c2 c3 c4 hg ht hb hba HBw
   generalize wr.alloc (.cells (evC x) 36) = w3 at *
   have d0 := (HF.out.1.cell 0).trans (show _ = some (Value.int .i64 x.th) from rfl)
   have fl := HF.out.1.lt
   have ff := HF.out.1.free 0
   go_upto_region 8 with (fail)
   obtain ⟨ea, hea⟩ : ∃ ea, ea = ev0 x := ⟨_, rfl⟩
   have HT4 := Lib.hid (HT2.out.put (g := g) (cs := #[]) HF.out.2.1 HF.out.2.2 0 (.int .i64 0))
   have HF4 : Hid (KpE (w3.setCell ⟨g, 0, none⟩ (.int .i64 0)) u7 u8 g ea) := ⟨by rw [hea]; exact HF.out.1.put 0 (.int .i64 0), HF.out.2⟩
   have HB4 := Lib.hid (HB2.out.trans ((Kept.put w3 g 0 (.int .i64 0)).below (B := B) (by have := HB2.out.size; rw [← HBe.out] at this; exact this) (fun r hr (e : r = g) => by omega)))
   rw [← hea] at HTK
   have hoe : evOk ea := by
    have := HOX.out
    rw [hea]
    unfold ev0 evOk evI64 at *
    simp only at *
    omega
   have HOE := Lib.hid hoe
   clear d0 fl ff HT2 HF HB2 hoe HOX hea
   generalize w3.setCell ⟨g, 0, none⟩ (.int .i64 0) = w4 at *
   have d0 := (HF4.out.1.cell 0).trans (show _ = some (Value.int .i64 ea.th) from rfl)
   have d1 := (HF4.out.1.cell 1).trans (show _ = some (Value.int .i64 ea.kd) from rfl)
   have d2 := (HF4.out.1.cell 2).trans (show _ = some (Value.int .i64 ea.rg) from rfl)
   have d3 := (HF4.out.1.cell 3).trans (show _ = some (Value.int .u64 (ea.tk : Int)) from rfl)
   have d4 := (HF4.out.1.cell 4).trans (show _ = some (Value.int .u64 (ea.vl : Int)) from rfl)
   have el := HF4.out.1.lt
   have HRT := Lib.hid (fun w => rfRight15 ea w)
   obtain ⟨rb, hrb⟩ : ∃ b, rightE ea = b := ⟨_, rfl⟩
   have HRB := Lib.hid hrb
   rw [hrb] at HRT
   clear hrb
   go_wp2_with fail
   refine (HRT.out w4).mono ?_
   rintro e w5 ⟨rfl, hb5⟩
   have HT5 := Lib.hid (HT4.out.below hb5)
   have HF5 := Lib.hid (HF4.out.below hb5)
   have HB5 := Lib.hid (HB4.out.trans (hb5.mono HT4.out.le))
   clear hb5 HT4 HF4 HB4 d0 d1 d2 d3 d4 el HRT
   cases rb with
   | false =>
    have HBz := Lib.hid (HB.out.trans (HB5.out.mono hWB))
    clear HT5 HF5 HB5
    go_wp2
    go_ret
    exact ⟨rfl, HBz.out⟩
   | true =>
    have hXl : ((za.take k).map ev0).length ≤ 1000000 := by rw [List.length_map, List.length_take]; omega
    obtain ⟨X, hX⟩ : ∃ X, X = (za.take k).map ev0 := ⟨_, rfl⟩
    rw [← hX] at HT5 hr HTK hXl
    clear hX
    go_wp2_with fail
    refine wp_region_relyx (PqS B w5 g g ea ea u7 u8 X X) (prP u7 u8 ea ea) [some 57, some 58, some 59, some 60, some 61, some 62, some 63, some 64, some 7, some 8] [[], [], [1], [0, 2], [], [], [5], [4, 6], [3], [7]] [[], [], [1], [0, 1, 2], [], [], [5], [0, 2, 4, 5, 6], [0, 1, 2, 3, 4, 6], [0, 1, 2, 3, 4, 5, 6, 7]] [[1, 2, 4, 5, 6, 7], [0, 3, 4, 5, 6, 7], [0, 4, 5, 6, 7], [4, 5, 6], [0, 1, 2, 3, 5, 6, 8], [0, 1, 2, 3, 4, 7, 8], [0, 1, 2, 3, 4, 8], [3], [7], [8]] [0, 1, 2, 3, 4, 5, 6, 7, 8, 9] 10 (by kernel_rfl) (by kernel_rfl) (by kernel_rfl) (by kernel_rfl) ?rS (fun j h1 h2 => absurd (Nat.lt_of_lt_of_le h1 (Nat.le_trans (by decide) h2)) (Nat.lt_irrefl _)) ?rT ?rE
    case rS => exact ⟨pr_start (below_drewN (Below.refl _ _) 1) (HT5.out.below (below_drewN (Below.refl _ _) 1)) (HF5.out.below (below_drewN (Below.refl _ _) 1)) (HF5.out.below (below_drewN (Below.refl _ _) 1)), po_start⟩
    case rT =>
     refine RelyStepsX.cons (RelyStepX.mk [] [1, 2, 4, 5, 6, 7] rfl rfl rfl (fun xv Lv wS hS hL hLd hV bq hb K hK => ?_)) ?_
     ·clear hV
      simp only [putsOf, List.foldl_cons, List.foldl_nil, List.getD_cons_zero, List.getD_cons_succ, List.getD_nil, cond_true, cond_false, Act.put, List.setIfInBounds_toArray, List.set_cons_zero, List.set_cons_succ] at hb
      subst hb
      rw [if_pos (by rfl)]
      go_wp2_with fail
      exact hK.out _ _ ⟨_, rfl, pq_pure (i := 0) rfl hS, rfl, AllPX.same _⟩
     refine RelyStepsX.cons (RelyStepX.mk [] [0, 3, 4, 5, 6, 7] rfl rfl rfl (fun xv Lv wS hS hL hLd hV bq hb K hK => ?_)) ?_
     ·clear hV
      simp only [putsOf, List.foldl_cons, List.foldl_nil, List.getD_cons_zero, List.getD_cons_succ, List.getD_nil, cond_true, cond_false, Act.put, List.setIfInBounds_toArray, List.set_cons_zero, List.set_cons_succ] at hb
      subst hb
      rw [if_pos (by rfl)]
      (have q1 := (pr_evA hS.1).1; have c0 := (q1.cell 0).trans (show _ = some (Value.int .i64 (ea).th) from rfl); have c1 := (q1.cell 1).trans (show _ = some (Value.int .i64 (ea).kd) from rfl); have c2 := (q1.cell 2).trans (show _ = some (Value.int .i64 (ea).rg) from rfl); have c3 := (q1.cell 3).trans (show _ = some (Value.int .u64 ((ea).tk : Int)) from rfl); have c4 := (q1.cell 4).trans (show _ = some (Value.int .u64 ((ea).vl : Int)) from rfl); have ql := q1.lt)
      go_wp2_with fail
      exact hK.out _ _ ⟨_, rfl, pq_pure (i := 1) rfl hS, rfl, AllPX.same _⟩
     refine RelyStepsX.cons (RelyStepX.mk [1] [0, 4, 5, 6, 7] rfl rfl rfl (fun xv Lv wS hS hL hLd hV bq hb K hK => ?_)) ?_
     ·obtain ⟨h1, _⟩ := hV
      have h1 : xv 1 = _ := h1
      simp only [putsOf, List.foldl_cons, List.foldl_nil, List.getD_cons_zero, List.getD_cons_succ, List.getD_nil, cond_true, cond_false, Act.put, List.setIfInBounds_toArray, List.set_cons_zero, List.set_cons_succ, h1] at hb
      clear h1
      subst hb
      rw [if_pos (by rfl)]
      have HSS := Lib.hid hS
      clear hS
      go_wp2_with fail
      exact hK.out _ _ ⟨_, rfl, ⟨pr_litA HSS.out.1, po_ne rfl HSS.out.2⟩, trivial, AllPX.of _ (fun j _ _ h => prP_any h)⟩
     refine RelyStepsX.cons (RelyStepX.mk [0, 2] [4, 5, 6] rfl rfl rfl (fun xv Lv wS hS hL hLd hV bq hb K hK => ?_)) ?_
     ·obtain ⟨h0, h2, _⟩ := hV
      have h0 : xv 0 = _ := h0
      simp only [putsOf, List.foldl_cons, List.foldl_nil, List.getD_cons_zero, List.getD_cons_succ, List.getD_nil, cond_true, cond_false, Act.put, List.setIfInBounds_toArray, List.set_cons_zero, List.set_cons_succ, h0] at hb
      clear h0
      generalize hy2 : xv 2 = y2 at *
      subst hb
      rw [if_pos (by rfl)]
      have HSS := Lib.hid hS
      obtain ⟨g2, e2, hk2, ht2⟩ := pr_openA hS.1 (hLd 2 (by decide +kernel)) hL (po_no7 hS.2 hL)
      rw [hy2] at e2
      subst e2
      clear hS
      refine step_list (ops := #[]) (by rfl) (append_two wS rfl (.tmp 57) (.tmp 59) 22 rfl B Tryz.underlying22 infoEvP ht2 rfl rfl hk2 (by omega) ?_)
      intro r' w' ht hb hkk
      exact hK.out _ _ ⟨_, rfl, ⟨pr_pushA HSS.out.1 hL (po_no7 HSS.out.2 hL) ht hb hkk, po3 HSS.out.2 hL⟩, trivial, AllPX.of _ (fun j _ _ h => prP_any h)⟩
     refine RelyStepsX.cons (RelyStepX.mk [] [0, 1, 2, 3, 5, 6, 8] rfl rfl rfl (fun xv Lv wS hS hL hLd hV bq hb K hK => ?_)) ?_
     ·clear hV
      simp only [putsOf, List.foldl_cons, List.foldl_nil, List.getD_cons_zero, List.getD_cons_succ, List.getD_nil, cond_true, cond_false, Act.put, List.setIfInBounds_toArray, List.set_cons_zero, List.set_cons_succ] at hb
      subst hb
      rw [if_pos (by rfl)]
      go_wp2_with fail
      exact hK.out _ _ ⟨_, rfl, pq_pure (i := 4) rfl hS, rfl, AllPX.same _⟩
     refine RelyStepsX.cons (RelyStepX.mk [] [0, 1, 2, 3, 4, 7, 8] rfl rfl rfl (fun xv Lv wS hS hL hLd hV bq hb K hK => ?_)) ?_
     ·clear hV
      simp only [putsOf, List.foldl_cons, List.foldl_nil, List.getD_cons_zero, List.getD_cons_succ, List.getD_nil, cond_true, cond_false, Act.put, List.setIfInBounds_toArray, List.set_cons_zero, List.set_cons_succ] at hb
      subst hb
      rw [if_pos (by rfl)]
      (have q1 := (pr_evA hS.1).2; have c0 := (q1.cell 0).trans (show _ = some (Value.int .i64 (ea).th) from rfl); have c1 := (q1.cell 1).trans (show _ = some (Value.int .i64 (ea).kd) from rfl); have c2 := (q1.cell 2).trans (show _ = some (Value.int .i64 (ea).rg) from rfl); have c3 := (q1.cell 3).trans (show _ = some (Value.int .u64 ((ea).tk : Int)) from rfl); have c4 := (q1.cell 4).trans (show _ = some (Value.int .u64 ((ea).vl : Int)) from rfl); have ql := q1.lt)
      go_wp2_with fail
      exact hK.out _ _ ⟨_, rfl, pq_pure (i := 5) rfl hS, rfl, AllPX.same _⟩
     refine RelyStepsX.cons (RelyStepX.mk [5] [0, 1, 2, 3, 4, 8] rfl rfl rfl (fun xv Lv wS hS hL hLd hV bq hb K hK => ?_)) ?_
     ·obtain ⟨h5, _⟩ := hV
      have h5 : xv 5 = _ := h5
      simp only [putsOf, List.foldl_cons, List.foldl_nil, List.getD_cons_zero, List.getD_cons_succ, List.getD_nil, cond_true, cond_false, Act.put, List.setIfInBounds_toArray, List.set_cons_zero, List.set_cons_succ, h5] at hb
      clear h5
      subst hb
      rw [if_pos (by rfl)]
      have HSS := Lib.hid hS
      clear hS
      go_wp2_with fail
      exact hK.out _ _ ⟨_, rfl, ⟨pr_litB HSS.out.1, po_ne rfl HSS.out.2⟩, trivial, AllPX.of _ (fun j _ _ h => prP_any h)⟩
     refine RelyStepsX.cons (RelyStepX.mk [4, 6] [3] rfl rfl rfl (fun xv Lv wS hS hL hLd hV bq hb K hK => ?_)) ?_
     ·obtain ⟨h4, h6, _⟩ := hV
      have h4 : xv 4 = _ := h4
      simp only [putsOf, List.foldl_cons, List.foldl_nil, List.getD_cons_zero, List.getD_cons_succ, List.getD_nil, cond_true, cond_false, Act.put, List.setIfInBounds_toArray, List.set_cons_zero, List.set_cons_succ, h4] at hb
      clear h4
      generalize hy6 : xv 6 = y6 at *
      subst hb
      rw [if_pos (by rfl)]
      have HSS := Lib.hid hS
      obtain ⟨g2, e2, hk2, ht2⟩ := pr_openB hS.1 (hLd 6 (by decide +kernel)) (hLd 3 (by decide +kernel)) hL
      rw [hy6] at e2
      subst e2
      clear hS
      refine step_list (ops := #[]) (by rfl) (append_two wS rfl (.tmp 61) (.tmp 63) 22 rfl B Tryz.underlying22 infoEvP ht2.swap rfl rfl hk2.swap (by omega) ?_)
      intro r' w' ht hb hkk
      exact hK.out _ _ ⟨_, rfl, ⟨pr_pushB HSS.out.1 (hLd 3 (by decide +kernel)) hL ht.swap hb (fun g y h => (hkk g y h.swap).swap), po7 HSS.out.2 (hLd 3 (by decide +kernel)) hL⟩, trivial, AllPX.of _ (fun j _ _ h => prP_any h)⟩
     refine RelyStepsX.cons (RelyStepX.mk [3] [7] rfl rfl rfl (fun xv Lv wS hS hL hLd hV bq hb K hK => ?_)) ?_
     ·obtain ⟨h3, _⟩ := hV
      simp only [putsOf, List.foldl_cons, List.foldl_nil, List.getD_cons_zero, List.getD_cons_succ, List.getD_nil, cond_true, cond_false, Act.put, List.setIfInBounds_toArray, List.set_cons_zero, List.set_cons_succ] at hb
      generalize hy3 : xv 3 = y3 at *
      subst hb
      rw [if_pos (by rfl)]
      have HSS := Lib.hid hS
      clear hS
      go_wp2_with fail
      have hp8 := po8 HSS.out.2 (hLd 3 (by decide +kernel))
      rw [hy3] at hp8
      exact hK.out _ _ ⟨_, rfl, ⟨pr_pure rfl HSS.out.1, hp8⟩, trivial, AllPX.of _ (fun j _ _ h => prP_any h)⟩
     refine RelyStepsX.cons (RelyStepX.mk [7] [8] rfl rfl rfl (fun xv Lv wS hS hL hLd hV bq hb K hK => ?_)) ?_
     ·obtain ⟨h7, _⟩ := hV
      simp only [putsOf, List.foldl_cons, List.foldl_nil, List.getD_cons_zero, List.getD_cons_succ, List.getD_nil, cond_true, cond_false, Act.put, List.setIfInBounds_toArray, List.set_cons_zero, List.set_cons_succ] at hb
      generalize hy7 : xv 7 = y7 at *
      subst hb
      rw [if_pos (by rfl)]
      have HSS := Lib.hid hS
      clear hS
      go_wp2_with fail
      have hp9 := po9 HSS.out.2 (hLd 7 (by decide +kernel))
      rw [hy7] at hp9
      exact hK.out _ _ ⟨_, rfl, ⟨pr_pure rfl HSS.out.1, hp9⟩, trivial, AllPX.of _ (fun j _ _ h => prP_any h)⟩
     exact RelyStepsX.nil
    case rE =>
     intro xv Lv wE hS hLall hV
     have h8 := hV 8 (by decide) (by decide)
     have h9 := hV 9 (by decide) (by decide)
     clear hV
     have hd := pr_done hS.1 (hLall 3 (by decide +kernel)) (hLall 7 (by decide +kernel))
     have q8 := (hS.2.2.1 (hLall 8 (by decide +kernel))).2
     have q9 := (hS.2.2.2 (hLall 9 (by decide +kernel))).2
     rw [← q8, ← q9] at hd
     clear q8 q9 hS hLall
     simp only [putsOf, List.foldl_cons, List.foldl_nil, List.getD_cons_zero, List.getD_cons_succ, List.getD_nil, cond_true, cond_false, Act.put, List.setIfInBounds_toArray, List.set_cons_zero, List.set_cons_succ]
     generalize xv 0 = y0 at *
     generalize xv 1 = y1 at *
     generalize xv 2 = y2 at *
     generalize xv 3 = y3 at *
     generalize xv 4 = y4 at *
     generalize xv 5 = y5 at *
     generalize xv 6 = y6 at *
     generalize xv 7 = y7 at *
     generalize xv 8 = y8 at *
     generalize xv 9 = y9 at *
     obtain ⟨hd1, hd2⟩ := hd
     rw [← HTK.out] at hd2
     have HTe := Lib.hid hd2
     have HBe2 := Lib.hid (HB5.out.trans hd1)
     have HRe : Hid (∀ x ∈ (za.take (k + 1)).map ev0, rightE x = true ∧ evOk x) := by
      show ∀ x ∈ _, _
      rw [HTK.out]
      intro y hy
      rcases List.mem_append.1 hy with hy | hy
      ·exact hr.out y hy
      ·rw [List.mem_singleton] at hy
       subst hy
       exact ⟨HRB.out, HOE.out⟩
     clear hd1 hd2 HT5 HF5 HB5 hr
     go_wp2
     go_roundw
     case rel => exact ⟨k + 1, by omega, by go_num, HTe, HRe, HBe2⟩
     case measure => simp [intOf]; omega
  ·obtain rfl : za.length = k := by omega
   rw [List.take_length] at ht hr
   obtain ⟨A0, hA0⟩ : ∃ A0, A0 = za.map ev0 := ⟨_, rfl⟩
   have HA0 := Lib.hid hA0
   have hA0l : A0.length = za.length := by rw [hA0, List.length_map]
   rw [← hA0] at ht hr
   have HRA := Lib.hid hr.out
   have HA0L := Lib.hid hA0l
   clear hA0 hA0l HBw
   generalize hwr : wr = wz at *
   clear hwr hk hlt
   go_wp2_with fail
   go_loopw [7, 8, 68] (fun v1 v2 t wr => ∃ k : Nat, k ≤ zb.length ∧ t = .int .i64 k ∧ Hid (TwE B wr v1 v2 (A0 ++ (zb.take k).map ev7) (A0 ++ (zc.take k).map ev7)) ∧ Hid ((∀ x ∈ A0 ++ (zb.take k).map ev7, rightE x = true ∧ evOk x) ∧ ∀ x ∈ A0 ++ (zc.take k).map ev7, rightE x = true ∧ evOk x) ∧ Hid (Below B w1 wr)) (fun _ _ t _ => zb.length - (intOf t).toNat)
   case atStart => exact ⟨0, by omega, rfl, by show TwE B _ _ _ (A0 ++ []) (A0 ++ []); rw [List.append_nil]; exact ht.out, by show (∀ x ∈ A0 ++ [], _) ∧ (∀ x ∈ A0 ++ [], _); rw [List.append_nil]; exact ⟨hr.out, hr.out⟩, hb.out⟩
   case round =>
    clear ht hr hb htz
    obtain ⟨k, hk, rfl, ht, hr, hb⟩ := hrel
    have HBw := Lib.hid (HB.out.trans (hb.out.mono hWB))
    have htz := ht.out.le
    by_cases hlt : k < zb.length
    ·have hki : (k : Int) < (zb.length : Int) := by omega
     have hlt2 : k < zc.length := by have := HBC.out; omega
     have hki2 : (k : Int) < (zc.length : Int) := by omega
     obtain ⟨x, hx⟩ : ∃ x, zb[k]? = some x := ⟨_, List.getElem?_eq_getElem hlt⟩
     obtain ⟨y, hy⟩ : ∃ y, zc[k]? = some y := ⟨_, List.getElem?_eq_getElem hlt2⟩
     have HHX := Lib.hid hx
     have HHY := Lib.hid hy
     obtain ⟨bA, off, rfl, hbA, hc⟩ := EvsAt.at_ (HZB.out _ HBw.out) hx
     obtain ⟨bC, offC, rfl, hbC, hcC⟩ := EvsAt.at_ (HZC.out _ HBw.out) hy
     have HCX : Hid (∀ q, Below W.heap.size W q → bA < q.heap.size ∧ ∀ j u, j < 5 → (evF x)[j]? = some u → q.cell? ⟨bA, off + k * 5 + j, none⟩ = some u) := by
      show ∀ q, _ → _
      intro q hq
      obtain ⟨b9, o9, e9, h91, h92⟩ := EvsAt.at_ (HZB.out q hq) HHX.out
      simp only [Option.some.injEq, Addr.mk.injEq, and_true] at e9
      obtain ⟨rfl, rfl⟩ := e9
      exact ⟨h91, h92⟩
     have HCY : Hid (∀ q, Below W.heap.size W q → bC < q.heap.size ∧ ∀ j u, j < 5 → (evF y)[j]? = some u → q.cell? ⟨bC, offC + k * 5 + j, none⟩ = some u) := by
      show ∀ q, _ → _
      intro q hq
      obtain ⟨b9, o9, e9, h91, h92⟩ := EvsAt.at_ (HZC.out q hq) HHY.out
      simp only [Option.some.injEq, Addr.mk.injEq, and_true] at e9
      obtain ⟨rfl, rfl⟩ := e9
      exact ⟨h91, h92⟩
     have HOX := Lib.hid (HOB.out x (List.mem_of_getElem? hx))
     have HOY := Lib.hid (HOC.out y (List.mem_of_getElem? hy))
     have htk : A0 ++ (zb.take (k + 1)).map ev7 = A0 ++ (zb.take k).map ev7 ++ [ev7 x] := by rw [List.take_add_one, hx]; simp
     have htk2 : A0 ++ (zc.take (k + 1)).map ev7 = A0 ++ (zc.take k).map ev7 ++ [ev7 y] := by rw [List.take_add_one, hy]; simp
     have HTK := Lib.hid htk
     have HTK2 := Lib.hid htk2
     clear hx hy hc hcC htk htk2 HHX HHY
     go_upto_region 15 with (fail)
     refine wp_region_relyx (LwE wr) (leV (some ⟨bA, off, none⟩) zb.length c2 (some ⟨bC, offC, none⟩) zc.length c3 k ⟨bA, off + k * 5, none⟩ ⟨bC, offC + k * 5, none⟩ x y) [some 71, some 72, some 73, some 74, some 75, some 76, some 77, some 78, some 12, some 13, none, none] [[], [], [0, 1], [2], [], [], [4, 5], [6], [], [], [8, 3], [9, 7]] [[], [], [0, 1], [0, 1, 2], [], [], [4, 5], [4, 5, 6], [], [], [0, 1, 2], [0, 1, 2, 4, 5, 6]] [[1, 3, 4, 5, 6, 7, 8, 9], [0, 3, 4, 5, 6, 7, 8, 9], [4, 5, 6, 7, 8, 9], [4, 5, 6, 7, 8, 9], [0, 1, 2, 3, 5, 7, 8, 9, 10], [0, 1, 2, 3, 4, 7, 8, 9, 10], [0, 1, 2, 3, 8, 9, 10], [0, 1, 2, 3, 8, 9, 10], [0, 1, 2, 3, 4, 5, 6, 7, 9], [0, 1, 2, 3, 4, 5, 6, 7, 8], [3, 4, 5, 6, 7, 8, 9], [3, 7, 8, 9, 10]] [0, 1, 2, 3, 4, 5, 6, 7, 8, 9, 10, 11] 12 (by kernel_rfl) (by kernel_rfl) (by kernel_rfl) (by kernel_rfl) ?rS (fun j h1 h2 => absurd (Nat.lt_of_lt_of_le h1 (Nat.le_trans (by decide) h2)) (Nat.lt_irrefl _)) ?rT ?rE
     case rS => exact le_start
     case rT =>
      refine RelyStepsX.cons (RelyStepX.mk [] [1, 3, 4, 5, 6, 7, 8, 9] rfl rfl rfl (fun xv Lv wS hS hL hLd hV bq hb K hK => ?_)) ?_
      ·clear hV
       simp only [putsOf, List.foldl_cons, List.foldl_nil, List.getD_cons_zero, List.getD_cons_succ, List.getD_nil, cond_true, cond_false, Act.put, List.setIfInBounds_toArray, List.set_cons_zero, List.set_cons_succ] at hb
       subst hb
       rw [if_pos (by rfl)]
       go_wp2_with fail
       exact hK.out _ _ ⟨_, rfl, le_pure (i := 0) rfl hS, rfl, AllPX.same _⟩
      refine RelyStepsX.cons (RelyStepX.mk [] [0, 3, 4, 5, 6, 7, 8, 9] rfl rfl rfl (fun xv Lv wS hS hL hLd hV bq hb K hK => ?_)) ?_
      ·clear hV
       simp only [putsOf, List.foldl_cons, List.foldl_nil, List.getD_cons_zero, List.getD_cons_succ, List.getD_nil, cond_true, cond_false, Act.put, List.setIfInBounds_toArray, List.set_cons_zero, List.set_cons_succ] at hb
       subst hb
       rw [if_pos (by rfl)]
       go_wp2_with fail
       exact hK.out _ _ ⟨_, rfl, le_pure (i := 1) rfl hS, rfl, AllPX.same _⟩
      refine RelyStepsX.cons (RelyStepX.mk [0, 1] [4, 5, 6, 7, 8, 9] rfl rfl rfl (fun xv Lv wS hS hL hLd hV bq hb K hK => ?_)) ?_
      ·obtain ⟨h0, h1, _⟩ := hV
       have h0 : xv 0 = _ := h0
       have h1 : xv 1 = _ := h1
       simp only [putsOf, List.foldl_cons, List.foldl_nil, List.getD_cons_zero, List.getD_cons_succ, List.getD_nil, cond_true, cond_false, Act.put, List.setIfInBounds_toArray, List.set_cons_zero, List.set_cons_succ, h0, h1] at hb
       clear h0
       clear h1
       subst hb
       rw [if_pos (by rfl)]
       go_wp2_with fail
       exact hK.out _ _ ⟨_, rfl, le_pure (i := 2) rfl hS, rfl, AllPX.same _⟩
      refine RelyStepsX.cons (RelyStepX.mk [2] [4, 5, 6, 7, 8, 9] rfl rfl rfl (fun xv Lv wS hS hL hLd hV bq hb K hK => ?_)) ?_
      ·obtain ⟨h2, _⟩ := hV
       have h2 : xv 2 = _ := h2
       simp only [putsOf, List.foldl_cons, List.foldl_nil, List.getD_cons_zero, List.getD_cons_succ, List.getD_nil, cond_true, cond_false, Act.put, List.setIfInBounds_toArray, List.set_cons_zero, List.set_cons_succ, h2] at hb
       clear h2
       subst hb
       rw [if_pos (by rfl)]
       (have qq := HCX.out _ (HBw.out.trans (hS.1.mono HBw.out.size)); have c0 := qq.2 0 _ (by decide) rfl; have c1 := qq.2 1 _ (by decide) rfl; have c2 := qq.2 2 _ (by decide) rfl; have c3 := qq.2 3 _ (by decide) rfl; have c4 := qq.2 4 _ (by decide) rfl; rw [Nat.add_zero] at c0; have ql := qq.1)
       go_wp2_with fail
       exact hK.out _ _ ⟨_, rfl, le_pure (i := 3) rfl hS, rfl, AllPX.same _⟩
      refine RelyStepsX.cons (RelyStepX.mk [] [0, 1, 2, 3, 5, 7, 8, 9, 10] rfl rfl rfl (fun xv Lv wS hS hL hLd hV bq hb K hK => ?_)) ?_
      ·clear hV
       simp only [putsOf, List.foldl_cons, List.foldl_nil, List.getD_cons_zero, List.getD_cons_succ, List.getD_nil, cond_true, cond_false, Act.put, List.setIfInBounds_toArray, List.set_cons_zero, List.set_cons_succ] at hb
       subst hb
       rw [if_pos (by rfl)]
       go_wp2_with fail
       exact hK.out _ _ ⟨_, rfl, le_pure (i := 4) rfl hS, rfl, AllPX.same _⟩
      refine RelyStepsX.cons (RelyStepX.mk [] [0, 1, 2, 3, 4, 7, 8, 9, 10] rfl rfl rfl (fun xv Lv wS hS hL hLd hV bq hb K hK => ?_)) ?_
      ·clear hV
       simp only [putsOf, List.foldl_cons, List.foldl_nil, List.getD_cons_zero, List.getD_cons_succ, List.getD_nil, cond_true, cond_false, Act.put, List.setIfInBounds_toArray, List.set_cons_zero, List.set_cons_succ] at hb
       subst hb
       rw [if_pos (by rfl)]
       go_wp2_with fail
       exact hK.out _ _ ⟨_, rfl, le_pure (i := 5) rfl hS, rfl, AllPX.same _⟩
      refine RelyStepsX.cons (RelyStepX.mk [4, 5] [0, 1, 2, 3, 8, 9, 10] rfl rfl rfl (fun xv Lv wS hS hL hLd hV bq hb K hK => ?_)) ?_
      ·obtain ⟨h4, h5, _⟩ := hV
       have h4 : xv 4 = _ := h4
       have h5 : xv 5 = _ := h5
       simp only [putsOf, List.foldl_cons, List.foldl_nil, List.getD_cons_zero, List.getD_cons_succ, List.getD_nil, cond_true, cond_false, Act.put, List.setIfInBounds_toArray, List.set_cons_zero, List.set_cons_succ, h4, h5] at hb
       clear h4
       clear h5
       subst hb
       rw [if_pos (by rfl)]
       go_wp2_with fail
       exact hK.out _ _ ⟨_, rfl, le_pure (i := 6) rfl hS, rfl, AllPX.same _⟩
      refine RelyStepsX.cons (RelyStepX.mk [6] [0, 1, 2, 3, 8, 9, 10] rfl rfl rfl (fun xv Lv wS hS hL hLd hV bq hb K hK => ?_)) ?_
      ·obtain ⟨h6, _⟩ := hV
       have h6 : xv 6 = _ := h6
       simp only [putsOf, List.foldl_cons, List.foldl_nil, List.getD_cons_zero, List.getD_cons_succ, List.getD_nil, cond_true, cond_false, Act.put, List.setIfInBounds_toArray, List.set_cons_zero, List.set_cons_succ, h6] at hb
       clear h6
       subst hb
       rw [if_pos (by rfl)]
       (have qq := HCY.out _ (HBw.out.trans (hS.1.mono HBw.out.size)); have c0 := qq.2 0 _ (by decide) rfl; have c1 := qq.2 1 _ (by decide) rfl; have c2 := qq.2 2 _ (by decide) rfl; have c3 := qq.2 3 _ (by decide) rfl; have c4 := qq.2 4 _ (by decide) rfl; rw [Nat.add_zero] at c0; have ql := qq.1)
       go_wp2_with fail
       exact hK.out _ _ ⟨_, rfl, le_pure (i := 7) rfl hS, rfl, AllPX.same _⟩
      refine RelyStepsX.cons (RelyStepX.mk [] [0, 1, 2, 3, 4, 5, 6, 7, 9] rfl rfl rfl (fun xv Lv wS hS hL hLd hV bq hb K hK => ?_)) ?_
      ·clear hV
       simp only [putsOf, List.foldl_cons, List.foldl_nil, List.getD_cons_zero, List.getD_cons_succ, List.getD_nil, cond_true, cond_false, Act.put, List.setIfInBounds_toArray, List.set_cons_zero, List.set_cons_succ] at hb
       subst hb
       rw [if_pos (by rfl)]
       have HSS := Lib.hid hS
       clear hS
       go_wp2_with fail
       exact hK.out _ _ ⟨_, rfl, le_made1 HSS.out hL, trivial, AllPX.of _ (fun j _ _ h => leV_any h)⟩
      refine RelyStepsX.cons (RelyStepX.mk [] [0, 1, 2, 3, 4, 5, 6, 7, 8] rfl rfl rfl (fun xv Lv wS hS hL hLd hV bq hb K hK => ?_)) ?_
      ·clear hV
       simp only [putsOf, List.foldl_cons, List.foldl_nil, List.getD_cons_zero, List.getD_cons_succ, List.getD_nil, cond_true, cond_false, Act.put, List.setIfInBounds_toArray, List.set_cons_zero, List.set_cons_succ] at hb
       subst hb
       rw [if_pos (by rfl)]
       have HSS := Lib.hid hS
       clear hS
       go_wp2_with fail
       exact hK.out _ _ ⟨_, rfl, le_made2 HSS.out hL, trivial, AllPX.of _ (fun j _ _ h => leV_any h)⟩
      refine RelyStepsX.cons (RelyStepX.mk [8, 3] [3, 4, 5, 6, 7, 8, 9] rfl rfl rfl (fun xv Lv wS hS hL hLd hV bq hb K hK => ?_)) ?_
      ·obtain ⟨h8, h3, _⟩ := hV
       simp only [putsOf, List.foldl_cons, List.foldl_nil, List.getD_cons_zero, List.getD_cons_succ, List.getD_nil, cond_true, cond_false, Act.put, List.setIfInBounds_toArray, List.set_cons_zero, List.set_cons_succ] at hb
       generalize hy8 : xv 8 = y8 at *
       generalize hy3 : xv 3 = y3 at *
       subst hb
       rw [if_pos (by rfl)]
       have HSS := Lib.hid hS
       clear hS
       obtain ⟨g, hg, hN, hl⟩ := bk_open HSS.out.2.1 (hLd 8 (by decide +kernel)) hL
       have hg2 := hg
       rw [hy8] at hg
       subst hg
       have h3' : y3 = .agg (evC x) := h3
       subst h3'
       refine wp_store_row _ _ _ rfl g (evC x) rfl rfl 36 EvZ hl infoEvSz rfl (by simp [Value.oneCell']) ?_
       exact hK.out _ _ ⟨undef, rfl, le_store1 HSS.out (hLd 8 (by decide +kernel)) (hLd 3 (by decide +kernel)) hg2 hN hl hy3 hL, trivial, AllPX.of _ (fun j _ _ h => leV_any h)⟩
      refine RelyStepsX.cons (RelyStepX.mk [9, 7] [3, 7, 8, 9, 10] rfl rfl rfl (fun xv Lv wS hS hL hLd hV bq hb K hK => ?_)) ?_
      ·obtain ⟨h9, h7, _⟩ := hV
       simp only [putsOf, List.foldl_cons, List.foldl_nil, List.getD_cons_zero, List.getD_cons_succ, List.getD_nil, cond_true, cond_false, Act.put, List.setIfInBounds_toArray, List.set_cons_zero, List.set_cons_succ] at hb
       generalize hy9 : xv 9 = y9 at *
       generalize hy7 : xv 7 = y7 at *
       subst hb
       rw [if_pos (by rfl)]
       have HSS := Lib.hid hS
       clear hS
       obtain ⟨g, hg, hN, hl⟩ := bk_open HSS.out.2.2.1 (hLd 9 (by decide +kernel)) hL
       have hg2 := hg
       rw [hy9] at hg
       subst hg
       have h7' : y7 = .agg (evC y) := h7
       subst h7'
       refine wp_store_row _ _ _ rfl g (evC y) rfl rfl 36 EvZ hl infoEvSz rfl (by simp [Value.oneCell']) ?_
       exact hK.out _ _ ⟨undef, rfl, le_store2 HSS.out (hLd 9 (by decide +kernel)) (hLd 7 (by decide +kernel)) hg2 hN hl hy7 hL, trivial, AllPX.of _ (fun j _ _ h => leV_any h)⟩
      exact RelyStepsX.nil
     case rE =>
      intro xv Lv wE hS hLall hV
      have h3 := hV 3 (by decide) (by decide)
      have h7 := hV 7 (by decide) (by decide)
      have h8 := hV 8 (by decide) (by decide)
      have h9 := hV 9 (by decide) (by decide)
      have h10 := hV 10 (by decide) (by decide)
      have h11 := hV 11 (by decide) (by decide)
      clear hV
      obtain ⟨g1, b1, hx1, hN1, hl1, hv1⟩ := bk_done hS.2.1 (hLall 8 (by decide +kernel)) (hLall 10 (by decide +kernel))
      obtain ⟨g2, b2, hx2, hN2, hl2, hv2⟩ := bk_done hS.2.2.1 (hLall 9 (by decide +kernel)) (hLall 11 (by decide +kernel))
      have hne := hS.2.2.2 g1 g2 (hLall 8 (by decide +kernel)) (hLall 9 (by decide +kernel)) hx1 hx2
      have hbE := hS.1
      have e3 : xv 3 = .agg (evC x) := h3
      have e7 : xv 7 = .agg (evC y) := h7
      rw [e3] at hv1
      rw [e7] at hv2
      obtain rfl := Value.agg.inj hv1
      obtain rfl := Value.agg.inj hv2
      clear hS hLall h3 h7 h8 h9 h10 h11 e3 e7 hv1 hv2
      simp only [putsOf, List.foldl_cons, List.foldl_nil, List.getD_cons_zero, List.getD_cons_succ, List.getD_nil, cond_true, cond_false, Act.put, List.setIfInBounds_toArray, List.set_cons_zero, List.set_cons_succ]
      generalize xv 0 = y0 at *
      generalize xv 1 = y1 at *
      generalize xv 2 = y2 at *
      generalize xv 3 = y3 at *
      generalize xv 4 = y4 at *
      generalize xv 5 = y5 at *
      generalize xv 6 = y6 at *
      generalize xv 7 = y7 at *
      generalize xv 8 = y8 at *
      generalize xv 9 = y9 at *
      generalize xv 10 = y10 at *
      generalize xv 11 = y11 at *
      subst hx1 hx2
      have HTE := Lib.hid (ht.out.below hbE)
      have n1 : u7.ownBlock ≠ some g1 := fun e => by have := own_ltE ht.out.o1 e; omega
      have n2 : u8.ownBlock ≠ some g1 := fun e => by have := own_ltE ht.out.o2 e; omega
      have n3 : u7.ownBlock ≠ some g2 := fun e => by have := own_ltE ht.out.o1 e; omega
      have n4 : u8.ownBlock ≠ some g2 := fun e => by have := own_ltE ht.out.o2 e; omega
      have HBE := Lib.hid (hb.out.trans (hbE.mono htz))
      have hBz := HTE.out.le
      have d0 := (hl1.cell 0).trans (show _ = some (Value.int .i64 x.th) from rfl)
      have f0 := hl1.free 0
      have b0 := hl1.lt
      have l2 := hl2.far (p := ⟨g1, 0, none⟩) (Ne.symm hne) (.int .i64 7)
      have d1 := (l2.cell 0).trans (show _ = some (Value.int .i64 y.th) from rfl)
      have f1 := l2.free 0
      have b2' := l2.lt
      go_upto_region 17 with (fail)
      obtain ⟨ea, hea⟩ : ∃ ea, ea = ev7 x := ⟨_, rfl⟩
      obtain ⟨eb, heb⟩ : ∃ eb, eb = ev7 y := ⟨_, rfl⟩
      have L1 := Lib.hid ((hl1.put 0 (.int .i64 7)).far (p := ⟨g2, 0, none⟩) hne (.int .i64 7))
      have L2 := Lib.hid (l2.put 0 (.int .i64 7))
      have HT4 := Lib.hid ((HTE.out.put (g := g1) (cs := #[]) n1 n2 0 (.int .i64 7)).put (g := g2) (cs := #[]) n3 n4 0 (.int .i64 7))
      have HB4 := Lib.hid ((HBE.out.trans ((Kept.put wE g1 0 (.int .i64 7)).below (B := B) hBz (fun r hr (e : r = g1) => by omega))).trans ((Kept.put (wE.setCell ⟨g1, 0, none⟩ (.int .i64 7)) g2 0 (.int .i64 7)).below (B := B) (Nat.le_trans hBz (Kept.put wE g1 0 (.int .i64 7)).size) (fun r hr (e : r = g2) => by omega)))
      rw [← hea] at HTK
      rw [← heb] at HTK2
      have HOE := Lib.hid (show evOk ea by have := HOX.out; rw [hea]; unfold ev7 evOk evI64 at *; simp only at *; omega)
      have HOF := Lib.hid (show evOk eb by have := HOY.out; rw [heb]; unfold ev7 evOk evI64 at *; simp only at *; omega)
      clear d0 f0 b0 d1 f1 b2' l2 hl1 hl2 hbE HTE HBE hne
      generalize (wE.setCell ⟨g1, 0, none⟩ (.int .i64 7)).setCell ⟨g2, 0, none⟩ (.int .i64 7) = w4 at *
      have K1 : Hid (KpE w4 u7 u8 g1 ea) := ⟨by rw [hea]; exact L1.out, n1, n2⟩
      have K2 : Hid (KpE w4 u7 u8 g2 eb) := ⟨by rw [heb]; exact L2.out, n3, n4⟩
      clear L1 L2 hea heb n1 n2 n3 n4 ht hb hBz
      have HRT := Lib.hid (fun w => rfRight15 ea w)
      have HRU := Lib.hid (fun w => rfRight15 eb w)
      obtain ⟨rb, hrb⟩ : ∃ b, rightE ea = b := ⟨_, rfl⟩
      obtain ⟨rc, hrc⟩ : ∃ b, rightE eb = b := ⟨_, rfl⟩
      have HRB := Lib.hid hrb
      have HRC := Lib.hid hrc
      rw [hrb] at HRT
      rw [hrc] at HRU
      clear hrb hrc
      have d0 := (K1.out.1.cell 0).trans (show _ = some (Value.int .i64 ea.th) from rfl)
      have d1 := (K1.out.1.cell 1).trans (show _ = some (Value.int .i64 ea.kd) from rfl)
      have d2 := (K1.out.1.cell 2).trans (show _ = some (Value.int .i64 ea.rg) from rfl)
      have d3 := (K1.out.1.cell 3).trans (show _ = some (Value.int .u64 (ea.tk : Int)) from rfl)
      have d4 := (K1.out.1.cell 4).trans (show _ = some (Value.int .u64 (ea.vl : Int)) from rfl)
      have el := K1.out.1.lt
      go_wp2_with fail
      refine (HRT.out w4).mono ?_
      rintro e w5 ⟨rfl, hb5⟩
      replace HT4 := Lib.hid (HT4.out.below hb5)
      replace K1 := Lib.hid (K1.out.below hb5)
      replace K2 := Lib.hid (K2.out.below hb5)
      replace HB4 := Lib.hid (HB4.out.trans (hb5.mono (by have := HB4.out.size; rw [← HBe.out] at this; exact this)))
      clear hb5 d0 d1 d2 d3 d4 el HRT
      cases rb with
      | false =>
       have HBz := Lib.hid (HB.out.trans (HB4.out.mono hWB))
       clear HT4 K1 K2 HB4
       go_wp2
       go_ret
       exact ⟨rfl, HBz.out⟩
      | true =>
      have d0 := (K2.out.1.cell 0).trans (show _ = some (Value.int .i64 eb.th) from rfl)
      have d1 := (K2.out.1.cell 1).trans (show _ = some (Value.int .i64 eb.kd) from rfl)
      have d2 := (K2.out.1.cell 2).trans (show _ = some (Value.int .i64 eb.rg) from rfl)
      have d3 := (K2.out.1.cell 3).trans (show _ = some (Value.int .u64 (eb.tk : Int)) from rfl)
      have d4 := (K2.out.1.cell 4).trans (show _ = some (Value.int .u64 (eb.vl : Int)) from rfl)
      have el := K2.out.1.lt
      go_wp2_with fail
      refine (HRU.out w5).mono ?_
      rintro e w6 ⟨rfl, hb6⟩
      replace HT4 := Lib.hid (HT4.out.below hb6)
      replace K1 := Lib.hid (K1.out.below hb6)
      replace K2 := Lib.hid (K2.out.below hb6)
      replace HB4 := Lib.hid (HB4.out.trans (hb6.mono (by have := HB4.out.size; rw [← HBe.out] at this; exact this)))
      clear hb6 d0 d1 d2 d3 d4 el HRU
      cases rc with
      | false =>
       have HBz := Lib.hid (HB.out.trans (HB4.out.mono hWB))
       clear HT4 K1 K2 HB4
       go_wp2
       go_ret
       exact ⟨rfl, HBz.out⟩
      | true =>
      have hXl : (A0 ++ (zb.take k).map ev7).length ≤ 1000000 := by rw [List.length_append, HA0L.out, List.length_map, List.length_take]; omega
      have hYl : (A0 ++ (zc.take k).map ev7).length ≤ 1000000 := by rw [List.length_append, HA0L.out, List.length_map, List.length_take]; omega
      obtain ⟨X, hX⟩ : ∃ X, X = A0 ++ (zb.take k).map ev7 := ⟨_, rfl⟩
      obtain ⟨Y, hY⟩ : ∃ Y, Y = A0 ++ (zc.take k).map ev7 := ⟨_, rfl⟩
      rw [← hX] at HT4 hr HTK hXl
      rw [← hY] at HT4 hr HTK2 hYl
      clear hX hY
      go_wp2_with fail
      refine wp_region_relyx (PqS B w6 g1 g2 ea eb u7 u8 X Y) (prP u7 u8 ea eb) [some 89, some 90, some 91, some 92, some 93, some 94, some 95, some 96, some 7, some 8] [[], [], [1], [0, 2], [], [], [5], [4, 6], [3], [7]] [[], [], [1], [0, 1, 2], [], [], [5], [0, 2, 4, 5, 6], [0, 1, 2, 3, 4, 6], [0, 1, 2, 3, 4, 5, 6, 7]] [[1, 2, 4, 5, 6, 7], [0, 3, 4, 5, 6, 7], [0, 4, 5, 6, 7], [4, 5, 6], [0, 1, 2, 3, 5, 6, 8], [0, 1, 2, 3, 4, 7, 8], [0, 1, 2, 3, 4, 8], [3], [7], [8]] [0, 1, 2, 3, 4, 5, 6, 7, 8, 9] 10 (by kernel_rfl) (by kernel_rfl) (by kernel_rfl) (by kernel_rfl) ?rS (fun j h1 h2 => absurd (Nat.lt_of_lt_of_le h1 (Nat.le_trans (by decide) h2)) (Nat.lt_irrefl _)) ?rT ?rE
      case rS => exact ⟨pr_start (below_drewN (Below.refl _ _) 1) (HT4.out.below (below_drewN (Below.refl _ _) 1)) (K1.out.below (below_drewN (Below.refl _ _) 1)) (K2.out.below (below_drewN (Below.refl _ _) 1)), po_start⟩
      case rT =>
       refine RelyStepsX.cons (RelyStepX.mk [] [1, 2, 4, 5, 6, 7] rfl rfl rfl (fun xv Lv wS hS hL hLd hV bq hb K hK => ?_)) ?_
       ·clear hV
        simp only [putsOf, List.foldl_cons, List.foldl_nil, List.getD_cons_zero, List.getD_cons_succ, List.getD_nil, cond_true, cond_false, Act.put, List.setIfInBounds_toArray, List.set_cons_zero, List.set_cons_succ] at hb
        subst hb
        rw [if_pos (by rfl)]
        go_wp2_with fail
        exact hK.out _ _ ⟨_, rfl, pq_pure (i := 0) rfl hS, rfl, AllPX.same _⟩
       refine RelyStepsX.cons (RelyStepX.mk [] [0, 3, 4, 5, 6, 7] rfl rfl rfl (fun xv Lv wS hS hL hLd hV bq hb K hK => ?_)) ?_
       ·clear hV
        simp only [putsOf, List.foldl_cons, List.foldl_nil, List.getD_cons_zero, List.getD_cons_succ, List.getD_nil, cond_true, cond_false, Act.put, List.setIfInBounds_toArray, List.set_cons_zero, List.set_cons_succ] at hb
        subst hb
        rw [if_pos (by rfl)]
        (have q1 := (pr_evA hS.1).1; have c0 := (q1.cell 0).trans (show _ = some (Value.int .i64 (ea).th) from rfl); have c1 := (q1.cell 1).trans (show _ = some (Value.int .i64 (ea).kd) from rfl); have c2 := (q1.cell 2).trans (show _ = some (Value.int .i64 (ea).rg) from rfl); have c3 := (q1.cell 3).trans (show _ = some (Value.int .u64 ((ea).tk : Int)) from rfl); have c4 := (q1.cell 4).trans (show _ = some (Value.int .u64 ((ea).vl : Int)) from rfl); have ql := q1.lt)
        go_wp2_with fail
        exact hK.out _ _ ⟨_, rfl, pq_pure (i := 1) rfl hS, rfl, AllPX.same _⟩
       refine RelyStepsX.cons (RelyStepX.mk [1] [0, 4, 5, 6, 7] rfl rfl rfl (fun xv Lv wS hS hL hLd hV bq hb K hK => ?_)) ?_
       ·obtain ⟨h1, _⟩ := hV
        have h1 : xv 1 = _ := h1
        simp only [putsOf, List.foldl_cons, List.foldl_nil, List.getD_cons_zero, List.getD_cons_succ, List.getD_nil, cond_true, cond_false, Act.put, List.setIfInBounds_toArray, List.set_cons_zero, List.set_cons_succ, h1] at hb
        clear h1
        subst hb
        rw [if_pos (by rfl)]
        have HSS := Lib.hid hS
        clear hS
        go_wp2_with fail
        exact hK.out _ _ ⟨_, rfl, ⟨pr_litA HSS.out.1, po_ne rfl HSS.out.2⟩, trivial, AllPX.of _ (fun j _ _ h => prP_any h)⟩
       refine RelyStepsX.cons (RelyStepX.mk [0, 2] [4, 5, 6] rfl rfl rfl (fun xv Lv wS hS hL hLd hV bq hb K hK => ?_)) ?_
       ·obtain ⟨h0, h2, _⟩ := hV
        have h0 : xv 0 = _ := h0
        simp only [putsOf, List.foldl_cons, List.foldl_nil, List.getD_cons_zero, List.getD_cons_succ, List.getD_nil, cond_true, cond_false, Act.put, List.setIfInBounds_toArray, List.set_cons_zero, List.set_cons_succ, h0] at hb
        clear h0
        generalize hy2 : xv 2 = y2 at *
        subst hb
        rw [if_pos (by rfl)]
        have HSS := Lib.hid hS
        obtain ⟨g2, e2, hk2, ht2⟩ := pr_openA hS.1 (hLd 2 (by decide +kernel)) hL (po_no7 hS.2 hL)
        rw [hy2] at e2
        subst e2
        clear hS
        refine step_list (ops := #[]) (by rfl) (append_two wS rfl (.tmp 89) (.tmp 91) 22 rfl B Tryz.underlying22 infoEvP ht2 rfl rfl hk2 (by omega) ?_)
        intro r' w' ht hb hkk
        exact hK.out _ _ ⟨_, rfl, ⟨pr_pushA HSS.out.1 hL (po_no7 HSS.out.2 hL) ht hb hkk, po3 HSS.out.2 hL⟩, trivial, AllPX.of _ (fun j _ _ h => prP_any h)⟩
       refine RelyStepsX.cons (RelyStepX.mk [] [0, 1, 2, 3, 5, 6, 8] rfl rfl rfl (fun xv Lv wS hS hL hLd hV bq hb K hK => ?_)) ?_
       ·clear hV
        simp only [putsOf, List.foldl_cons, List.foldl_nil, List.getD_cons_zero, List.getD_cons_succ, List.getD_nil, cond_true, cond_false, Act.put, List.setIfInBounds_toArray, List.set_cons_zero, List.set_cons_succ] at hb
        subst hb
        rw [if_pos (by rfl)]
        go_wp2_with fail
        exact hK.out _ _ ⟨_, rfl, pq_pure (i := 4) rfl hS, rfl, AllPX.same _⟩
       refine RelyStepsX.cons (RelyStepX.mk [] [0, 1, 2, 3, 4, 7, 8] rfl rfl rfl (fun xv Lv wS hS hL hLd hV bq hb K hK => ?_)) ?_
       ·clear hV
        simp only [putsOf, List.foldl_cons, List.foldl_nil, List.getD_cons_zero, List.getD_cons_succ, List.getD_nil, cond_true, cond_false, Act.put, List.setIfInBounds_toArray, List.set_cons_zero, List.set_cons_succ] at hb
        subst hb
        rw [if_pos (by rfl)]
        (have q1 := (pr_evA hS.1).2; have c0 := (q1.cell 0).trans (show _ = some (Value.int .i64 (eb).th) from rfl); have c1 := (q1.cell 1).trans (show _ = some (Value.int .i64 (eb).kd) from rfl); have c2 := (q1.cell 2).trans (show _ = some (Value.int .i64 (eb).rg) from rfl); have c3 := (q1.cell 3).trans (show _ = some (Value.int .u64 ((eb).tk : Int)) from rfl); have c4 := (q1.cell 4).trans (show _ = some (Value.int .u64 ((eb).vl : Int)) from rfl); have ql := q1.lt)
        go_wp2_with fail
        exact hK.out _ _ ⟨_, rfl, pq_pure (i := 5) rfl hS, rfl, AllPX.same _⟩
       refine RelyStepsX.cons (RelyStepX.mk [5] [0, 1, 2, 3, 4, 8] rfl rfl rfl (fun xv Lv wS hS hL hLd hV bq hb K hK => ?_)) ?_
       ·obtain ⟨h5, _⟩ := hV
        have h5 : xv 5 = _ := h5
        simp only [putsOf, List.foldl_cons, List.foldl_nil, List.getD_cons_zero, List.getD_cons_succ, List.getD_nil, cond_true, cond_false, Act.put, List.setIfInBounds_toArray, List.set_cons_zero, List.set_cons_succ, h5] at hb
        clear h5
        subst hb
        rw [if_pos (by rfl)]
        have HSS := Lib.hid hS
        clear hS
        go_wp2_with fail
        exact hK.out _ _ ⟨_, rfl, ⟨pr_litB HSS.out.1, po_ne rfl HSS.out.2⟩, trivial, AllPX.of _ (fun j _ _ h => prP_any h)⟩
       refine RelyStepsX.cons (RelyStepX.mk [4, 6] [3] rfl rfl rfl (fun xv Lv wS hS hL hLd hV bq hb K hK => ?_)) ?_
       ·obtain ⟨h4, h6, _⟩ := hV
        have h4 : xv 4 = _ := h4
        simp only [putsOf, List.foldl_cons, List.foldl_nil, List.getD_cons_zero, List.getD_cons_succ, List.getD_nil, cond_true, cond_false, Act.put, List.setIfInBounds_toArray, List.set_cons_zero, List.set_cons_succ, h4] at hb
        clear h4
        generalize hy6 : xv 6 = y6 at *
        subst hb
        rw [if_pos (by rfl)]
        have HSS := Lib.hid hS
        obtain ⟨g2, e2, hk2, ht2⟩ := pr_openB hS.1 (hLd 6 (by decide +kernel)) (hLd 3 (by decide +kernel)) hL
        rw [hy6] at e2
        subst e2
        clear hS
        refine step_list (ops := #[]) (by rfl) (append_two wS rfl (.tmp 93) (.tmp 95) 22 rfl B Tryz.underlying22 infoEvP ht2.swap rfl rfl hk2.swap (by omega) ?_)
        intro r' w' ht hb hkk
        exact hK.out _ _ ⟨_, rfl, ⟨pr_pushB HSS.out.1 (hLd 3 (by decide +kernel)) hL ht.swap hb (fun g y h => (hkk g y h.swap).swap), po7 HSS.out.2 (hLd 3 (by decide +kernel)) hL⟩, trivial, AllPX.of _ (fun j _ _ h => prP_any h)⟩
       refine RelyStepsX.cons (RelyStepX.mk [3] [7] rfl rfl rfl (fun xv Lv wS hS hL hLd hV bq hb K hK => ?_)) ?_
       ·obtain ⟨h3, _⟩ := hV
        simp only [putsOf, List.foldl_cons, List.foldl_nil, List.getD_cons_zero, List.getD_cons_succ, List.getD_nil, cond_true, cond_false, Act.put, List.setIfInBounds_toArray, List.set_cons_zero, List.set_cons_succ] at hb
        generalize hy3 : xv 3 = y3 at *
        subst hb
        rw [if_pos (by rfl)]
        have HSS := Lib.hid hS
        clear hS
        go_wp2_with fail
        have hp8 := po8 HSS.out.2 (hLd 3 (by decide +kernel))
        rw [hy3] at hp8
        exact hK.out _ _ ⟨_, rfl, ⟨pr_pure rfl HSS.out.1, hp8⟩, trivial, AllPX.of _ (fun j _ _ h => prP_any h)⟩
       refine RelyStepsX.cons (RelyStepX.mk [7] [8] rfl rfl rfl (fun xv Lv wS hS hL hLd hV bq hb K hK => ?_)) ?_
       ·obtain ⟨h7, _⟩ := hV
        simp only [putsOf, List.foldl_cons, List.foldl_nil, List.getD_cons_zero, List.getD_cons_succ, List.getD_nil, cond_true, cond_false, Act.put, List.setIfInBounds_toArray, List.set_cons_zero, List.set_cons_succ] at hb
        generalize hy7 : xv 7 = y7 at *
        subst hb
        rw [if_pos (by rfl)]
        have HSS := Lib.hid hS
        clear hS
        go_wp2_with fail
        have hp9 := po9 HSS.out.2 (hLd 7 (by decide +kernel))
        rw [hy7] at hp9
        exact hK.out _ _ ⟨_, rfl, ⟨pr_pure rfl HSS.out.1, hp9⟩, trivial, AllPX.of _ (fun j _ _ h => prP_any h)⟩
       exact RelyStepsX.nil
      case rE =>
       intro xv Lv wE hS hLall hV
       have h8 := hV 8 (by decide) (by decide)
       have h9 := hV 9 (by decide) (by decide)
       clear hV
       have hd := pr_done hS.1 (hLall 3 (by decide +kernel)) (hLall 7 (by decide +kernel))
       have q8 := (hS.2.2.1 (hLall 8 (by decide +kernel))).2
       have q9 := (hS.2.2.2 (hLall 9 (by decide +kernel))).2
       rw [← q8, ← q9] at hd
       clear q8 q9 hS hLall
       simp only [putsOf, List.foldl_cons, List.foldl_nil, List.getD_cons_zero, List.getD_cons_succ, List.getD_nil, cond_true, cond_false, Act.put, List.setIfInBounds_toArray, List.set_cons_zero, List.set_cons_succ]
       generalize xv 0 = y0 at *
       generalize xv 1 = y1 at *
       generalize xv 2 = y2 at *
       generalize xv 3 = y3 at *
       generalize xv 4 = y4 at *
       generalize xv 5 = y5 at *
       generalize xv 6 = y6 at *
       generalize xv 7 = y7 at *
       generalize xv 8 = y8 at *
       generalize xv 9 = y9 at *
       obtain ⟨hd1, hd2⟩ := hd
       rw [← HTK.out, ← HTK2.out] at hd2
       have HTe := Lib.hid hd2
       have HBe2 := Lib.hid (HB4.out.trans hd1)
       have HRe : Hid ((∀ x ∈ A0 ++ (zb.take (k + 1)).map ev7, rightE x = true ∧ evOk x) ∧ ∀ x ∈ A0 ++ (zc.take (k + 1)).map ev7, rightE x = true ∧ evOk x) := by
        show (∀ x ∈ _, _) ∧ (∀ x ∈ _, _)
        rw [HTK.out, HTK2.out]
        refine ⟨fun y hy => ?_, fun y hy => ?_⟩
        ·rcases List.mem_append.1 hy with hy | hy
         ·exact hr.out.1 y hy
         ·rw [List.mem_singleton] at hy
          subst hy
          exact ⟨HRB.out, HOE.out⟩
        ·rcases List.mem_append.1 hy with hy | hy
         ·exact hr.out.2 y hy
         ·rw [List.mem_singleton] at hy
          subst hy
          exact ⟨HRC.out, HOF.out⟩
       clear hd1 hd2 HT4 K1 K2 HB4 hr
       go_wp2
       go_roundw
       case rel => exact ⟨k + 1, by omega, by go_num, HTe, HRe, HBe2⟩
       case measure => simp [intOf]; omega
    ·obtain rfl : zb.length = k := by omega
     rw [List.take_length, show zc.take zb.length = zc from List.take_of_length_le (by rw [HBC.out]; exact Nat.le_refl _)] at ht hr
     obtain ⟨F, R, f1, f2, _⟩ := parts_front za zb hA0 (by omega) (by omega)
     obtain ⟨F', R', f3, f4, _⟩ := parts_front za zc hA0 (by omega) (by have := HBC.out; omega)
     obtain ⟨F0, R0, f5, f6, f7⟩ := parts_front za [] hA0 (by omega) (by simp)
     rw [f7 rfl, List.append_nil, List.map_nil, List.append_nil] at f5
     rw [← HBC.out] at f4
     rw [← HA0.out] at f1 f3 f5
     have hK9 := thrS_le A0
     rw [HA0L.out] at hK9
     have hXl : (A0 ++ zb.map ev7).length = za.length + zb.length := by rw [List.length_append, HA0L.out, List.length_map]
     have hYl : (A0 ++ zc.map ev7).length = za.length + zb.length := by rw [List.length_append, HA0L.out, List.length_map, HBC.out]
     have hpre : (rowsOf evF (A0 ++ zb.map ev7)).take (za.length * 5) = rowsOf evF A0 := by
      rw [rowsOf_append, ← HA0L.out, ← rowsOf_length evF_length, List.take_left]
     obtain ⟨X, hX⟩ : ∃ X, X = A0 ++ zb.map ev7 := ⟨_, rfl⟩
     obtain ⟨Y, hY⟩ : ∃ Y, Y = A0 ++ zc.map ev7 := ⟨_, rfl⟩
     rw [← hX] at ht hr f1 hXl hpre
     rw [← hY] at ht hr f3 hYl
     have HSX := Lib.hid (fun A c w h => streams_ok X A c w hr.out.1 (by omega) h)
     have HSY := Lib.hid (fun A c w h => streams_ok Y A c w hr.out.2 (by omega) h)
     have HHD := Lib.hid (fun A c w h => head_ok A0 za.length A c w HA0L.out HRA.out (by omega) h)
     obtain ⟨M, hM⟩ : ∃ M, M = textB (thrS A0) := ⟨_, rfl⟩
     obtain ⟨K, hK⟩ : ∃ K, K = (thrS A0).length := ⟨_, rfl⟩
     obtain ⟨fr, hfr⟩ : ∃ fr, fr = frontN zb.length := ⟨_, rfl⟩
     have sX : fr + K ≤ (textB (strS X)).size ∧ (textB (strS X)).extract fr (fr + K) = M := by
      rw [hfr, hK, hM, f1, ← f2, cut_mid21, textB_size, List.length_append, List.length_append]; exact ⟨by omega, rfl⟩
     have sY : fr + K ≤ (textB (strS Y)).size ∧ (textB (strS Y)).extract fr (fr + K) = M := by
      rw [hfr, hK, hM, f3, ← f4, cut_mid21, textB_size, List.length_append, List.length_append]; exact ⟨by omega, rfl⟩
     have sH : (textB (strS A0)).size = 3 + K ∧ (textB (strS A0)).extract 3 (3 + K) = M := by
      have e6 : F0.length = 3 := f6
      have := cut_end21 F0 (thrS A0)
      rw [textB_size, List.length_append, e6, ← hK, ← hM] at this
      rw [f5, textB_size, List.length_append, e6, ← hK]
      exact ⟨rfl, this⟩
     rw [← hK] at hK9
     obtain ⟨sX1, sX2⟩ := sX
     obtain ⟨sY1, sY2⟩ := sY
     obtain ⟨sH1, sH2⟩ := sH
     generalize textB (strS X) = S at *
     generalize textB (strS Y) = T at *
     generalize textB (strS A0) = H at *
     obtain ⟨AX, cX, e7⟩ := own_sl21 ht.out.o1
     obtain ⟨AY, cY, e8⟩ := own_sl21 ht.out.o2
     subst e7 e8
     have HQX := Lib.hid (SeqS.of_owns ht.out.o1)
     have HQY := Lib.hid (SeqS.of_owns ht.out.o2)
     obtain ⟨A', c', e', n1, n2, _⟩ := HQX.out.form
     simp only [Value.slice.injEq, true_and] at e'
     obtain ⟨rfl, rfl⟩ := e'
     obtain ⟨A', c', e', n3, n4, _⟩ := HQY.out.form
     simp only [Value.slice.injEq, true_and] at e'
     obtain ⟨rfl, rfl⟩ := e'
     unfold maxLen at n2 n4
     have HQF := Lib.hid (HQX.out.front (k := za.length) (by omega))
     rw [hpre] at HQF
     have HSX2 := Lib.hid sX2
     have HSY2 := Lib.hid sY2
     have HSH2 := Lib.hid sH2
     have HFR := Lib.hid hfr
     have HSZ := Lib.hid (And.intro sX1 (And.intro sY1 (And.intro sH1 hK9)))
     have zX : za.length ≤ cX := by omega
     clear ht hr hb f1 f2 f3 f4 f5 f6 f7 hM hK hX hY hpre sX2 sY2 sH2 hXl hYl hfr sX1 sY1 sH1 hK9
     go_wp2_with fail
     refine (HSX.out _ _ wr HQX.out).mono ?_
     rintro e wa ⟨rfl, hba⟩
     have HBa := Lib.hid (HBw.out.trans (hba.mono HBw.out.size))
     replace HQY := Lib.hid (HQY.out.later hba)
     replace HQF := Lib.hid (HQF.out.later hba)
     clear hba HSX HQX HBw
     go_wp2_with fail
     refine (HSY.out _ _ wa HQY.out).mono ?_
     rintro e wb ⟨rfl, hbb⟩
     have HBb := Lib.hid (HBa.out.trans (hbb.mono HBa.out.size))
     replace HQF := Lib.hid (HQF.out.later hbb)
     clear hbb HSY HQY HBa
     have y1 : (za.length : Int) ≤ (cX : Int) := by omega
     have y2 : za.length ≤ cX := by omega
     go_wp2_with fail
     refine (HHD.out _ _ wb HQF.out).mono ?_
     rintro e wc ⟨rfl, hbc⟩
     have HBc := Lib.hid (HBb.out.trans (hbc.mono HBb.out.size))
     clear hbc HHD HQF HBb y1 y2
     obtain ⟨q1, q2, q3, q4⟩ := HSZ.out
     have o1 : wrap64 ((H.size : Int) - 3) = (K : Int) := by
      unfold wrap64; omega
     have w1' : za.length ≤ 128 := by omega
     have HH3 := HSH2.out
     rw [← q3] at HH3
     have hH3 : 3 ≤ H.size := by omega
     clear HSH2
     have HQ3 := Lib.hid q3
     have hK0 : (0 : Int) ≤ (K : Int) := by omega
     by_cases hb0 : zb.length = 0
     ·have g1 : decide ((0 : Int) < (zb.length : Int)) = false := decide_eq_false (by omega)
      have g2 : decide (0 < zb.length) = false := decide_eq_false (by omega)
      obtain ⟨N, hN⟩ : ∃ N, N = 3 + K := ⟨_, rfl⟩
      have hf3 : fr = 3 := by have := HFR.out; rw [this]; unfold frontN; rw [if_pos hb0]
      have k1 := HSX2.out
      have k2 := HSY2.out
      rw [hf3, ← hN] at k1 k2
      have i1 : (3 : Int) + (K : Int) = (N : Int) := by omega
      have i2 : IntKind.i64.wrap (N : Int) = (N : Int) := by rw [IntKind.wrap_i64]; omega
      have i3 : decide ((N : Int) ≤ (S.size : Int)) = true := decide_eq_true (by omega)
      have i4 : decide ((N : Int) ≤ (T.size : Int)) = true := decide_eq_true (by omega)
      have i5 : N ≤ S.size := by omega
      have i6 : N ≤ T.size := by omega
      have i7 : 3 ≤ N := by omega
      have i8 : (3 : Int) ≤ (N : Int) := by omega
      have i9 : (N : Int) ≤ (S.size : Int) := by omega
      have i10 : (N : Int) ≤ (T.size : Int) := by omega
      clear hb0 hf3 hN q1 q2 q3 q4 HSZ HFR
      go_wp2_with fail
      go_quiet (fail)
      go_wp2
      go_ret
      exact ⟨rfl, below_drewN HBc.out _⟩
     ·have g1 : decide ((0 : Int) < (zb.length : Int)) = true := decide_eq_true (by omega)
      have g2 : decide (0 < zb.length) = true := decide_eq_true (by omega)
      obtain ⟨N, hN⟩ : ∃ N, N = 5 + K := ⟨_, rfl⟩
      have hf3 : fr = 5 := by have := HFR.out; rw [this]; unfold frontN; rw [if_neg hb0]
      have k1 := HSX2.out
      have k2 := HSY2.out
      rw [hf3, ← hN] at k1 k2
      have i1 : (5 : Int) + (K : Int) = (N : Int) := by omega
      have i2 : IntKind.i64.wrap (N : Int) = (N : Int) := by rw [IntKind.wrap_i64]; omega
      have i3 : decide ((N : Int) ≤ (S.size : Int)) = true := decide_eq_true (by omega)
      have i4 : decide ((N : Int) ≤ (T.size : Int)) = true := decide_eq_true (by omega)
      have i5 : N ≤ S.size := by omega
      have i6 : N ≤ T.size := by omega
      have i7 : 5 ≤ N := by omega
      have i8 : (5 : Int) ≤ (N : Int) := by omega
      have i9 : (N : Int) ≤ (S.size : Int) := by omega
      have i10 : (N : Int) ≤ (T.size : Int) := by omega
      clear hb0 hf3 hN q1 q2 q3 q4 HSZ HFR
      go_wp2_with fail
      go_quiet (fail)
      go_wp2
      go_ret
      exact ⟨rfl, below_drewN HBc.out _⟩
end Go.Proofs.YtmadgdmiipgjoaaGreat
