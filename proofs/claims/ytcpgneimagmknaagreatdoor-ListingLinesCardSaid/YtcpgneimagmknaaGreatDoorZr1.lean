import Derived.WalkKit
import Derived.ProofKit
import Derived.Lib.Hide
import Derived.Lib.AppendStr
import Derived.Lib.SlBytesRow
import Derived.Laws.AppendOwnNone
import Derived.Deep.AppendLies
import Derived.Deep.Draws
import Derived.BigQuiet
import Derived.Deep.QuietTactic
import Derived.Deep.RegionWith
import Derived.OpenShut
import Derived.Outline
import Derived.Deep.Slices
import Derived.ChangeSame
import Derived.Laws.IdiomStrings
import Derived.SliceStrings
import Derived.Laws.DeepStrings4
import Derived.SizedLaws
import Derived.Laws.OwnMore
import Derived.Test.YtcpgneimagmknaaGreatDoorRows
import Derived.Deep.DeepCutAuto
import Derived.Lib.LaidTab
import Derived.Lib.BufferRead
import Derived.Deep.OwnRows
import Derived.Laws.StructEq
import Derived.Test.YtcpgneimagmknaaGreatDoorShelf
import Derived.Lib.ItoaMem
import Derived.Lib.AppendIntMem
import Derived.Lib.Walk
import Derived.BigCall
import Derived.BigGuard
import Derived.Test.YtcpgneimagmknaaGreatDoorCards
import Derived.Test.YtcpgneimagmknaaGreatDoorTie
import Derived.Deep.DeepHandedRow
import Derived.Deep.DeepWitnessRowRef
import Derived.Deep.DeepLaidRun
import Derived.Lib.LaidU8
import Derived.Shelf.Vars
import Derived.Deep.RegionHeld3
import Derived.IntWalk
import Derived.Laws.BitsAllLaws
import Derived.Laws.Bits64
import Derived.Laws.Bits64b
import Derived.Deep.RegionHeld
import Derived.ShutString
import Derived.ChangeOld
import Derived.Below
import Derived.Test.YtcpgneimagmknaaGreatDoorZz8
namespace Go.Proofs.YtcpgneimagmknaaGreatDoor
open Go.RowKit
set_option linter.unusedVariables false
set_option linter.unusedSimpArgs false
section
variable {P : Program} {W : World} {H : Type} {enc : TypeId × Value → H}
theorem argSlice_of {t e : TypeId} {a : Option Addr} {len cap sz : Nat} {d : DataW H} {p : List MemPlace} (ht : P.underlying t = some (.slice e)) (hc : P.cellsOf e = sz) (hsz : 0 < sz)
  (h : DataW.Trod enc P W 0 (fun _ => true) true t (.slice a len cap) d p) :
  len ≤ cap ∧ cap ≤ maxLen ∧ ∃ rows : Nat → List Value, ∀ i, i < len → (rows i).length = sz ∧ (∃ n y, DataW.trod enc P W 0 (fun _ => true) true n e (rows i) = some y) ∧
   ∃ b off, a = some ⟨b, off, none⟩ ∧ b < W.heap.size ∧ ∀ j, j < sz → W.cell? ⟨b, off + i * sz + j, none⟩ = (rows i)[j]? := by
 obtain ⟨fuel, hf⟩ := h
 rcases Deep.open_slice ht hf with ⟨hcs, _⟩ | ⟨x, l, c, m, n, D, Pl, hcs, _, hl, hm, hmm, _, hx⟩
 ·simp [Value.cells] at hcs
  obtain ⟨rfl, rfl, rfl⟩ := hcs
  exact ⟨by omega, by unfold maxLen; omega, fun _ => [], fun i hi => by omega⟩
 ·simp [Value.cells] at hcs
  obtain ⟨rfl, rfl, rfl⟩ := hcs
  simp at hmm
  subst hmm
  refine ⟨hl, hm, ?_⟩
  obtain ⟨rows, hr⟩ := Deep.choose_lt (α := List Value) (n := len) (p := fun i cs => W.cells? 0 (x.add (i * P.cellsOf e)) (P.cellsOf e) = some cs ∧ DataW.trod enc P W 0 (fun _ => true) true n e cs = some (D i, Pl i)) (fun i hi => hx i (by omega))
  refine ⟨rows, fun i hi => ?_⟩
  obtain ⟨h1, h2⟩ := hr i hi
  obtain ⟨h01, _⟩ := hr 0 (by omega)
  rw [hc] at h1 h01
  obtain ⟨_, g2, g3⟩ := World.cells?_some h1
  obtain ⟨_, g02, g03⟩ := World.cells?_some h01
  have z := g03 0 hsz
  rw [List.getElem?_eq_getElem (by omega), Nat.zero_mul] at z
  obtain ⟨b, off, spot⟩ := x
  have hlt := World.block_lt_of_cell? W _ z
  have hs := World.cell?_spot z
  simp [Addr.add] at hlt hs
  subst hs
  refine ⟨g2, ⟨n, _, h2⟩, b, off, rfl, hlt, fun j hj => ?_⟩
  have := g3 j hj
  rwa [addr_plus, addr_plus] at this
end
theorem flat_length {rows : Nat → List Value} {sz : Nat} : ∀ n, (∀ i, i < n → (rows i).length = sz) → ((List.range n).flatMap rows).length = n * sz
 | 0, _ => by simp
 | n + 1, h => by
  rw [List.range_succ, List.flatMap_append, List.length_append, flat_length n (fun i hi => h i (by omega))]
  simp [h n (by omega), Nat.add_mul]
theorem flat_get {rows : Nat → List Value} {sz : Nat} : ∀ n, (∀ i, i < n → (rows i).length = sz) → ∀ i j, i < n → j < sz → ((List.range n).flatMap rows)[i * sz + j]? = (rows i)[j]?
 | 0, _, i, j, hi, _ => by omega
 | n + 1, h, i, j, hi, hj => by
  have hl := flat_length n (fun i hi => h i (by omega))
  rw [List.range_succ, List.flatMap_append]
  by_cases e : i = n
  ·subst e
   rw [List.getElem?_append_right (by omega), hl, Nat.add_sub_cancel_left]
   simp
  ·have hm : i * sz + sz ≤ n * sz := by
    have := Nat.mul_le_mul_right sz (show i + 1 ≤ n by omega)
    rw [Nat.add_mul] at this; omega
   rw [List.getElem?_append_left (by omega)]
   exact flat_get n (fun i hi => h i (by omega)) i j (by omega) hj
section
variable {P : Program} {W : World} {H : Type} {enc : TypeId × Value → H}
theorem argRows {t e : TypeId} {a : Option Addr} {len cap sz : Nat} {d : DataW H} {p : List MemPlace} (ht : P.underlying t = some (.slice e)) (hc : P.cellsOf e = sz) (hsz : 0 < sz)
  (h : DataW.Trod enc P W 0 (fun _ => true) true t (.slice a len cap) d p) :
  (a = none → len = 0 ∧ cap = 0) ∧ ∃ rows : Nat → List Value, (∀ i, i < len → (rows i).length = sz ∧ ∃ n y, DataW.trod enc P W 0 (fun _ => true) true n e (rows i) = some y) ∧ SeqS W sz (.slice a len cap) len ((List.range len).flatMap rows) := by
 have hn : a = none → len = 0 ∧ cap = 0 := by
  obtain ⟨fuel, hf⟩ := h
  rcases Deep.open_slice ht hf with ⟨hcs, _⟩ | ⟨x, l, c, m, n, D, Pl, hcs, _⟩
  ·simp [Value.cells] at hcs
   exact fun _ => hcs.2
  ·simp [Value.cells] at hcs
   intro ha; rw [ha] at hcs; exact absurd hcs.1 (by simp)
 obtain ⟨h1, h2, rows, hr⟩ := argSlice_of ht hc hsz h
 refine ⟨hn, rows, fun i hi => ⟨(hr i hi).1, (hr i hi).2.1⟩, ?_⟩
 have hl := flat_length (rows := rows) (sz := sz) len (fun i hi => (hr i hi).1)
 refine ⟨hl, a, cap, rfl, h1, h2, fun ha => (hn ha).2, fun k u hu => ?_⟩
 have hk : k < len * sz := by rw [← hl]; exact (List.getElem?_eq_some_iff.1 hu).1
 have hi : k / sz < len := (Nat.div_lt_iff_lt_mul hsz).2 hk
 have hj : k % sz < sz := Nat.mod_lt _ hsz
 have hkk : k / sz * sz + k % sz = k := by rw [Nat.mul_comm]; exact Nat.div_add_mod k sz
 have hg := flat_get (rows := rows) (sz := sz) len (fun i hi => (hr i hi).1) (k / sz) (k % sz) hi hj
 rw [hkk, hu] at hg
 obtain ⟨_, _, b, off, ea, _, hc⟩ := hr (k / sz) hi
 refine ⟨b, off, ea, ?_⟩
 have := hc (k % sz) hj
 rw [Nat.add_assoc, hkk] at this
 rw [this, ← hg]
end
theorem flatMap_congr_range {α : Type} {f g : Nat → List α} : ∀ n, (∀ i, i < n → f i = g i) → (List.range n).flatMap f = (List.range n).flatMap g
 | 0, _ => rfl
 | n + 1, h => by
  rw [List.range_succ, List.flatMap_append, List.flatMap_append, flatMap_congr_range n (fun i hi => h i (by omega))]
  simp [h n (by omega)]
section
variable {α : Type} {f : α → List Value} {sz : Nat}
theorem range_rows (g : Nat → α) (n : Nat) : (List.range n).flatMap (fun i => f (g i)) = rowsOf f ((List.range n).map g) := by unfold rowsOf; rw [List.flatMap_map]
end
section
variable {P : Program} {W : World} {H : Type} {enc : TypeId × Value → H}
def IntField (P : Program) (k : IntKind) (i : Nat) (f : Field) : Prop := P.underlying f.type = some (.int k) ∧ f.offset = i ∧ P.cellsOf f.type = 1
theorem int_field {e : TypeId} {fs : Array Field} {n : Nat} {cs : List Value} {y : DataW H × List MemPlace} (he : P.underlying e = some (.struct fs)) (h : DataW.trod enc P W 0 (fun _ => true) true n e cs = some y)
  {i : Nat} {f : Field} {k : IntKind} (hf : fs[i]? = some f) (hk : IntField P k i f) : ∃ z, cs[i]? = some (.int k z) ∧ (Lit.int k z).wf = true := by
 obtain ⟨xs, m, _, _, hl, hn, hx⟩ := DataW.trod_struct he h
 obtain ⟨k1, k2, k3⟩ := hk
 have := hx i f hf
 rw [k2, k3] at this
 have hi : i < xs.length := by rw [hn]; exact (Array.getElem?_eq_some_iff.1 hf).1
 rw [List.getElem?_eq_getElem hi] at this
 obtain ⟨z, e1, _, e2⟩ := DataW.trod_int k1 this
 refine ⟨z, ?_, e2⟩
 have e3 : ((cs.drop i).take 1)[0]? = some (.int k z) := by rw [e1]; rfl
 rw [List.getElem?_take, if_pos (by decide), List.getElem?_drop] at e3
 exact e3
def ArgOf {α : Type} (f : α → List Value) (sz : Nat) (ok : α → Prop) (w : World) (a : Option Addr) (len cap : Nat) (l : List α) : Prop :=
 (a = none → len = 0 ∧ cap = 0) ∧ l.length = len ∧ SeqS w sz (.slice a len cap) len (rowsOf f l) ∧ ∀ x ∈ l, ok x
theorem argOf {α : Type} [Inhabited α] {f : α → List Value} {sz : Nat} {ok : α → Prop} {t e : TypeId} {a : Option Addr} {len cap : Nat} {d : DataW H} {p : List MemPlace} (ht : P.underlying t = some (.slice e)) (hc : P.cellsOf e = sz) (hsz : 0 < sz)
  (hopen : ∀ n cs y, cs.length = sz → DataW.trod enc P W 0 (fun _ => true) true n e cs = some y → ∃ x, cs = f x ∧ ok x)
  (h : DataW.Trod enc P W 0 (fun _ => true) true t (.slice a len cap) d p) : ∃ l, ArgOf f sz ok W a len cap l := by
 obtain ⟨h1, rows, h2, h3⟩ := argRows (sz := sz) ht hc hsz h
 obtain ⟨z, hz⟩ := Deep.choose_lt (α := α) (n := len) (p := fun i q => rows i = f q ∧ ok q) (fun i hi => by
  obtain ⟨g1, n, y, g2⟩ := h2 i hi
  exact hopen n _ y g1 g2)
 have he : (List.range len).flatMap rows = rowsOf f ((List.range len).map z) := by
  rw [← range_rows]
  exact flatMap_congr_range len (fun i hi => (hz i hi).1)
 rw [he] at h3
 refine ⟨(List.range len).map z, h1, by simp, h3, fun q hq => ?_⟩
 obtain ⟨i, hi, rfl⟩ := List.mem_map.1 hq
 exact (hz i (List.mem_range.1 hi)).2
end
def riOk (x : Ri) : Prop := i64 x.k ∧ i64 x.c ∧ i64 x.r
def pgOk (p : Pg) : Prop := (∀ x ∈ p.rs, riOk x) ∧ ∀ l ∈ p.ts, ∀ x ∈ l, inOk x
theorem lnsT_count : ∀ l : List (List UInt8), (∀ w ∈ l, (10 : UInt8) ∉ w) → (lnsT l).count 10 = l.length
 | [], _ => rfl
 | w :: l, h => by
  rw [lnsT_cons, List.count_append, List.count_eq_zero.2 (h w List.mem_cons_self), List.count_cons_self, lnsT_count l (fun v hv => h v (List.mem_cons_of_mem _ hv)), List.length_cons]
  omega
theorem prL_count {p : Pg} (h : lsB p = true) : (prL p).count 10 = p.rs.length + (lnsH p.ts).length := by
 rw [pr_lines, lnsT_count _ (lines_cln h), List.length_append]
 unfold lnsR
 rw [List.length_map]
def sumL (ts : List (List In)) : Nat := (ts.map List.length).sum
def fewB (p : Pg) (m : Nat) : Bool := decide (p.rs.length ≤ 10 ∧ p.ts.length ≤ 10 ∧ (∀ l ∈ p.ts, l.length ≤ m) ∧ sumL p.ts ≤ m)
theorem sumL_next {ts : List (List In)} {t : Nat} {l : List In} (h : ts[t]? = some l) : sumL (ts.take (t + 1)) = sumL (ts.take t) + l.length := by
 unfold sumL
 rw [List.take_add_one, h]
 simp
set_option maxHeartbeats 4000000 in
set_option maxRecDepth 100000 in
theorem rfFew (p : Pg) (m : Nat) (A : Option Addr) (c : Nat) (B : Option Addr) (d : Nat) (w : World) (h : PgAt w A c B d p) (hm : m ≤ 1000) :
  Calls Tryz.prog 10 #[.agg (pgC A c B d p), .int .i64 (m : Int)] w fun e w' => e = .returned (.bool (fewB p m)) ∧ Below w.heap.size w w' := by
 obtain ⟨hc1, hc2⟩ := seq_form h.1
 obtain ⟨hd1, hd2⟩ := h.2.form
 have hb0 : Below w.heap.size w (w.alloc (.cells (pgC A c B d p) 25)) := (Below.refl _ _).alloc (Nat.le_refl _) _
 have l0 := Lies.made w 25 (pgC A c B d p)
 have HH := Lib.hid h.2
 have HB0 := Lib.hid hb0
 have HL0 := Lib.hid l0
 have HE : Hid (fewB p m = _) := show fewB p m = _ by unfold fewB; rfl
 clear h hb0 l0
 by_cases h1 : 10 < p.rs.length
 ·have HF : Hid (fewB p m = false) := HE.out.trans (decide_eq_false (fun h => by omega))
  have e1 : decide ((10 : Int) < (p.rs.length : Int)) = true := by simp; omega
  clear HE h1
  go_enter Tryz.func10, Tryz.ntmps10
  go_wp2
  go_ret
  exact ⟨ret_bool (by rw [HF.out]), HB0.out⟩
 have e1 : decide ((10 : Int) < (p.rs.length : Int)) = false := by simp; omega
 by_cases h2 : 10 < p.ts.length
 ·have HF : Hid (fewB p m = false) := HE.out.trans (decide_eq_false (fun h => by omega))
  have e2 : decide ((10 : Int) < (p.ts.length : Int)) = true := by simp; omega
  clear HE h1 h2
  go_enter Tryz.func10, Tryz.ntmps10
  go_wp2
  go_ret
  exact ⟨ret_bool (by rw [HF.out]), HB0.out⟩
 have e2 : decide ((10 : Int) < (p.ts.length : Int)) = false := by simp; omega
 go_enter Tryz.func10, Tryz.ntmps10
 go_wp2_with fail
 generalize w.alloc (.cells (pgC A c B d p) 25) = w1 at *
 have c1 := (HL0.out.cell 1).trans (show _ = some (Value.slice B p.ts.length d) from rfl)
 have hl1 := HL0.out.lt
 go_loopw [5, 6] (fun v u wr => ∃ k s : Nat, k ≤ p.ts.length ∧ u = .int .i64 k ∧ v = .int .i64 s ∧ s ≤ k * m ∧ Hid (s = sumL (p.ts.take k)) ∧ Hid (∀ l ∈ p.ts.take k, l.length ≤ m) ∧ wr = w1) (fun _ u _ => p.ts.length - (intOf u).toNat)
 case atStart => exact ⟨0, 0, by omega, rfl, rfl, by omega, rfl, fun l hl => by simp at hl, rfl⟩
 case round =>
  obtain ⟨k, s, hk, rfl, rfl, hs, hsum, hall, rfl⟩ := hrel
  have hkm : k * m ≤ 10 * m := Nat.mul_le_mul_right m (by omega)
  have hs1 : s ≤ 10000 := by omega
  have HKM := Lib.hid hkm
  have HS := Lib.hid hs
  clear hkm hs
  by_cases hlt : k < p.ts.length
  ·have hki : (k : Int) < (p.ts.length : Int) := by omega
   obtain ⟨l, hl⟩ : ∃ l, p.ts[k]? = some l := ⟨_, List.getElem?_eq_getElem hlt⟩
   obtain ⟨b, off, B2, d2, rfl, g0, hil⟩ := (HH.out.later HB0.out).at_ hl
   obtain ⟨hc3, hc4⟩ := seq_form hil
   have HLM := Lib.hid (List.mem_of_getElem? hl)
   have HSN := Lib.hid (sumL_next hl)
   have HT := Lib.hid (show p.ts.take (k + 1) = p.ts.take k ++ [l] by rw [List.take_add_one, hl]; rfl)
   clear hil hl
   by_cases hlm : m < l.length
   ·have HF : Hid (fewB p m = false) := HE.out.trans (decide_eq_false (fun h => by have := h.2.2.1 l HLM.out; omega))
    have e3 : decide ((m : Int) < (l.length : Int)) = true := by simp; omega
    have e4 : decide (m < l.length) = true := by simpa using hlm
    clear HE hlm
    go_wp2
    go_ret
    exact ⟨ret_bool (by rw [HF.out]), HB0.out⟩
   have e3 : decide ((m : Int) < (l.length : Int)) = false := by simp; omega
   have e4 : decide (m < l.length) = false := by simpa using hlm
   have hll : l.length ≤ 1000 := by omega
   have HSZ : Hid (s + l.length ≤ (k + 1) * m) := by have := HS.out; show _ ≤ _; rw [Nat.add_mul]; omega
   have HS1 : Hid (s + l.length = sumL (p.ts.take (k + 1))) := by show _ = _; rw [HSN.out, hsum.out]
   have HA1 : Hid (∀ q ∈ p.ts.take (k + 1), q.length ≤ m) := fun q hq => by
    rw [HT.out] at hq
    rcases List.mem_append.1 hq with hq | hq
    ·exact hall.out q hq
    ·simp at hq; subst hq; omega
   clear hlm hsum hall
   go_wp2
   go_roundw
   case rel => exact ⟨k + 1, s + l.length, by omega, by go_num, by go_num, HSZ.out, HS1, HA1, trivial⟩
   case measure => simp [intOf]; omega
  ·obtain rfl : k = p.ts.length := by omega
   have hsum := hsum.out
   have hall := hall.out
   rw [List.take_length] at hsum hall
   have HF : Hid (fewB p m = decide (s ≤ m)) := by
    show _ = _
    rw [HE.out, Bool.eq_iff_iff, decide_eq_true_eq, decide_eq_true_eq, hsum]
    exact ⟨fun h => h.2.2.2, fun h => ⟨by omega, by omega, hall, h⟩⟩
   clear HE hsum hall
   go_wp2
   go_ret
   exact ⟨ret_bool (by rw [HF.out]), HB0.out⟩
theorem ril_iff {r : Ri} : rilB r = true ↔ (0 ≤ r.k ∧ r.k ≤ 255) ∧ (0 ≤ r.c ∧ r.c ≤ 255) ∧ (0 ≤ r.r ∧ r.r ≤ 255) := by
 unfold rilB wB
 simp only [Bool.and_eq_true, decide_eq_true_eq]
theorem ril_not {r : Ri} (h : ¬ ((0 ≤ r.k ∧ r.k ≤ 255) ∧ (0 ≤ r.c ∧ r.c ≤ 255) ∧ (0 ≤ r.r ∧ r.r ≤ 255))) : rilB r = false := by
 cases hq : rilB r with
 | false => rfl
 | true => exact absurd (ril_iff.1 hq) h
set_option maxHeartbeats 16000000 in
set_option maxRecDepth 100000 in
theorem rfWritten (p : Pg) (A : Option Addr) (c : Nat) (B : Option Addr) (d : Nat) (w : World) (h : PgAt w A c B d p) (hok : pgOk p) :
  Calls Tryz.prog 35 #[.agg (pgC A c B d p)] w fun e w' => e = .returned (.bool (encB p)) ∧ Below w.heap.size w w' := by
 obtain ⟨hc1, hc2⟩ := seq_form h.1
 obtain ⟨hd1, hd2⟩ := h.2.form
 have hb0 : Below w.heap.size w (w.alloc (.cells (pgC A c B d p) 25)) := (Below.refl _ _).alloc (Nat.le_refl _) _
 have l0 := Lies.made w 25 (pgC A c B d p)
 have HH := Lib.hid h
 have HOK := Lib.hid hok
 have HB0 := Lib.hid hb0
 have HL0 := Lib.hid l0
 have HEN := Lib.hid (@enc_not p)
 have HET := Lib.hid (@enc_parts p).2
 clear h hb0 l0 hok
 by_cases h1 : 8 < p.rs.length
 ·have HE := Lib.hid (HEN.out (fun h => by have := h.1; omega))
  have e1 : decide ((8 : Int) < (p.rs.length : Int)) = true := decide_eq_true (by omega)
  have e2 : decide (8 < p.rs.length) = true := decide_eq_true h1
  clear h1 HEN HET
  go_enter Tryz.func35, Tryz.ntmps35
  go_wp2
  go_ret
  exact ⟨ret_bool (by rw [HE.out]), HB0.out⟩
 have e1 : decide ((8 : Int) < (p.rs.length : Int)) = false := decide_eq_false (by omega)
 have e2 : decide (8 < p.rs.length) = false := decide_eq_false h1
 by_cases h2 : 8 < p.ts.length
 ·have HE := Lib.hid (HEN.out (fun h => by have := h.2.1; omega))
  have e3 : decide ((8 : Int) < (p.ts.length : Int)) = true := decide_eq_true (by omega)
  have e4 : decide (8 < p.ts.length) = true := decide_eq_true h2
  clear h2 HEN HET
  go_enter Tryz.func35, Tryz.ntmps35
  go_wp2
  go_ret
  exact ⟨ret_bool (by rw [HE.out]), HB0.out⟩
 have e3 : decide ((8 : Int) < (p.ts.length : Int)) = false := decide_eq_false (by omega)
 have e4 : decide (8 < p.ts.length) = false := decide_eq_false h2
 go_enter Tryz.func35, Tryz.ntmps35
 go_wp2_with fail
 generalize w.alloc (.cells (pgC A c B d p) 25) = w1 at *
 go_loopw [3] (fun u wr => ∃ i : Nat, i ≤ p.rs.length ∧ u = .int .i64 i ∧ Hid (∀ r ∈ p.rs.take i, rilB r = true) ∧ Hid (Below w.heap.size w wr) ∧ Hid (Lies wr w.heap.size 25 (pgC A c B d p))) (fun u _ => p.rs.length - (intOf u).toNat)
 case atStart => exact ⟨0, by omega, rfl, (by show ∀ r ∈ p.rs.take 0, _; simp), HB0, HL0⟩
 case round =>
  clear HB0 HL0
  obtain ⟨i, hi, rfl, hq, hbw, hlw⟩ := hrel
  have c0 := (hlw.out.cell 0).trans (show _ = some (Value.slice A p.rs.length c) from rfl)
  have cl := hlw.out.lt
  by_cases hlt : i < p.rs.length
  ·have hii : (i : Int) < (p.rs.length : Int) := by omega
   obtain ⟨r, hr⟩ : ∃ r, p.rs[i]? = some r := ⟨_, List.getElem?_eq_getElem hlt⟩
   obtain ⟨b, off, rfl, hbl, hg⟩ := RisAt.at_ (HH.out.1.later hbw.out) hr
   have g0 := hg 0 _ (by decide) rfl
   have g1 := hg 1 _ (by decide) rfl
   have g2 := hg 2 _ (by decide) rfl
   rw [Nat.add_zero] at g0
   have hbx : Below wr.heap.size wr (wr.alloc (.cells #[.int .i64 r.k, .int .i64 r.c, .int .i64 r.r] 51)) := (Below.refl _ _).alloc (Nat.le_refl _) _
   have HBW := Lib.hid (hbw.out.trans (hbx.mono hbw.out.size))
   have HLW := Lib.hid (hlw.out.below hbx hlw.out.lt)
   have HN := Lib.hid (fun (h : rilB r = true) => take_all_next (q := fun r => rilB r = true) hq.out hr h)
   have HNO := Lib.hid (fun (h : rilB r = false) => HEN.out (fun hh => by have := hh.2.2.1 r (List.mem_of_getElem? hr); rw [h] at this; cases this))
   clear hg hr hbx hq hbw hlw
   by_cases q1 : r.k < 0
   ·have ex : decide (r.k < 0) = true := decide_eq_true q1
    have HE := Lib.hid (HNO.out (ril_not (fun h => by omega)))
    clear q1
    go_wp2
    go_ret
    exact ⟨ret_bool (by rw [HE.out]), HBW.out⟩
   have f1 : decide (r.k < 0) = false := decide_eq_false q1
   by_cases q2 : 255 < r.k
   ·have ex : decide (255 < r.k) = true := decide_eq_true q2
    have HE := Lib.hid (HNO.out (ril_not (fun h => by omega)))
    clear q2
    go_wp2
    go_ret
    exact ⟨ret_bool (by rw [HE.out]), HBW.out⟩
   have f2 : decide (255 < r.k) = false := decide_eq_false q2
   by_cases q3 : r.c < 0
   ·have ex : decide (r.c < 0) = true := decide_eq_true q3
    have HE := Lib.hid (HNO.out (ril_not (fun h => by omega)))
    clear q3
    go_wp2
    go_ret
    exact ⟨ret_bool (by rw [HE.out]), HBW.out⟩
   have f3 : decide (r.c < 0) = false := decide_eq_false q3
   by_cases q4 : 255 < r.c
   ·have ex : decide (255 < r.c) = true := decide_eq_true q4
    have HE := Lib.hid (HNO.out (ril_not (fun h => by omega)))
    clear q4
    go_wp2
    go_ret
    exact ⟨ret_bool (by rw [HE.out]), HBW.out⟩
   have f4 : decide (255 < r.c) = false := decide_eq_false q4
   by_cases q5 : r.r < 0
   ·have ex : decide (r.r < 0) = true := decide_eq_true q5
    have HE := Lib.hid (HNO.out (ril_not (fun h => by omega)))
    clear q5
    go_wp2
    go_ret
    exact ⟨ret_bool (by rw [HE.out]), HBW.out⟩
   have f5 : decide (r.r < 0) = false := decide_eq_false q5
   by_cases q6 : 255 < r.r
   ·have ex : decide (255 < r.r) = true := decide_eq_true q6
    have HE := Lib.hid (HNO.out (ril_not (fun h => by omega)))
    clear q6
    go_wp2
    go_ret
    exact ⟨ret_bool (by rw [HE.out]), HBW.out⟩
   have f6 : decide (255 < r.r) = false := decide_eq_false q6
   have HN2 := Lib.hid (HN.out (ril_iff.2 ⟨⟨by omega, by omega⟩, ⟨by omega, by omega⟩, by omega, by omega⟩))
   clear q1 q2 q3 q4 q5 q6
   go_wp2
   go_roundw
   case rel => exact ⟨i + 1, by omega, by go_num, HN2, HBW, HLW⟩
   case measure => simp [intOf]; omega
  ·obtain rfl : i = p.rs.length := by omega
   have hq2 := hq.out
   rw [List.take_length] at hq2
   have HRA := Lib.hid hq2
   clear hq hq2
   go_wp2_with fail
   clear c0 cl
   go_loopw [5] (fun u wq => ∃ t : Nat, t ≤ p.ts.length ∧ u = .int .i64 t ∧ Hid (∀ l ∈ p.ts.take t, l.length ≤ 256 ∧ ∀ x ∈ l, rightB x = true) ∧ Hid (Below w.heap.size w wq) ∧ Hid (Lies wq w.heap.size 25 (pgC A c B d p))) (fun u _ => p.ts.length - (intOf u).toNat)
   case atStart => exact ⟨0, by omega, rfl, (by show ∀ l ∈ p.ts.take 0, _; simp), hbw, hlw⟩
   case round =>
    clear hbw hlw
    obtain ⟨t, ht, rfl, hq, hbw, hlw⟩ := hrel
    have c1 := (hlw.out.cell 1).trans (show _ = some (Value.slice B p.ts.length d) from rfl)
    have cl := hlw.out.lt
    by_cases hlt : t < p.ts.length
    ·have hii : (t : Int) < (p.ts.length : Int) := by omega
     obtain ⟨l, hl⟩ : ∃ l, p.ts[t]? = some l := ⟨_, List.getElem?_eq_getElem hlt⟩
     obtain ⟨b, off, B2, d2, rfl, g0w, hil⟩ := HH.out.2.at_ hl
     obtain ⟨hc3, hc4⟩ := seq_form hil
     have HG := Lib.hid (fun wx (hx : Below w.heap.size w wx) => (hx.cell (p := ⟨b, off + t, none⟩) (World.block_lt_of_cell? w _ g0w)).trans g0w)
     have g0 := HG.out _ hbw.out
     have gl := World.block_lt_of_cell? _ _ g0
     have HIL := Lib.hid hil
     have HOL := Lib.hid (HOK.out.2 l (List.mem_of_getElem? hl))
     have HN := Lib.hid (fun (h : l.length ≤ 256 ∧ ∀ x ∈ l, rightB x = true) => take_all_next (q := fun l => l.length ≤ 256 ∧ ∀ x ∈ l, rightB x = true) hq.out hl h)
     have HNO := Lib.hid (fun (h : ¬ (l.length ≤ 256 ∧ ∀ x ∈ l, rightB x = true)) => HEN.out (fun hh => h (hh.2.2.2 l (List.mem_of_getElem? hl))))
     clear hq hil hl g0w
     by_cases h256 : 256 < l.length
     ·have HE := Lib.hid (HNO.out (fun h => by have := h.1; omega))
      have e5 : decide ((256 : Int) < (l.length : Int)) = true := decide_eq_true (by omega)
      have e6 : decide (256 < l.length) = true := decide_eq_true h256
      go_wp2
      go_ret
      exact ⟨ret_bool (by rw [HE.out]), hbw.out⟩
     have e5 : decide ((256 : Int) < (l.length : Int)) = false := decide_eq_false (by omega)
     have e6 : decide (256 < l.length) = false := decide_eq_false h256
     go_wp2_with fail
     clear g0 gl c1 cl
     go_loopw [6] (fun u wk => ∃ k : Nat, k ≤ l.length ∧ u = .int .i64 k ∧ Hid (∀ x ∈ l.take k, rightB x = true) ∧ Hid (Below w.heap.size w wk) ∧ Hid (Lies wk w.heap.size 25 (pgC A c (some ⟨b, off, none⟩) d p))) (fun u _ => l.length - (intOf u).toNat)
     case atStart => exact ⟨0, by omega, rfl, (by show ∀ x ∈ l.take 0, _; simp), hbw, hlw⟩
     case round =>
      clear hbw hlw
      obtain ⟨k, hk, rfl, hqk, hbk, hlk⟩ := hrel
      have c1 := (hlk.out.cell 1).trans (show _ = some (Value.slice (some ⟨b, off, none⟩) p.ts.length d) from rfl)
      have cl := hlk.out.lt
      have g0 := HG.out _ hbk.out
      have gl := World.block_lt_of_cell? _ _ g0
      by_cases hkl : k < l.length
      ·have hkk : (k : Int) < (l.length : Int) := by omega
       obtain ⟨x, hx⟩ : ∃ x, l[k]? = some x := ⟨_, List.getElem?_eq_getElem hkl⟩
       obtain ⟨b3, off3, rfl, _, hg⟩ := InsAt.at_ (HIL.out.later hbk.out) hx
       have y0 := hg 0 _ (by decide) rfl
       have y1 := hg 1 _ (by decide) rfl
       have y2 := hg 2 _ (by decide) rfl
       have y3 := hg 3 _ (by decide) rfl
       have y4 := hg 4 _ (by decide) rfl
       have y5 := hg 5 _ (by decide) rfl
       rw [Nat.add_zero] at y0
       obtain ⟨rb, hrb⟩ : ∃ q, rightB x = q := ⟨_, rfl⟩
       have HX := Lib.hid hx
       have HRX := Lib.hid hrb
       have HC := Lib.hid (fun w => hrb ▸ rfRight x w (HOL.out x (List.mem_of_getElem? hx)))
       clear hg hx hrb
       go_wp2_with fail
       refine (HC.out _).mono ?_
       rintro e w4 ⟨rfl, hb4⟩
       have HB4 := Lib.hid (hbk.out.trans (hb4.mono hbk.out.size))
       have HL4 := Lib.hid (hlk.out.below hb4 hlk.out.lt)
       clear hb4 y0 y1 y2 y3 y4 y5 HC c1 cl g0 gl
       cases rb
       case false =>
        have HE := Lib.hid (HNO.out (fun h => by have := h.2 x (List.mem_of_getElem? HX.out); rw [HRX.out] at this; cases this))
        go_wp2
        go_ret
        exact ⟨ret_bool (by rw [HE.out]), HB4.out⟩
       have HQ := Lib.hid (take_all_next (q := fun x => rightB x = true) hqk.out HX.out HRX.out)
       go_wp2
       go_roundw
       case rel => exact ⟨k + 1, by omega, by go_num, HQ, HB4, HL4⟩
       case measure => simp [intOf]; omega
      ·obtain rfl : k = l.length := by omega
       have hqk2 := hqk.out
       rw [List.take_length] at hqk2
       have HN2 := Lib.hid (HN.out ⟨by omega, hqk2⟩)
       clear hqk hqk2
       go_wp2
       go_roundw
       case rel => exact ⟨t + 1, by omega, by go_num, HN2, hbk, hlk⟩
       case measure => simp [intOf]; omega
    ·obtain rfl : t = p.ts.length := by omega
     have hq2 := hq.out
     rw [List.take_length] at hq2
     have HE := Lib.hid (HET.out ⟨by omega, by omega, HRA.out, hq2⟩)
     clear hq hq2
     go_wp2
     go_ret
     exact ⟨ret_bool (by rw [HE.out]), hbw.out⟩
theorem lnrT_full {r : Ri} (h : rilOk r = true) : (lnrT r).toList.isEmpty = false := by
 unfold lnrT
 rw [if_pos h, text_toList]
 unfold lnR
 split <;> rfl
set_option maxHeartbeats 8000000 in
set_option maxRecDepth 100000 in
theorem rfListed10 (p : Pg) (A : Option Addr) (c : Nat) (B : Option Addr) (d : Nat) (w : World) (h : PgAt w A c B d p) (hok : pgOk p) :
  Calls Tryz.prog 16 #[.agg (pgC A c B d p)] w fun e w' => e = .returned (.bool (lsB p)) ∧ Below w.heap.size w w' := by
 obtain ⟨hc1, hc2⟩ := seq_form h.1
 obtain ⟨hd1, hd2⟩ := h.2.form
 have hb0 : Below w.heap.size w (w.alloc (.cells (pgC A c B d p) 25)) := (Below.refl _ _).alloc (Nat.le_refl _) _
 have HH := Lib.hid h
 have HOK := Lib.hid hok
 have HB0 := Lib.hid hb0
 have HL0 := Lib.hid (Lies.made w 25 (pgC A c B d p))
 clear h hb0 hok
 go_enter Tryz.func16, Tryz.ntmps16
 go_upto_region 1 with (fail)
 obtain ⟨g, hg⟩ : ∃ g, g = w.heap.size := ⟨_, rfl⟩
 rw [← hg] at HL0 ⊢
 clear hg
 generalize w.alloc (.cells (pgC A c B d p) 25) = w1 at *
 go_wp2_with fail
 go_loopw [3] (fun u wr => ∃ i : Nat, i ≤ p.rs.length ∧ u = .int .i64 i ∧ Hid (∀ r ∈ p.rs.take i, rilOk r = true) ∧ Hid (Lies wr g 25 (pgC A c B d p)) ∧ Hid (Below w.heap.size w wr)) (fun u _ => p.rs.length - (intOf u).toNat)
 case atStart => exact ⟨0, by omega, rfl, (fun r hr => by simp at hr), HL0.out, HB0.out⟩
 case round =>
  clear HL0 HB0
  obtain ⟨i, hi, rfl, HOKS, HL, HB⟩ := hrel
  have c0 := (HL.out.cell 0).trans (show _ = some (Value.slice A p.rs.length c) from rfl)
  have c1 := (HL.out.cell 1).trans (show _ = some (Value.slice B p.ts.length d) from rfl)
  have cl := HL.out.lt
  by_cases hlt : i < p.rs.length
  ·have hii : (i : Int) < (p.rs.length : Int) := by omega
   obtain ⟨r, hr⟩ : ∃ r, p.rs[i]? = some r := ⟨_, List.getElem?_eq_getElem hlt⟩
   obtain ⟨b, off, rfl, hbl, hg⟩ := RisAt.at_ (HH.out.1.later HB.out) hr
   have g0 := hg 0 _ (by decide) rfl
   have g1 := hg 1 _ (by decide) rfl
   have g2 := hg 2 _ (by decide) rfl
   rw [Nat.add_zero] at g0
   have HI := Lib.hid (rfRing10 r wr)
   have HRM := Lib.hid hr
   clear hg hr
   go_wp2_with fail
   refine HI.out.mono ?_
   rintro e w5 ⟨rfl, hb5⟩
   have HL5 := Lib.hid (HL.out.below hb5 HL.out.lt)
   have HB5 := Lib.hid (HB.out.trans (hb5.mono HB.out.size))
   clear HL HB HI hb5 g0 g1 g2 hbl c0 c1 cl
   by_cases hok : rilOk r = true
   case neg =>
    have hls : lsB p = false := by
     unfold lsB
     rw [Bool.and_eq_false_iff]
     refine .inr ?_
     rw [List.all_eq_false]
     exact ⟨r, List.mem_of_getElem? HRM.out, hok⟩
    have HE := Lib.hid hls
    rw [show lnrT r = ⟨#[]⟩ from if_neg hok]
    clear hls
    go_wp2
    go_ret
    exact ⟨by rw [HE.out]; rfl, HB5.out⟩
   have e1 := lnrT_full hok
   have HOK2 : Hid (∀ y ∈ p.rs.take (i + 1), rilOk y = true) := take_all_next HOKS.out HRM.out hok
   clear hok
   generalize lnrT r = T at *
   go_wp2
   go_roundw
   case rel => exact ⟨i + 1, by omega, by go_num, HOK2, HL5, HB5⟩
   case measure => simp [intOf]; omega
  ·obtain rfl : i = p.rs.length := by omega
   rw [List.take_length] at HOKS
   have HLS : Hid (lsB p = encB p) := by
    show _ = _
    unfold lsB
    rw [List.all_eq_true.2 HOKS.out, Bool.and_true]
   have HW := Lib.hid (rfWritten p A c B d wr (HH.out.later HB.out) HOK.out)
   go_wp2_with fail
   refine HW.out.mono ?_
   rintro e w9 ⟨rfl, hb9⟩
   have HB9 := Lib.hid (HB.out.trans (hb9.mono HB.out.size))
   go_wp2
   go_ret
   exact ⟨by rw [HLS.out]; rfl, HB9.out⟩
section
variable {P : Program} {W : World} {H : Type} {enc : TypeId × Value → H}
theorem trod_slice_cell {t e : TypeId} {n : Nat} {cs : List Value} {y : DataW H × List MemPlace} (ht : P.underlying t = some (.slice e)) (h : DataW.trod enc P W 0 (fun _ => true) true n t cs = some y) :
  ∃ A len cap, cs = [.slice A len cap] ∧ DataW.Trod enc P W 0 (fun _ => true) true t (.slice A len cap) y.1 y.2 := by
 rcases Deep.open_slice ht h with ⟨hcs, _⟩ | ⟨a, len, cap, m, n, D, Pl, hcs, _⟩
 ·subst hcs; exact ⟨none, 0, 0, rfl, n, h⟩
 ·subst hcs; exact ⟨some a, len, cap, rfl, _, h⟩
end
theorem list6v {l : List Value} (h : l.length = 6) : ∃ a b c d e f, l = [a, b, c, d, e, f] := by
 match l, h with
 | [a, b, c, d, e, f], _ => exact ⟨a, b, c, d, e, f, rfl⟩
theorem list3v {l : List Value} (h : l.length = 3) : ∃ a b c, l = [a, b, c] := by
 match l, h with
 | [a, b, c], _ => exact ⟨a, b, c, rfl⟩
section
variable {W : World} {H : Type} {enc : TypeId × Value → H}
set_option maxRecDepth 100000 in
theorem in_open {n : Nat} {cs : List Value} {y : DataW H × List MemPlace} (hl : cs.length = 6) (h : DataW.trod enc Tryz.prog W 0 (fun _ => true) true n 28 cs = some y) : ∃ x : In, cs = inF x ∧ inOk x := by
 obtain ⟨z0, g0, b0⟩ := int_field (i := 0) (k := .i64) Tryz.underlying28 h rfl ⟨Tryz.underlying3, rfl, by kernel_rfl⟩
 obtain ⟨z1, g1, b1⟩ := int_field (i := 1) (k := .i64) Tryz.underlying28 h rfl ⟨Tryz.underlying3, rfl, by kernel_rfl⟩
 obtain ⟨z2, g2, b2⟩ := int_field (i := 2) (k := .i64) Tryz.underlying28 h rfl ⟨Tryz.underlying3, rfl, by kernel_rfl⟩
 obtain ⟨z3, g3, b3⟩ := int_field (i := 3) (k := .i64) Tryz.underlying28 h rfl ⟨Tryz.underlying3, rfl, by kernel_rfl⟩
 obtain ⟨z4, g4, b4⟩ := int_field (i := 4) (k := .i64) Tryz.underlying28 h rfl ⟨Tryz.underlying3, rfl, by kernel_rfl⟩
 obtain ⟨z5, g5, b5⟩ := int_field (i := 5) (k := .u64) Tryz.underlying28 h rfl ⟨Tryz.underlying26, rfl, by kernel_rfl⟩
 have c5 := Go.bounds_u64 b5
 obtain ⟨x0, x1, x2, x3, x4, x5, rfl⟩ := list6v hl
 simp at g0 g1 g2 g3 g4 g5
 subst g0 g1 g2 g3 g4 g5
 refine ⟨⟨z0, z1, z2, z3, z4, z5.toNat⟩, ?_, Go.bounds_i64 b0, Go.bounds_i64 b1, Go.bounds_i64 b2, Go.bounds_i64 b3, Go.bounds_i64 b4, ?_⟩
 ·unfold inF; simp only
  rw [show ((z5.toNat : Nat) : Int) = z5 by omega]
 ·simp only; omega
set_option maxRecDepth 100000 in
theorem ri_open {n : Nat} {cs : List Value} {y : DataW H × List MemPlace} (hl : cs.length = 3) (h : DataW.trod enc Tryz.prog W 0 (fun _ => true) true n 51 cs = some y) : ∃ x : Ri, cs = riF x ∧ riOk x := by
 obtain ⟨z0, g0, b0⟩ := int_field (i := 0) (k := .i64) Tryz.underlying51 h rfl ⟨Tryz.underlying3, rfl, by kernel_rfl⟩
 obtain ⟨z1, g1, b1⟩ := int_field (i := 1) (k := .i64) Tryz.underlying51 h rfl ⟨Tryz.underlying3, rfl, by kernel_rfl⟩
 obtain ⟨z2, g2, b2⟩ := int_field (i := 2) (k := .i64) Tryz.underlying51 h rfl ⟨Tryz.underlying3, rfl, by kernel_rfl⟩
 obtain ⟨x0, x1, x2, rfl⟩ := list3v hl
 simp at g0 g1 g2
 subst g0 g1 g2
 exact ⟨⟨z0, z1, z2⟩, rfl, Go.bounds_i64 b0, Go.bounds_i64 b1, Go.bounds_i64 b2⟩
theorem ins_open {a : Option Addr} {len cap : Nat} {d : DataW H} {p : List MemPlace} (h : DataW.Trod enc Tryz.prog W 0 (fun _ => true) true 47 (.slice a len cap) d p) : ∃ l : List In, l.length = len ∧ InsAt W a cap l ∧ ∀ x ∈ l, inOk x := by
 obtain ⟨l, _, h1, h2, h3⟩ := argOf (f := inF) (sz := 6) (ok := inOk) Tryz.underlying47 (by kernel_rfl) (by omega) (fun n cs y hl h => in_open hl h) h
 subst h1
 exact ⟨l, rfl, h2, h3⟩
theorem ris_open {a : Option Addr} {len cap : Nat} {d : DataW H} {p : List MemPlace} (h : DataW.Trod enc Tryz.prog W 0 (fun _ => true) true 22 (.slice a len cap) d p) : ∃ l : List Ri, l.length = len ∧ RisAt W a cap l ∧ ∀ x ∈ l, riOk x := by
 obtain ⟨l, _, h1, h2, h3⟩ := argOf (f := riF) (sz := 3) (ok := riOk) Tryz.underlying22 (by kernel_rfl) (by omega) (fun n cs y hl h => ri_open hl h) h
 subst h1
 exact ⟨l, rfl, h2, h3⟩
theorem ths_open {a : Option Addr} {len cap : Nat} {d : DataW H} {p : List MemPlace} (h : DataW.Trod enc Tryz.prog W 0 (fun _ => true) true 23 (.slice a len cap) d p) :
  ∃ ts : List (List In), ts.length = len ∧ ThsAt W a cap ts ∧ ∀ l ∈ ts, ∀ x ∈ l, inOk x := by
 obtain ⟨_, rows, hr, hs⟩ := argRows (sz := 1) Tryz.underlying23 (by kernel_rfl) (by omega) h
 obtain ⟨T, hT⟩ := Deep.choose_lt (α := Option Addr × Nat × List In) (n := len) (p := fun i q => rows i = [.slice q.1 q.2.2.length q.2.1] ∧ InsAt W q.1 q.2.1 q.2.2 ∧ ∀ x ∈ q.2.2, inOk x) (fun i hi => by
  obtain ⟨_, n, y, hy⟩ := hr i hi
  obtain ⟨A, l, c, e, ht⟩ := trod_slice_cell Tryz.underlying47 hy
  obtain ⟨q, h1, h2, h3⟩ := ins_open ht
  subst h1
  exact ⟨(A, c, q), e, h2, h3⟩)
 refine ⟨(List.range len).map (fun i => (T i).2.2), by simp, ⟨(List.range len).flatMap rows, ?_, fun i l hl => ?_⟩, fun l hl x hx => ?_⟩
 ·simp only [List.length_map, List.length_range]; exact hs
 ·rw [List.getElem?_map] at hl
  obtain ⟨j, hj, rfl⟩ := Option.map_eq_some_iff.1 hl
  have hi : i < len := by
   have := (List.getElem?_eq_some_iff.1 hj).1
   simpa using this
  rw [List.getElem?_range hi] at hj
  injection hj with hj
  subst hj
  obtain ⟨e, h2, h3⟩ := hT i hi
  refine ⟨(T i).1, (T i).2.1, ?_, h2⟩
  have := flat_get len (fun i hi => (hr i hi).1) i 0 hi (by omega)
  rw [Nat.mul_one, Nat.add_zero, e] at this
  exact this
 ·obtain ⟨i, hi, rfl⟩ := List.mem_map.1 hl
  exact (hT i (List.mem_range.1 hi)).2.2 x hx
structure Pa where
 A : Option Addr
 c : Nat
 B : Option Addr
 d : Nat
 p : Pg
def PaAt (W : World) (z : Pa) : Prop := PgAt W z.A z.c z.B z.d z.p ∧ pgOk z.p
set_option maxRecDepth 100000 in
theorem opened25 {base : Nat} {v : Value} {d : DataW H} {p : List MemPlace}
  (hok : Value.okWide Tryz.prog W .any base 25 v) (h : DataW.Trod enc Tryz.prog W 0 (fun _ => true) true 25 v d p) :
  ∃ z : Pa, v = .agg (pgC z.A z.c z.B z.d z.p) ∧ PaAt W z := by
 obtain ⟨cs, rfl, hl⟩ := WideShapes.okWide_struct Tryz.underlying25 hok
 obtain ⟨n, h⟩ := h
 obtain ⟨xs, m, _, _, hlx, hn, hx⟩ := DataW.trod_struct Tryz.underlying25 h
 have hl2 : cs.toList.length = 2 := by rw [Array.length_toList, hl]; kernel_rfl
 obtain ⟨x0, x1, hx01⟩ : ∃ x0 x1, cs.toList = [x0, x1] := by
  match cs.toList, hl2 with
  | [a, b], _ => exact ⟨a, b, rfl⟩
 have hcs : cs = #[x0, x1] := Array.toList_inj.1 hx01
 subst hcs
 have h0 := hx 0 _ rfl
 have h1 := hx 1 _ rfl
 have hx2 : xs.length = 2 := by rw [hn]; kernel_rfl
 rw [List.getElem?_eq_getElem (by omega)] at h0 h1
 obtain ⟨A, n1, c, e1, t1⟩ := trod_slice_cell Tryz.underlying22 h0
 obtain ⟨B, n2, d2, e2, t2⟩ := trod_slice_cell Tryz.underlying23 h1
 obtain ⟨rs, hr1, hr2, hr3⟩ := ris_open t1
 obtain ⟨ts, ht1, ht2, ht3⟩ := ths_open t2
 subst hr1 ht1
 have E1 : [x0] = [Value.slice A rs.length c] := e1
 have E2 : [x1] = [Value.slice B ts.length d2] := e2
 clear e1 e2 h0 h1 hx hlx h
 simp only [List.cons.injEq, and_true] at E1 E2
 subst E1
 subst E2
 exact ⟨⟨A, c, B, d2, ⟨rs, ts⟩⟩, rfl, ⟨hr2, ht2⟩, hr3, ht3⟩
end
theorem ls_enc {p : Pg} (h : lsB p = true) : encB p = true := by
 unfold lsB at h
 rw [Bool.and_eq_true] at h
 exact h.1
theorem count_next {bs : List UInt8} {k : Nat} {c : UInt8} (h : bs[k]? = some c) : (bs.take (k + 1)).count 10 = (bs.take k).count 10 + if c = 10 then 1 else 0 := by
 rw [List.take_add_one, h, List.count_append]
 by_cases hc : c = 10
 ·subst hc; simp
 ·rw [if_neg hc]; simp [hc]
theorem prTs_next {ts : List (List In)} {i : Nat} {l : List In} (h : ts[i]? = some l) : prTs (ts.take (i + 1)) = prTs (ts.take i) ++ (thrW ++ prIs l) := by
 unfold prTs
 rw [List.take_add_one, h, List.flatMap_append]
 simp
theorem prIs_next {l : List In} {k : Nat} {x : In} (h : l[k]? = some x) : prIs (l.take (k + 1)) = prIs (l.take k) ++ (lnI x ++ [10]) := by
 unfold prIs
 rw [List.take_add_one, h, List.flatMap_append]
 simp
theorem lnsH_next {ts : List (List In)} {i : Nat} {l : List In} (h : ts[i]? = some l) : (lnsH (ts.take (i + 1))).length = (lnsH (ts.take i)).length + (1 + l.length) := by
 unfold lnsH
 rw [List.take_add_one, h, List.flatMap_append, List.length_append]
 simp
 omega
theorem prTs_len5 {ts : List (List In)} (h : ∀ l ∈ ts, l.length ≤ 256) : (prTs ts).length ≤ 60000 * ts.length := by
 have := flat_le (f := fun t => thrW ++ prIs t) (m := 60000) ts (fun x hx => by
  have := prIs_len x
  have := h x hx
  unfold thrW
  simp only [List.length_append, List.length_cons, List.length_nil]; omega)
 unfold prTs; omega
theorem lnsH_len5 : ∀ {ts : List (List In)}, (∀ l ∈ ts, l.length ≤ 256) → (lnsH ts).length ≤ 1000 * ts.length
 | [], _ => by simp [lnsH]
 | t :: ts, h => by
  have h1 := lnsH_len5 (ts := ts) (fun l hl => h l (List.mem_cons_of_mem _ hl))
  have h2 := h t List.mem_cons_self
  have e : (lnsH (t :: ts)).length = 1 + t.length + (lnsH ts).length := by
   unfold lnsH
   rw [List.flatMap_cons, List.length_append, List.length_cons, List.length_map]; omega
  rw [e, List.length_cons]; omega
set_option maxHeartbeats 16000000 in
set_option maxRecDepth 100000 in
theorem lines_walk (z : Pa) (W : World) (h : PaAt W z) (hN : Ld W) :
  Calls Tryz.prog 7 #[.agg (pgC z.A z.c z.B z.d z.p)] W fun e w' => e = .returned (.bool true) ∧ Below W.heap.size W w' := by
 obtain ⟨A, c, B, d, p⟩ := z
 obtain ⟨hp, hok⟩ := h
 replace hp : PgAt W A c B d p := hp
 replace hok : pgOk p := hok
 obtain ⟨hc1, hc2⟩ := seq_form hp.1
 obtain ⟨hd1, hd2⟩ := hp.2.form
 have hb0 : Below W.heap.size W (W.alloc (.cells (pgC A c B d p) 25)) := (Below.refl _ _).alloc (Nat.le_refl _) _
 have l0 := Lies.made W 25 (pgC A c B d p)
 have HP := Lib.hid hp
 have HOK := Lib.hid hok
 have HB := Lib.hid hb0
 have HL := Lib.hid l0
 have HN := Lib.hid hN
 clear hp hok hb0 l0 hN
 go_enter Tryz.func7, Tryz.ntmps7
 go_wp2_with fail
 generalize W.alloc (.cells (pgC A c B d p) 25) = w1 at *
 have c0 := (HL.out.cell 0).trans (show _ = some (Value.slice A p.rs.length c) from rfl)
 have c1 := (HL.out.cell 1).trans (show _ = some (Value.slice B p.ts.length d) from rfl)
 have cl := HL.out.lt
 refine (awake_any _ (HN.out.later HB.out)).mono ?_
 rintro e w2 ⟨rfl, hbm⟩
 replace HB := Lib.hid (HB.out.trans ((hbm).mono HB.out.size))
 replace HL := Lib.hid (HL.out.below hbm HL.out.lt)
 clear c0 c1 cl
 have c0 := (HL.out.cell 0).trans (show _ = some (Value.slice A p.rs.length c) from rfl)
 have c1 := (HL.out.cell 1).trans (show _ = some (Value.slice B p.ts.length d) from rfl)
 have cl := HL.out.lt
 clear hbm
 go_wp2_with fail
 have HF := Lib.hid (fun w (hw : Below W.heap.size W w) => rfFew p 100 A c B d w (HP.out.later hw) (by omega))
 refine (HF.out _ HB.out).mono ?_
 rintro e wf ⟨rfl, hbm⟩
 clear HF
 replace HB := Lib.hid (HB.out.trans ((hbm).mono HB.out.size))
 replace HL := Lib.hid (HL.out.below hbm HL.out.lt)
 clear c0 c1 cl
 have c0 := (HL.out.cell 0).trans (show _ = some (Value.slice A p.rs.length c) from rfl)
 have c1 := (HL.out.cell 1).trans (show _ = some (Value.slice B p.ts.length d) from rfl)
 have cl := HL.out.lt
 clear hbm
 obtain ⟨fb, hfb⟩ : ∃ fb, fewB p 100 = fb := ⟨_, rfl⟩
 have HFB := Lib.hid hfb
 rw [hfb]
 clear hfb
 cases fb
 case false =>
  clear HFB
  go_wp2_with fail
  refine (awake_any _ (HN.out.later HB.out)).mono ?_
  rintro e wz ⟨rfl, hbz⟩
  have hbz := HB.out.trans (hbz.mono HB.out.size)
  go_wp2
  go_ret
  exact ⟨rfl, hbz⟩
 obtain ⟨hf1, hf2, hf3, hf4⟩ := of_decide_eq_true HFB.out
 have HF3 := Lib.hid hf3
 clear hf3 HFB
 go_wp2_with fail
 have HLS := Lib.hid (fun w (hw : Below W.heap.size W w) => rfListed10 p A c B d w (HP.out.later hw) HOK.out)
 refine (HLS.out _ HB.out).mono ?_
 rintro e wl ⟨rfl, hbm⟩
 clear HLS
 replace HB := Lib.hid (HB.out.trans ((hbm).mono HB.out.size))
 replace HL := Lib.hid (HL.out.below hbm HL.out.lt)
 clear c0 c1 cl
 have c0 := (HL.out.cell 0).trans (show _ = some (Value.slice A p.rs.length c) from rfl)
 have c1 := (HL.out.cell 1).trans (show _ = some (Value.slice B p.ts.length d) from rfl)
 have cl := HL.out.lt
 clear hbm
 obtain ⟨lb, hlb⟩ : ∃ lb, lsB p = lb := ⟨_, rfl⟩
 have HLB := Lib.hid hlb
 rw [hlb]
 clear hlb
 cases lb
 case false =>
  clear HLB
  go_wp2_with fail
  refine (awake_any _ (HN.out.later HB.out)).mono ?_
  rintro e wz ⟨rfl, hbz⟩
  have hbz := HB.out.trans (hbz.mono HB.out.size)
  go_wp2
  go_ret
  exact ⟨rfl, hbz⟩
 have HPR := Lib.hid (fun w (hw : Below W.heap.size W w) => print10 p A c B d w (HP.out.later hw) (HN.out.later hw).names (HN.out.later hw).pow)
 have HT := Lib.hid (prn_yes HLB.out)
 rw [HT.out.1, HT.out.2] at HPR
 have hpl := prL_len (ls_enc HLB.out)
 obtain ⟨r8, t8, _, hts⟩ := ls_iff.1 HLB.out
 have HTS := Lib.hid (fun t ht => (hts t ht).1)
 have HRT := Lib.hid (fun t ht x hx => (hts t ht).2 x hx)
 have HTZ : Hid ((textB (prL p)).size = (prL p).length) := textB_size _
 have HTG := Lib.hid (fun (k : Nat) (c : UInt8) (h : (prL p)[k]? = some c) (hk : k < (textB (prL p)).size) => text_get h hk)
 have HCUT : Hid ((textB (prL p)).extract (prRs p.rs).length (prL p).length = textB (prTs p.ts)) := by
  show _ = _
  rw [cut_drop]
  refine congrArg textB ?_
  show List.drop _ (prRs p.rs ++ prTs p.ts) = _
  rw [List.drop_left]
 have HLE : Hid ((prL p).length = (prRs p.rs).length + (prTs p.ts).length) := by
  show (prRs p.rs ++ prTs p.ts).length = _
  rw [List.length_append]
 obtain ⟨T, hT⟩ : ∃ T, T = textB (prL p) := ⟨_, rfl⟩
 have HTG : Hid (∀ (k : Nat) (c : UInt8), (prL p)[k]? = some c → ∀ (hk : k < T.size), (T[k]'hk).toNat = c.toNat) := by rw [hT]; exact HTG.out
 rw [← hT] at HPR HTZ HCUT
 have hTz : T.size ≤ 1000000 := by rw [HTZ.out]; exact hpl
 clear hT HT hpl hts
 go_wp2_with fail
 refine (HPR.out _ HB.out).mono ?_
 rintro e w4 ⟨rfl, hbm⟩
 clear HPR
 replace HB := Lib.hid (HB.out.trans ((hbm).mono HB.out.size))
 replace HL := Lib.hid (HL.out.below hbm HL.out.lt)
 clear c0 c1 cl
 have c0 := (HL.out.cell 0).trans (show _ = some (Value.slice A p.rs.length c) from rfl)
 have c1 := (HL.out.cell 1).trans (show _ = some (Value.slice B p.ts.length d) from rfl)
 have cl := HL.out.lt
 clear hbm
 go_wp2_with fail
 clear c0 c1 cl
 go_loopw [5, 36] (fun v u wr => ∃ i : Nat, i ≤ p.rs.length ∧ v = .int .i64 i ∧ u = .int .i64 i ∧ wr = w4) (fun _ u _ => p.rs.length - (intOf u).toNat)
 case atStart => exact ⟨0, by omega, rfl, rfl, rfl⟩
 case round =>
  obtain ⟨i, hi, rfl, rfl, rfl⟩ := hrel
  by_cases hlt : i < p.rs.length
  ·have hii : (i : Int) < (p.rs.length : Int) := by omega
   go_wp2
   go_roundw
   case rel => exact ⟨i + 1, by omega, by go_num, by go_num, trivial⟩
   case measure => simp [intOf]; omega
  ·obtain rfl : i = p.rs.length := by omega
   have c1 := (HL.out.cell 1).trans (show _ = some (Value.slice B p.ts.length d) from rfl)
   have cl := HL.out.lt
   obtain ⟨RL, hRL⟩ : ∃ n, n = p.rs.length := ⟨_, rfl⟩
   have HRL := Lib.hid hRL
   rw [← hRL] at r8 ⊢
   clear hRL
   go_wp2_with fail
   clear c1 cl
   go_loopw [5, 6, 44] (fun v sw u wr => ∃ i : Nat, i ≤ p.ts.length ∧ v = .int .i64 ((RL + (lnsH (p.ts.take i)).length : Nat) : Int) ∧ sw = .string (textB (prTs (p.ts.take i))) ∧ u = .int .i64 i ∧ Hid (Below W.heap.size W wr)) (fun _ _ u _ => p.ts.length - (intOf u).toNat)
   case atStart => exact ⟨0, by omega, rfl, rfl, rfl, HB⟩
   case round =>
    clear HL HB
    obtain ⟨i, hi, rfl, rfl, rfl, HB⟩ := hrel
    have hpt : (prTs (p.ts.take i)).length ≤ 600000 := by
     have h1 := prTs_len5 (ts := p.ts.take i) (fun l hl => HTS.out l (List.mem_of_mem_take hl))
     rw [List.length_take] at h1
     omega
    have hln : (lnsH (p.ts.take i)).length ≤ 600000 := by
     have h1 := lnsH_len5 (ts := p.ts.take i) (fun l hl => HTS.out l (List.mem_of_mem_take hl))
     rw [List.length_take] at h1
     omega
    by_cases hlt : i < p.ts.length
    ·have hii : (i : Int) < (p.ts.length : Int) := by omega
     obtain ⟨l, hl⟩ : ∃ l, p.ts[i]? = some l := ⟨_, List.getElem?_eq_getElem hlt⟩
     obtain ⟨b, off, B2, d2, rfl, g0, hil⟩ := HP.out.2.at_ hl
     have hbl := World.block_lt_of_cell? W _ g0
     have hll := HTS.out l (List.mem_of_getElem? hl)
     have G0 := (HB.out.cell hbl).trans g0
     have HIL := Lib.hid hil
     have HRX := Lib.hid (HRT.out l (List.mem_of_getElem? hl))
     have HPN := Lib.hid (prTs_next hl)
     have HLN := Lib.hid (lnsH_next hl)
     have hbw := Nat.lt_of_lt_of_le hbl HB.out.size
     obtain ⟨hd3, hd4⟩ := seq_form hil
     obtain ⟨PS, hPS⟩ : ∃ S, S = prTs (p.ts.take i) := ⟨_, rfl⟩
     obtain ⟨NS, hNS⟩ : ∃ S, S = (lnsH (p.ts.take i)).length := ⟨_, rfl⟩
     rw [← hPS] at hpt HPN ⊢
     rw [← hNS] at hln HLN ⊢
     have hpsz : (textB PS).size ≤ 600000 := by rw [textB_size]; exact hpt
     have HS0 : Hid (textB PS ++ ⟨#[116, 104, 114, 101, 97, 100, 10]⟩ = textB (PS ++ (thrW ++ prIs (l.take 0)))) := by
      show _ = _
      rw [show (⟨#[116, 104, 114, 101, 97, 100, 10]⟩ : ByteArray) = textB thrW from rfl, text_append, List.take_zero]
      rfl
     have z1 : ¬ 9223372036854775807 < (textB PS).size + 7 := by omega
     clear g0 hil hl hPS hNS
     obtain ⟨S0, hS0⟩ : ∃ S, S = textB (PS ++ (thrW ++ prIs (l.take 0))) := ⟨_, rfl⟩
     rw [← hS0] at HS0
     have HS00 := Lib.hid hS0
     clear hS0
     go_wp2_with fail
     rw [HS0.out]
     clear G0 z1
     go_loopw [5, 6, 54] (fun v sw u wr => ∃ k : Nat, k ≤ l.length ∧ v = .int .i64 ((RL + NS + 1 + k : Nat) : Int) ∧ sw = .string (textB (PS ++ (thrW ++ prIs (l.take k)))) ∧ u = .int .i64 k ∧ Hid (Below W.heap.size W wr)) (fun _ _ u _ => l.length - (intOf u).toNat)
     case atStart => exact ⟨0, by omega, by go_num, by rw [HS00.out], rfl, HB⟩
     case round =>
      clear HB
      obtain ⟨k, hk, rfl, rfl, rfl, HB⟩ := hrel
      by_cases hkl : k < l.length
      ·have hkk : (k : Int) < (l.length : Int) := by omega
       obtain ⟨x, hx⟩ : ∃ x, l[k]? = some x := ⟨_, List.getElem?_eq_getElem hkl⟩
       obtain ⟨b3, o3, rfl, hb3, hg⟩ := HIL.out.at_ hx
       have y0 := (HB.out.cell hb3).trans (hg 0 _ (by decide) rfl)
       have y1 := (HB.out.cell hb3).trans (hg 1 _ (by decide) rfl)
       have y2 := (HB.out.cell hb3).trans (hg 2 _ (by decide) rfl)
       have y3 := (HB.out.cell hb3).trans (hg 3 _ (by decide) rfl)
       have y4 := (HB.out.cell hb3).trans (hg 4 _ (by decide) rfl)
       have y5 := (HB.out.cell hb3).trans (hg 5 _ (by decide) rfl)
       rw [Nat.add_zero] at y0
       have yl := Nat.lt_of_lt_of_le hb3 HB.out.size
       have hrx := HRX.out x (List.mem_of_getElem? hx)
       have HPX := Lib.hid (prIs_next hx)
       have hlx := lnI_len x
       have HL1 : Hid (lnT x = textB (lnI x) ∧ lnE x = 0) := by
        show _ ∧ _
        unfold lnT lnE
        rw [hrx]
        exact ⟨if_pos rfl, if_pos rfl⟩
       have HLI := Lib.hid (fun w (hw : Below W.heap.size W w) => line_any x w (HN.out.later hw).names (HN.out.later hw).pow)
       rw [HL1.out.1, HL1.out.2] at HLI
       have hpi := prIs_len (l.take k)
       rw [List.length_take] at hpi
       have HSN : Hid (textB (PS ++ (thrW ++ prIs (l.take k))) ++ (textB (lnI x) ++ ⟨#[10]⟩) = textB (PS ++ (thrW ++ prIs (l.take (k + 1))))) := by
        show _ = _
        rw [show (⟨#[10]⟩ : ByteArray) = textB [10] from rfl, text_append, text_append, HPX.out]
        refine congrArg textB ?_
        simp
       obtain ⟨S, hS⟩ : ∃ S, S = textB (PS ++ (thrW ++ prIs (l.take k))) := ⟨_, rfl⟩
       have hSz : S.size ≤ 700000 := by
        rw [hS, textB_size, List.length_append, List.length_append]
        unfold thrW
        simp only [List.length_cons, List.length_nil]; omega
       obtain ⟨X, hX⟩ : ∃ S, S = textB (lnI x) := ⟨_, rfl⟩
       have hXz : X.size ≤ 1000 := by rw [hX, textB_size]; omega
       rw [← hS] at HSN ⊢
       rw [← hX] at HSN HLI
       have z1 : ¬ 9223372036854775807 < X.size + 1 := by omega
       have z2 : ¬ 9223372036854775807 < S.size + (X.size + 1) := by omega
       clear hg hx hrx HPX hlx HL1 hpi hS hX
       go_upto_region 17 with (fail)
       have hbx : Below wr.heap.size wr (wr.alloc (.cells (inC x) 28)) := (Below.refl _ _).alloc (Nat.le_refl _) _
       have HX := Lib.hid (Lies.made wr 28 (inC x))
       replace HB := Lib.hid (HB.out.trans (hbx.mono HB.out.size))
       clear hbx y0 y1 y2 y3 y4 y5 yl
       generalize wr.heap.size = n5 at *
       generalize wr.alloc (.cells (inC x) 28) = w5 at *
       have i0 := (HX.out.cell 0).trans (show _ = some (Value.int .i64 x.op) from rfl)
       have i1 := (HX.out.cell 1).trans (show _ = some (Value.int .i64 x.a) from rfl)
       have i2 := (HX.out.cell 2).trans (show _ = some (Value.int .i64 x.b) from rfl)
       have i3 := (HX.out.cell 3).trans (show _ = some (Value.int .i64 x.c) from rfl)
       have i4 := (HX.out.cell 4).trans (show _ = some (Value.int .i64 x.d) from rfl)
       have i5 := (HX.out.cell 5).trans (show _ = some (Value.int .u64 (x.k : Int)) from rfl)
       have il := HX.out.lt
       go_wp2_with fail
       refine (HLI.out _ HB.out).mono ?_
       rintro e w6 ⟨rfl, hbm⟩
       clear i0 i1 i2 i3 i4 i5 il HX HLI
       replace HB := Lib.hid (HB.out.trans (hbm.mono HB.out.size))
       clear hbm
       go_wp2
       go_roundw
       case rel => exact ⟨k + 1, by omega, by go_num, by rw [HSN.out], by go_num, HB⟩
       case measure => simp [intOf]; omega
      ·obtain rfl : k = l.length := by omega
       have HE1 : Hid (textB (PS ++ (thrW ++ prIs (l.take l.length))) = textB (prTs (p.ts.take (i + 1)))) := by show _ = _; rw [List.take_length, HPN.out]
       rw [HE1.out]
       go_wp2
       go_roundw
       case rel => exact ⟨i + 1, by omega, by rw [HLN.out]; go_num, rfl, by go_num, HB⟩
       case measure => simp [intOf]; omega
    ·obtain rfl : i = p.ts.length := by omega
     rw [List.take_length] at hpt hln ⊢
     have HCNT := Lib.hid (prL_count HLB.out)
     have HUZ : Hid ((textB (prTs p.ts)).size = (prTs p.ts).length) := textB_size _
     obtain ⟨U, hU⟩ : ∃ U, U = textB (prTs p.ts) := ⟨_, rfl⟩
     rw [← hU] at HCUT HUZ ⊢
     rw [← HRL.out] at HCNT
     obtain ⟨N, hN⟩ : ∃ N, N = RL + (lnsH p.ts).length := ⟨_, rfl⟩
     rw [← hN] at HCNT ⊢
     obtain ⟨a, ha⟩ : ∃ a, a = (prRs p.rs).length := ⟨_, rfl⟩
     have hTa : T.size = a + U.size := by rw [HTZ.out, HUZ.out, ha, HLE.out]
     have hcut : T.extract a T.size = U := by rw [HTZ.out, ha]; exact HCUT.out
     have HTa := Lib.hid hTa
     have HCT := Lib.hid hcut
     have hcN : N ≤ 1000000 := by omega
     clear hU hN ha hTa hcut HCUT HUZ HLE hpt hln HRL
     go_wp2_with fail
     go_loopw [13, 75] (fun v u wq => ∃ k : Nat, k ≤ T.size ∧ u = .int .i64 k ∧ v = .int .i64 ((((prL p).take k).count 10 : Nat) : Int) ∧ wq = wr) (fun _ u _ => T.size - (intOf u).toNat)
     case atStart => exact ⟨0, by omega, rfl, rfl, rfl⟩
     case round =>
      obtain ⟨k, hk, rfl, rfl, rfl⟩ := hrel
      by_cases hlt : k < T.size
      ·have hki : (k : Int) < (T.size : Int) := by omega
       obtain ⟨c2, hc2⟩ : ∃ c2, (prL p)[k]? = some c2 := ⟨_, List.getElem?_eq_getElem (by have := HTZ.out; omega)⟩
       have hx0 := HTG.out k c2 hc2 hlt
       have HCN := Lib.hid (count_next hc2)
       have hcb : ((prL p).take k).count 10 ≤ 1000000 := by
        have h1 := @List.count_le_length _ _ (10 : UInt8) ((prL p).take k)
        rw [List.length_take] at h1
        have h2 := HTZ.out
        omega
       obtain ⟨M, hM⟩ : ∃ N, N = ((prL p).take k).count 10 := ⟨_, rfl⟩
       rw [← hM] at hcb HCN ⊢
       clear hM
       by_cases h10 : c2 = 10
       ·subst h10
        replace hx0 : (T[k]'hlt).toNat = 10 := hx0
        have HC2 : Hid (((prL p).take (k + 1)).count 10 = M + 1) := HCN.out
        clear hc2 HCN
        go_wp2
        go_roundw
        case rel => exact ⟨k + 1, by omega, by go_num, by rw [HC2.out]; go_num, trivial⟩
        case measure => simp [intOf]; omega
       ·have HC2 : Hid (((prL p).take (k + 1)).count 10 = M) := HCN.out.trans (by rw [if_neg h10, Nat.add_zero])
        obtain ⟨x, hx⟩ : ∃ x, c2.toNat = x := ⟨_, rfl⟩
        have hxne : x ≠ 10 := fun e => h10 (UInt8.toNat_inj.1 (by rw [hx, e]; rfl))
        rw [hx] at hx0
        have e2 : ((x : Int) == (10 : Int)) = false := by rw [beq_eq_false_iff_ne]; omega
        have e3 : (x == 10) = false := by rw [beq_eq_false_iff_ne]; exact hxne
        clear hc2 h10 hx hxne HCN
        go_wp2
        go_roundw
        case rel => exact ⟨k + 1, by omega, by go_num, by rw [HC2.out], trivial⟩
        case measure => simp [intOf]; omega
      ·obtain rfl : k = T.size := by omega
       have hta : (prL p).take T.size = prL p := by rw [HTZ.out, List.take_length]
       rw [hta, HCNT.out]
       have hge : ((U.size : Nat) : Int) ≤ (T.size : Int) := by have := HTa.out; omega
       have hsub : ((T.size : Nat) : Int) - (U.size : Int) = (a : Int) := by have := HTa.out; omega
       have hal : (a : Int) ≤ (T.size : Int) := by have := HTa.out; omega
       have hal2 : a ≤ T.size := by have := HTa.out; omega
       have hcut := HCT.out
       clear hta HTG
       go_wp2_with fail
       go_ret
       exact ⟨rfl, HB.out⟩
end Go.Proofs.YtcpgneimagmknaaGreatDoor
