import Derived.WalkKit
import Derived.ProofKit
import Derived.Lib.Hide
import Derived.Lib.AppendStr
import Derived.Lib.SlBytesRow
import Derived.Laws.AppendOwnNone
import Derived.Deep.AppendLies
import Derived.Deep.Draws
import Derived.BigQuiet
import Derived.Deep.QuietTactic
import Derived.Deep.RegionWith
import Derived.OpenShut
import Derived.Outline
import Derived.Deep.Slices
import Derived.ChangeSame
import Derived.Laws.IdiomStrings
import Derived.SliceStrings
import Derived.Laws.DeepStrings4
import Derived.SizedLaws
import Derived.Laws.OwnMore
import Derived.Test.YtmadgdmiipgjoaaGreatRows
import Derived.Deep.OwnRows
import Derived.Laws.StructEq
import Derived.Deep.DeepCutAuto
import Derived.IntWalk
import Derived.Lib.BufferRead
import Derived.Laws.BitsAllLaws
import Derived.Laws.Bits64
import Derived.Laws.Bits64b
import Derived.Deep.RegionHeld3
import Derived.Laws.DeepNot64
import Derived.Deep.MidRow
import Derived.RegionTactic
import Derived.StillTailTactics
import Derived.Deep.RegionLaw
import Derived.Laws.CopyOwn
import Derived.Deep.RegionHeld
import Derived.ShutString
import Derived.ChangeOld
import Derived.Below
import Derived.Test.YtmadgdmiipgjoaaGreatZz11
namespace Go.Proofs.YtmadgdmiipgjoaaGreat
open Go.RowKit
set_option linter.unusedVariables false
set_option linter.unusedSimpArgs false
section
variable {P : Program} {W : World} {H : Type} {enc : TypeId × Value → H}
theorem argSlice_of {t e : TypeId} {a : Option Addr} {len cap sz : Nat} {d : DataW H} {p : List MemPlace} (ht : P.underlying t = some (.slice e)) (hc : P.cellsOf e = sz) (hsz : 0 < sz)
  (h : DataW.Trod enc P W 0 (fun _ => true) true t (.slice a len cap) d p) :
  len ≤ cap ∧ cap ≤ maxLen ∧ ∃ rows : Nat → List Value, ∀ i, i < len → (rows i).length = sz ∧ (∃ n y, DataW.trod enc P W 0 (fun _ => true) true n e (rows i) = some y) ∧
   ∃ b off, a = some ⟨b, off, none⟩ ∧ b < W.heap.size ∧ ∀ j, j < sz → W.cell? ⟨b, off + i * sz + j, none⟩ = (rows i)[j]? := by
 obtain ⟨fuel, hf⟩ := h
 rcases Deep.open_slice ht hf with ⟨hcs, _⟩ | ⟨x, l, c, m, n, D, Pl, hcs, _, hl, hm, hmm, _, hx⟩
 ·simp [Value.cells] at hcs
  obtain ⟨rfl, rfl, rfl⟩ := hcs
  exact ⟨by omega, by unfold maxLen; omega, fun _ => [], fun i hi => by omega⟩
 ·simp [Value.cells] at hcs
  obtain ⟨rfl, rfl, rfl⟩ := hcs
  simp at hmm
  subst hmm
  refine ⟨hl, hm, ?_⟩
  obtain ⟨rows, hr⟩ := Deep.choose_lt (α := List Value) (n := len) (p := fun i cs => W.cells? 0 (x.add (i * P.cellsOf e)) (P.cellsOf e) = some cs ∧ DataW.trod enc P W 0 (fun _ => true) true n e cs = some (D i, Pl i)) (fun i hi => hx i (by omega))
  refine ⟨rows, fun i hi => ?_⟩
  obtain ⟨h1, h2⟩ := hr i hi
  obtain ⟨h01, _⟩ := hr 0 (by omega)
  rw [hc] at h1 h01
  obtain ⟨_, g2, g3⟩ := World.cells?_some h1
  obtain ⟨_, g02, g03⟩ := World.cells?_some h01
  have z := g03 0 hsz
  rw [List.getElem?_eq_getElem (by omega), Nat.zero_mul] at z
  obtain ⟨b, off, spot⟩ := x
  have hlt := World.block_lt_of_cell? W _ z
  have hs := World.cell?_spot z
  simp [Addr.add] at hlt hs
  subst hs
  refine ⟨g2, ⟨n, _, h2⟩, b, off, rfl, hlt, fun j hj => ?_⟩
  have := g3 j hj
  rwa [addr_plus, addr_plus] at this
end
theorem flat_length {rows : Nat → List Value} {sz : Nat} : ∀ n, (∀ i, i < n → (rows i).length = sz) → ((List.range n).flatMap rows).length = n * sz
 | 0, _ => by simp
 | n + 1, h => by
  rw [List.range_succ, List.flatMap_append, List.length_append, flat_length n (fun i hi => h i (by omega))]
  simp [h n (by omega), Nat.add_mul]
theorem flat_get {rows : Nat → List Value} {sz : Nat} : ∀ n, (∀ i, i < n → (rows i).length = sz) → ∀ i j, i < n → j < sz → ((List.range n).flatMap rows)[i * sz + j]? = (rows i)[j]?
 | 0, _, i, j, hi, _ => by omega
 | n + 1, h, i, j, hi, hj => by
  have hl := flat_length n (fun i hi => h i (by omega))
  rw [List.range_succ, List.flatMap_append]
  by_cases e : i = n
  ·subst e
   rw [List.getElem?_append_right (by omega), hl, Nat.add_sub_cancel_left]
   simp
  ·have hm : i * sz + sz ≤ n * sz := by
    have := Nat.mul_le_mul_right sz (show i + 1 ≤ n by omega)
    rw [Nat.add_mul] at this; omega
   rw [List.getElem?_append_left (by omega)]
   exact flat_get n (fun i hi => h i (by omega)) i j (by omega) hj
section
variable {P : Program} {W : World} {H : Type} {enc : TypeId × Value → H}
theorem argRows {t e : TypeId} {a : Option Addr} {len cap sz : Nat} {d : DataW H} {p : List MemPlace} (ht : P.underlying t = some (.slice e)) (hc : P.cellsOf e = sz) (hsz : 0 < sz)
  (h : DataW.Trod enc P W 0 (fun _ => true) true t (.slice a len cap) d p) :
  (a = none → len = 0 ∧ cap = 0) ∧ ∃ rows : Nat → List Value, (∀ i, i < len → (rows i).length = sz ∧ ∃ n y, DataW.trod enc P W 0 (fun _ => true) true n e (rows i) = some y) ∧ SeqS W sz (.slice a len cap) len ((List.range len).flatMap rows) := by
 have hn : a = none → len = 0 ∧ cap = 0 := by
  obtain ⟨fuel, hf⟩ := h
  rcases Deep.open_slice ht hf with ⟨hcs, _⟩ | ⟨x, l, c, m, n, D, Pl, hcs, _⟩
  ·simp [Value.cells] at hcs
   exact fun _ => hcs.2
  ·simp [Value.cells] at hcs
   intro ha; rw [ha] at hcs; exact absurd hcs.1 (by simp)
 obtain ⟨h1, h2, rows, hr⟩ := argSlice_of ht hc hsz h
 refine ⟨hn, rows, fun i hi => ⟨(hr i hi).1, (hr i hi).2.1⟩, ?_⟩
 have hl := flat_length (rows := rows) (sz := sz) len (fun i hi => (hr i hi).1)
 refine ⟨hl, a, cap, rfl, h1, h2, fun ha => (hn ha).2, fun k u hu => ?_⟩
 have hk : k < len * sz := by rw [← hl]; exact (List.getElem?_eq_some_iff.1 hu).1
 have hi : k / sz < len := (Nat.div_lt_iff_lt_mul hsz).2 hk
 have hj : k % sz < sz := Nat.mod_lt _ hsz
 have hkk : k / sz * sz + k % sz = k := by rw [Nat.mul_comm]; exact Nat.div_add_mod k sz
 have hg := flat_get (rows := rows) (sz := sz) len (fun i hi => (hr i hi).1) (k / sz) (k % sz) hi hj
 rw [hkk, hu] at hg
 obtain ⟨_, _, b, off, ea, _, hc⟩ := hr (k / sz) hi
 refine ⟨b, off, ea, ?_⟩
 have := hc (k % sz) hj
 rw [Nat.add_assoc, hkk] at this
 rw [this, ← hg]
end
theorem flatMap_congr_range {α : Type} {f g : Nat → List α} : ∀ n, (∀ i, i < n → f i = g i) → (List.range n).flatMap f = (List.range n).flatMap g
 | 0, _ => rfl
 | n + 1, h => by
  rw [List.range_succ, List.flatMap_append, List.flatMap_append, flatMap_congr_range n (fun i hi => h i (by omega))]
  simp [h n (by omega)]
section
variable {α : Type} {f : α → List Value} {sz : Nat}
theorem range_rows (g : Nat → α) (n : Nat) : (List.range n).flatMap (fun i => f (g i)) = rowsOf f ((List.range n).map g) := by unfold rowsOf; rw [List.flatMap_map]
end
section
variable {P : Program} {W : World} {H : Type} {enc : TypeId × Value → H}
def IntField (P : Program) (k : IntKind) (i : Nat) (f : Field) : Prop := P.underlying f.type = some (.int k) ∧ f.offset = i ∧ P.cellsOf f.type = 1
theorem int_field {e : TypeId} {fs : Array Field} {n : Nat} {cs : List Value} {y : DataW H × List MemPlace} (he : P.underlying e = some (.struct fs)) (h : DataW.trod enc P W 0 (fun _ => true) true n e cs = some y)
  {i : Nat} {f : Field} {k : IntKind} (hf : fs[i]? = some f) (hk : IntField P k i f) : ∃ z, cs[i]? = some (.int k z) ∧ (Lit.int k z).wf = true := by
 obtain ⟨xs, m, _, _, hl, hn, hx⟩ := DataW.trod_struct he h
 obtain ⟨k1, k2, k3⟩ := hk
 have := hx i f hf
 rw [k2, k3] at this
 have hi : i < xs.length := by rw [hn]; exact (Array.getElem?_eq_some_iff.1 hf).1
 rw [List.getElem?_eq_getElem hi] at this
 obtain ⟨z, e1, _, e2⟩ := DataW.trod_int k1 this
 refine ⟨z, ?_, e2⟩
 have e3 : ((cs.drop i).take 1)[0]? = some (.int k z) := by rw [e1]; rfl
 rw [List.getElem?_take, if_pos (by decide), List.getElem?_drop] at e3
 exact e3
def ArgOf {α : Type} (f : α → List Value) (sz : Nat) (ok : α → Prop) (w : World) (a : Option Addr) (len cap : Nat) (l : List α) : Prop :=
 (a = none → len = 0 ∧ cap = 0) ∧ l.length = len ∧ SeqS w sz (.slice a len cap) len (rowsOf f l) ∧ ∀ x ∈ l, ok x
theorem argOf {α : Type} [Inhabited α] {f : α → List Value} {sz : Nat} {ok : α → Prop} {t e : TypeId} {a : Option Addr} {len cap : Nat} {d : DataW H} {p : List MemPlace} (ht : P.underlying t = some (.slice e)) (hc : P.cellsOf e = sz) (hsz : 0 < sz)
  (hopen : ∀ n cs y, cs.length = sz → DataW.trod enc P W 0 (fun _ => true) true n e cs = some y → ∃ x, cs = f x ∧ ok x)
  (h : DataW.Trod enc P W 0 (fun _ => true) true t (.slice a len cap) d p) : ∃ l, ArgOf f sz ok W a len cap l := by
 obtain ⟨h1, rows, h2, h3⟩ := argRows (sz := sz) ht hc hsz h
 obtain ⟨z, hz⟩ := Deep.choose_lt (α := α) (n := len) (p := fun i q => rows i = f q ∧ ok q) (fun i hi => by
  obtain ⟨g1, n, y, g2⟩ := h2 i hi
  exact hopen n _ y g1 g2)
 have he : (List.range len).flatMap rows = rowsOf f ((List.range len).map z) := by
  rw [← range_rows]
  exact flatMap_congr_range len (fun i hi => (hz i hi).1)
 rw [he] at h3
 refine ⟨(List.range len).map z, h1, by simp, h3, fun q hq => ?_⟩
 obtain ⟨i, hi, rfl⟩ := List.mem_map.1 hq
 exact (hz i (List.mem_range.1 hi)).2
end
theorem owned_empty {w : World} {B : Nat} (e : TypeId) (sz : Nat) (hB : B ≤ w.heap.size) : (w.alloc (.cells #[] e)).ownsRow B e sz (.slice (some ⟨w.heap.size, 0, none⟩) 0 0) 0 [] :=
 World.ownsRow_made (base := B) (e := e) (size := sz) w #[] 0 hB (by unfold maxLen; omega) (by simp)
theorem list5v {l : List Value} (h : l.length = 5) : ∃ a b c d e, l = [a, b, c, d, e] := by
 match l, h with
 | [a, b, c, d, e], _ => exact ⟨a, b, c, d, e, rfl⟩
section
variable {W : World} {H : Type} {enc : TypeId × Value → H}
set_option maxRecDepth 100000 in
theorem ev_open {n : Nat} {cs : List Value} {y : DataW H × List MemPlace} (hl : cs.length = 5) (h : DataW.trod enc Tryz.prog W 0 (fun _ => true) true n 36 cs = some y) : ∃ x : Ev, cs = evF x ∧ evOk x := by
 obtain ⟨z0, g0, b0⟩ := int_field (i := 0) (k := .i64) Tryz.underlying36 h rfl ⟨Tryz.underlying3, rfl, by kernel_rfl⟩
 obtain ⟨z1, g1, b1⟩ := int_field (i := 1) (k := .i64) Tryz.underlying36 h rfl ⟨Tryz.underlying3, rfl, by kernel_rfl⟩
 obtain ⟨z2, g2, b2⟩ := int_field (i := 2) (k := .i64) Tryz.underlying36 h rfl ⟨Tryz.underlying3, rfl, by kernel_rfl⟩
 obtain ⟨z3, g3, b3⟩ := int_field (i := 3) (k := .u64) Tryz.underlying36 h rfl ⟨Tryz.underlying34, rfl, by kernel_rfl⟩
 obtain ⟨z4, g4, b4⟩ := int_field (i := 4) (k := .u64) Tryz.underlying36 h rfl ⟨Tryz.underlying34, rfl, by kernel_rfl⟩
 have c3 := Go.bounds_u64 b3
 have c4 := Go.bounds_u64 b4
 obtain ⟨x0, x1, x2, x3, x4, rfl⟩ := list5v hl
 simp at g0 g1 g2 g3 g4
 subst g0 g1 g2 g3 g4
 refine ⟨⟨z0, z1, z2, z3.toNat, z4.toNat⟩, ?_, Go.bounds_i64 b0, Go.bounds_i64 b1, Go.bounds_i64 b2, ?_, ?_⟩
 ·unfold evF; simp only
  rw [show ((z3.toNat : Nat) : Int) = z3 by omega, show ((z4.toNat : Nat) : Int) = z4 by omega]
 ·simp only; omega
 ·simp only; omega
def EvArg (w : World) (a : Option Addr) (len cap : Nat) (l : List Ev) : Prop := l.length = len ∧ EvsAt w a cap l ∧ ∀ x ∈ l, evOk x
theorem opened22 {base : Nat} {a : Option Addr} {len cap : Nat} {d : DataW H} {p : List MemPlace}
  (_ : Value.okWide Tryz.prog W .any base 22 (.slice a len cap)) (h : DataW.Trod enc Tryz.prog W 0 (fun _ => true) true 22 (.slice a len cap) d p) : ∃ l : List Ev, EvArg W a len cap l := by
 obtain ⟨l, _, h1, h2, h3⟩ := argOf (f := evF) (sz := 5) (ok := evOk) Tryz.underlying22 (by kernel_rfl) (by omega) (fun n cs y hl h => ev_open hl h) h
 subst h1
 exact ⟨l, rfl, h2, h3⟩
end
theorem evF_one (x : Ev) : ∀ u ∈ evF x, u.oneCell' = true := fun u hu => by
 unfold evF at hu
 simp only [List.mem_cons, List.not_mem_nil, or_false] at hu
 rcases hu with rfl | rfl | rfl | rfl | rfl <;> rfl
theorem evFs_one (l : List Ev) : ∀ u ∈ rowsOf evF l, u.oneCell' = true := fun u hu => by
 obtain ⟨x, _, h⟩ := rowsOf_mem hu
 exact evF_one x u h
theorem strV_ok {z : List Ev} (h : (chE z).2 = 0) : strV z = strS z := by unfold strV; rw [if_pos h]
set_option maxHeartbeats 8000000 in
set_option maxRecDepth 100000 in
theorem prints_walk (a : Option Addr) (len cap : Nat) (z : List Ev) (W : World) (h : EvArg W a len cap z) :
  Calls Tryz.prog 3 #[.slice a len cap] W fun e w' => e = .returned (.bool true) ∧ Below W.heap.size W w' := by
 obtain ⟨rfl, hz, hok⟩ := h
 obtain ⟨A', c', e', h1, h2, _⟩ := hz.form
 simp only [Value.slice.injEq, true_and] at e'
 obtain ⟨rfl, rfl⟩ := e'
 unfold maxLen at h2
 have HZ := Lib.hid (fun (q : World) (hq : Below W.heap.size W q) => SeqS.later hz hq)
 have HB := Lib.hid (Below.refl W.heap.size W)
 by_cases hl : 120 < z.length
 ·have e1 : decide (120 < z.length) = true := decide_eq_true hl
  have e2 : decide ((120 : Int) < (z.length : Int)) = true := decide_eq_true (by omega)
  clear hz hok
  go_enter Tryz.func3, Tryz.ntmps3
  go_wp2_with fail
  refine (awake21 W).mono ?_
  rintro e w1 ⟨rfl, hb1⟩
  replace HB := Lib.hid (HB.out.trans (hb1.mono HB.out.size))
  clear hb1
  go_wp2_with fail
  refine (awake21 w1).mono ?_
  rintro e w2 ⟨rfl, hb2⟩
  replace HB := Lib.hid (HB.out.trans (hb2.mono HB.out.size))
  clear hb2
  go_wp2
  go_ret
  exact ⟨rfl, HB.out⟩
 have e1 : decide (120 < z.length) = false := decide_eq_false hl
 have e2 : decide ((120 : Int) < (z.length : Int)) = false := decide_eq_false (by omega)
 have HRC := Lib.hid (fun A c w h => rfCheck15 z A c w h)
 have HST := Lib.hid (fun A c w h => chunkStreams z A c w h hok)
 have HPR := Lib.hid (fun A c w h => chunkPrint z A c w h hok)
 have HRS := Lib.hid (fun (hc : (chE z).2 = 0) w h => (by have := refStreams21 z a cap w h (chE_zero hc).2 hok (chE_zero hc).1; rw [← strV_ok hc] at this; exact this : Calls Tryz.prog 10 #[.slice a z.length cap] w fun e w' => e = .returned (.string (textB (strV z))) ∧ Below w.heap.size w w'))
 have HRP := Lib.hid (fun (hc : (chE z).2 = 0) w h => (by have := refPrint21 z a cap w h (chE_zero hc).2 hok (chE_zero hc).1; rw [← prV_ok hc] at this; exact this : Calls Tryz.prog 11 #[.slice a z.length cap] w fun e w' => e = .returned (.string (textB (prV z))) ∧ Below w.heap.size w w'))
 have HN := Lib.hid (fun (hc : (chE z).2 ≠ 0) => And.intro (show textB (strV z) = ⟨#[]⟩ by unfold strV; rw [if_neg hc]; rfl) (show textB (prV z) = ⟨#[]⟩ by unfold prV; rw [if_neg hc]; rfl))
 obtain ⟨p, k, hpk⟩ : ∃ p k, chE z = (p, k) := ⟨_, _, rfl⟩
 rw [hpk] at HRC HST HPR HRS HRP HN
 simp only at HRC HST HPR HRS HRP HN
 generalize textB (prV z) = P at *
 generalize textB (strV z) = S at *
 clear hpk hz hok
 go_enter Tryz.func3, Tryz.ntmps3
 go_wp2_with fail
 refine (awake21 W).mono ?_
 rintro e w1 ⟨rfl, hb1⟩
 replace HB := Lib.hid (HB.out.trans (hb1.mono HB.out.size))
 clear hb1
 have HRS := Lib.hid ((HZ.out w1 HB.out).later ((Below.refl (w1).heap.size w1).alloc (Nat.le_refl _) (.cells #[] 36)))
 have HE := Lib.hid (owned_empty (w := w1) (B := (w1).heap.size) 36 5 (Nat.le_refl _))
 go_wp2_with (at_builtin; refine append_argS (World.alloc w1 (.cells #[] 36)) 5 rfl (.tmp 18) (.tmp 19) 22 rfl (w1).heap.size 36 _ 40 Tryz.underlying22 infoEv21 rfl (by decide) _ 0 [] rfl HE.out a z.length cap rfl (rowsOf evF z) HRS.out (evFs_one _) (by unfold maxLen; omega) (by omega) (by simp) ?_)
 intro vc wc ho hb _
 try simp only [List.nil_append, Nat.zero_add] at ho
 have hbm := ((Below.refl (w1).heap.size w1).alloc (Nat.le_refl _) (.cells #[] 36)).trans hb
 replace HB := Lib.hid (HB.out.trans (hbm.mono HB.out.size))
 have HV := Lib.hid (SeqS.of_owns ho)
 obtain ⟨A9, c9, rfl⟩ := own_sl21 ho
 clear ho hb hbm HRS HE
 go_wp2_with fail
 refine (HST.out _ _ _ HV.out).mono ?_
 rintro e w2 ⟨rfl, hb2⟩
 replace HB := Lib.hid (HB.out.trans (hb2.mono HB.out.size))
 clear hb2 HV HST
 have HRS := Lib.hid ((HZ.out w2 HB.out).later ((Below.refl (w2).heap.size w2).alloc (Nat.le_refl _) (.cells #[] 36)))
 have HE := Lib.hid (owned_empty (w := w2) (B := (w2).heap.size) 36 5 (Nat.le_refl _))
 go_wp2_with (at_builtin; refine append_argS (World.alloc w2 (.cells #[] 36)) 5 rfl (.tmp 25) (.tmp 26) 22 rfl (w2).heap.size 36 _ 40 Tryz.underlying22 infoEv21 rfl (by decide) _ 0 [] rfl HE.out a z.length cap rfl (rowsOf evF z) HRS.out (evFs_one _) (by unfold maxLen; omega) (by omega) (by simp) ?_)
 intro vc wc ho hb _
 try simp only [List.nil_append, Nat.zero_add] at ho
 have hbm := ((Below.refl (w2).heap.size w2).alloc (Nat.le_refl _) (.cells #[] 36)).trans hb
 replace HB := Lib.hid (HB.out.trans (hbm.mono HB.out.size))
 have HV := Lib.hid (SeqS.of_owns ho)
 obtain ⟨A9, c9, rfl⟩ := own_sl21 ho
 clear ho hb hbm HRS HE
 go_wp2_with fail
 refine (HPR.out _ _ _ HV.out).mono ?_
 rintro e w3 ⟨rfl, hb3⟩
 replace HB := Lib.hid (HB.out.trans (hb3.mono HB.out.size))
 clear hb3 HV HPR
 go_wp2_with fail
 refine (HRC.out _ _ _ (HZ.out _ HB.out)).mono ?_
 rintro e w4 ⟨rfl, hb4⟩
 replace HB := Lib.hid (HB.out.trans (hb4.mono HB.out.size))
 clear hb4 HRC
 by_cases hk : k = 0
 case neg =>
  have e3 : ((k : Int) != 0) = true := by rw [bne_iff_ne]; omega
  have e4 : (k != 0) = true := by rw [bne_iff_ne]; exact hk
  obtain ⟨rfl, rfl⟩ := HN.out hk
  clear hk HRS HRP HN
  go_wp2
  go_ret
  exact ⟨ret_bool (by simp), HB.out⟩
 subst hk
 go_wp2_with fail
 refine (HRS.out (by trivial) _ (HZ.out _ HB.out)).mono ?_
 rintro e w5 ⟨rfl, hb5⟩
 replace HB := Lib.hid (HB.out.trans (hb5.mono HB.out.size))
 clear hb5 HRS
 go_wp2_with fail
 refine (HRP.out (by trivial) _ (HZ.out _ HB.out)).mono ?_
 rintro e w6 ⟨rfl, hb6⟩
 replace HB := Lib.hid (HB.out.trans (hb6.mono HB.out.size))
 clear hb6 HRP HN
 go_wp2
 go_ret
 exact ⟨ret_bool (by simp), HB.out⟩
end Go.Proofs.YtmadgdmiipgjoaaGreat
