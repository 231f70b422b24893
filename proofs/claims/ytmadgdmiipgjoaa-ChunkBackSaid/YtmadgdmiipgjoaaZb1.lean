import Derived.WalkKit
import Derived.ProofKit
import Derived.Lib.Hide
import Derived.Lib.AppendStr
import Derived.Lib.SlBytesRow
import Derived.Laws.AppendOwnNone
import Derived.Deep.AppendLies
import Derived.Deep.Draws
import Derived.BigQuiet
import Derived.Deep.QuietTactic
import Derived.Deep.RegionWith
import Derived.OpenShut
import Derived.Outline
import Derived.Deep.Slices
import Derived.ChangeSame
import Derived.Laws.IdiomStrings
import Derived.SliceStrings
import Derived.Laws.DeepStrings4
import Derived.SizedLaws
import Derived.Laws.OwnMore
import Derived.Test.YtmadgdmiipgjoaaRows
import Derived.Deep.OwnRows
import Derived.Laws.StructEq
import Derived.Deep.DeepCutAuto
import Derived.IntWalk
import Derived.Lib.BufferRead
import Derived.Laws.BitsAllLaws
import Derived.Laws.Bits64
import Derived.Laws.Bits64b
import Derived.Deep.RegionHeld3
import Derived.Laws.DeepNot64
import Derived.Deep.MidRow
import Derived.RegionTactic
import Derived.StillTailTactics
import Derived.Deep.RegionLaw
import Derived.Laws.CopyOwn
import Derived.ShutString
import Derived.ChangeOld
import Derived.Below
import Derived.Test.YtmadgdmiipgjoaaZz8
namespace Go.Proofs.Ytmadgdmiipgjoaa
open Go.RowKit
set_option linter.unusedVariables false
set_option linter.unusedSimpArgs false
section
variable {P : Program} {W : World} {H : Type} {enc : TypeId × Value → H}
theorem argSlice_of {t e : TypeId} {a : Option Addr} {len cap sz : Nat} {d : DataW H} {p : List MemPlace} (ht : P.underlying t = some (.slice e)) (hc : P.cellsOf e = sz) (hsz : 0 < sz)
  (h : DataW.Trod enc P W 0 (fun _ => true) true t (.slice a len cap) d p) :
  len ≤ cap ∧ cap ≤ maxLen ∧ ∃ rows : Nat → List Value, ∀ i, i < len → (rows i).length = sz ∧ (∃ n y, DataW.trod enc P W 0 (fun _ => true) true n e (rows i) = some y) ∧
   ∃ b off, a = some ⟨b, off, none⟩ ∧ b < W.heap.size ∧ ∀ j, j < sz → W.cell? ⟨b, off + i * sz + j, none⟩ = (rows i)[j]? := by
 obtain ⟨fuel, hf⟩ := h
 rcases Deep.open_slice ht hf with ⟨hcs, _⟩ | ⟨x, l, c, m, n, D, Pl, hcs, _, hl, hm, hmm, _, hx⟩
 ·simp [Value.cells] at hcs
  obtain ⟨rfl, rfl, rfl⟩ := hcs
  exact ⟨by omega, by unfold maxLen; omega, fun _ => [], fun i hi => by omega⟩
 ·simp [Value.cells] at hcs
  obtain ⟨rfl, rfl, rfl⟩ := hcs
  simp at hmm
  subst hmm
  refine ⟨hl, hm, ?_⟩
  obtain ⟨rows, hr⟩ := Deep.choose_lt (α := List Value) (n := len) (p := fun i cs => W.cells? 0 (x.add (i * P.cellsOf e)) (P.cellsOf e) = some cs ∧ DataW.trod enc P W 0 (fun _ => true) true n e cs = some (D i, Pl i)) (fun i hi => hx i (by omega))
  refine ⟨rows, fun i hi => ?_⟩
  obtain ⟨h1, h2⟩ := hr i hi
  obtain ⟨h01, _⟩ := hr 0 (by omega)
  rw [hc] at h1 h01
  obtain ⟨_, g2, g3⟩ := World.cells?_some h1
  obtain ⟨_, g02, g03⟩ := World.cells?_some h01
  have z := g03 0 hsz
  rw [List.getElem?_eq_getElem (by omega), Nat.zero_mul] at z
  obtain ⟨b, off, spot⟩ := x
  have hlt := World.block_lt_of_cell? W _ z
  have hs := World.cell?_spot z
  simp [Addr.add] at hlt hs
  subst hs
  refine ⟨g2, ⟨n, _, h2⟩, b, off, rfl, hlt, fun j hj => ?_⟩
  have := g3 j hj
  rwa [addr_plus, addr_plus] at this
end
theorem flat_length {rows : Nat → List Value} {sz : Nat} : ∀ n, (∀ i, i < n → (rows i).length = sz) → ((List.range n).flatMap rows).length = n * sz
 | 0, _ => by simp
 | n + 1, h => by
  rw [List.range_succ, List.flatMap_append, List.length_append, flat_length n (fun i hi => h i (by omega))]
  simp [h n (by omega), Nat.add_mul]
theorem flat_get {rows : Nat → List Value} {sz : Nat} : ∀ n, (∀ i, i < n → (rows i).length = sz) → ∀ i j, i < n → j < sz → ((List.range n).flatMap rows)[i * sz + j]? = (rows i)[j]?
 | 0, _, i, j, hi, _ => by omega
 | n + 1, h, i, j, hi, hj => by
  have hl := flat_length n (fun i hi => h i (by omega))
  rw [List.range_succ, List.flatMap_append]
  by_cases e : i = n
  ·subst e
   rw [List.getElem?_append_right (by omega), hl, Nat.add_sub_cancel_left]
   simp
  ·have hm : i * sz + sz ≤ n * sz := by
    have := Nat.mul_le_mul_right sz (show i + 1 ≤ n by omega)
    rw [Nat.add_mul] at this; omega
   rw [List.getElem?_append_left (by omega)]
   exact flat_get n (fun i hi => h i (by omega)) i j (by omega) hj
section
variable {P : Program} {W : World} {H : Type} {enc : TypeId × Value → H}
theorem argRows {t e : TypeId} {a : Option Addr} {len cap sz : Nat} {d : DataW H} {p : List MemPlace} (ht : P.underlying t = some (.slice e)) (hc : P.cellsOf e = sz) (hsz : 0 < sz)
  (h : DataW.Trod enc P W 0 (fun _ => true) true t (.slice a len cap) d p) :
  (a = none → len = 0 ∧ cap = 0) ∧ ∃ rows : Nat → List Value, (∀ i, i < len → (rows i).length = sz ∧ ∃ n y, DataW.trod enc P W 0 (fun _ => true) true n e (rows i) = some y) ∧ SeqS W sz (.slice a len cap) len ((List.range len).flatMap rows) := by
 have hn : a = none → len = 0 ∧ cap = 0 := by
  obtain ⟨fuel, hf⟩ := h
  rcases Deep.open_slice ht hf with ⟨hcs, _⟩ | ⟨x, l, c, m, n, D, Pl, hcs, _⟩
  ·simp [Value.cells] at hcs
   exact fun _ => hcs.2
  ·simp [Value.cells] at hcs
   intro ha; rw [ha] at hcs; exact absurd hcs.1 (by simp)
 obtain ⟨h1, h2, rows, hr⟩ := argSlice_of ht hc hsz h
 refine ⟨hn, rows, fun i hi => ⟨(hr i hi).1, (hr i hi).2.1⟩, ?_⟩
 have hl := flat_length (rows := rows) (sz := sz) len (fun i hi => (hr i hi).1)
 refine ⟨hl, a, cap, rfl, h1, h2, fun ha => (hn ha).2, fun k u hu => ?_⟩
 have hk : k < len * sz := by rw [← hl]; exact (List.getElem?_eq_some_iff.1 hu).1
 have hi : k / sz < len := (Nat.div_lt_iff_lt_mul hsz).2 hk
 have hj : k % sz < sz := Nat.mod_lt _ hsz
 have hkk : k / sz * sz + k % sz = k := by rw [Nat.mul_comm]; exact Nat.div_add_mod k sz
 have hg := flat_get (rows := rows) (sz := sz) len (fun i hi => (hr i hi).1) (k / sz) (k % sz) hi hj
 rw [hkk, hu] at hg
 obtain ⟨_, _, b, off, ea, _, hc⟩ := hr (k / sz) hi
 refine ⟨b, off, ea, ?_⟩
 have := hc (k % sz) hj
 rw [Nat.add_assoc, hkk] at this
 rw [this, ← hg]
end
theorem flatMap_congr_range {α : Type} {f g : Nat → List α} : ∀ n, (∀ i, i < n → f i = g i) → (List.range n).flatMap f = (List.range n).flatMap g
 | 0, _ => rfl
 | n + 1, h => by
  rw [List.range_succ, List.flatMap_append, List.flatMap_append, flatMap_congr_range n (fun i hi => h i (by omega))]
  simp [h n (by omega)]
section
variable {α : Type} {f : α → List Value} {sz : Nat}
theorem range_rows (g : Nat → α) (n : Nat) : (List.range n).flatMap (fun i => f (g i)) = rowsOf f ((List.range n).map g) := by unfold rowsOf; rw [List.flatMap_map]
end
section
variable {P : Program} {W : World} {H : Type} {enc : TypeId × Value → H}
def ArgOf {α : Type} (f : α → List Value) (sz : Nat) (ok : α → Prop) (w : World) (a : Option Addr) (len cap : Nat) (l : List α) : Prop :=
 (a = none → len = 0 ∧ cap = 0) ∧ l.length = len ∧ SeqS w sz (.slice a len cap) len (rowsOf f l) ∧ ∀ x ∈ l, ok x
theorem argOf {α : Type} [Inhabited α] {f : α → List Value} {sz : Nat} {ok : α → Prop} {t e : TypeId} {a : Option Addr} {len cap : Nat} {d : DataW H} {p : List MemPlace} (ht : P.underlying t = some (.slice e)) (hc : P.cellsOf e = sz) (hsz : 0 < sz)
  (hopen : ∀ n cs y, cs.length = sz → DataW.trod enc P W 0 (fun _ => true) true n e cs = some y → ∃ x, cs = f x ∧ ok x)
  (h : DataW.Trod enc P W 0 (fun _ => true) true t (.slice a len cap) d p) : ∃ l, ArgOf f sz ok W a len cap l := by
 obtain ⟨h1, rows, h2, h3⟩ := argRows (sz := sz) ht hc hsz h
 obtain ⟨z, hz⟩ := Deep.choose_lt (α := α) (n := len) (p := fun i q => rows i = f q ∧ ok q) (fun i hi => by
  obtain ⟨g1, n, y, g2⟩ := h2 i hi
  exact hopen n _ y g1 g2)
 have he : (List.range len).flatMap rows = rowsOf f ((List.range len).map z) := by
  rw [← range_rows]
  exact flatMap_congr_range len (fun i hi => (hz i hi).1)
 rw [he] at h3
 refine ⟨(List.range len).map z, h1, by simp, h3, fun q hq => ?_⟩
 obtain ⟨i, hi, rfl⟩ := List.mem_map.1 hq
 exact (hz i (List.mem_range.1 hi)).2
end
set_option maxHeartbeats 8000000 in
set_option maxRecDepth 100000 in
theorem rfCheck15 (l : List Ev) (A : Option Addr) (c : Nat) (w : World) (h : EvsAt w A c l) :
  Calls Try.prog 7 #[.slice A l.length c] w fun e w' => e = .returned (.tuple #[.int .i64 ((chE l).1 : Nat), .int .i64 ((chE l).2 : Nat)]) ∧ Below w.heap.size w w' := by
 obtain ⟨A', c', e', h1, h2, _⟩ := h.form
 simp only [Value.slice.injEq, true_and] at e'
 obtain ⟨rfl, rfl⟩ := e'
 unfold maxLen at h2
 have HH := Lib.hid h
 have HB := Lib.hid (Below.refl w.heap.size w)
 have HLO := Lib.hid (@chE_long l)
 have HAT := Lib.hid (fun k x => @chE_at l k x)
 have HOK := Lib.hid (@chE_ok l)
 clear h
 by_cases hl : 65536 < l.length
 ·have e1 : decide ((65536 : Int) < (l.length : Int)) = true := decide_eq_true (by omega)
  have e2 : decide (65536 < l.length) = true := decide_eq_true hl
  have HE := Lib.hid (HLO.out hl)
  clear HLO HAT HOK
  go_enter Try.func7, Try.ntmps7
  go_wp2
  go_ret2
  exact ⟨ret_2n HE.out, HB.out⟩
 have e1 : decide ((65536 : Int) < (l.length : Int)) = false := decide_eq_false (by omega)
 have e2 : decide (65536 < l.length) = false := decide_eq_false hl
 have HAT2 := Lib.hid (fun k x => HAT.out k x hl)
 have HOK2 := Lib.hid (HOK.out hl)
 clear HLO HAT HOK hl
 go_enter Try.func7, Try.ntmps7
 go_wp2_with fail
 go_loopw [4] (fun u wr => ∃ k : Nat, k ≤ l.length ∧ u = .int .i64 k ∧ Hid (∀ y ∈ l.take k, rightE y = true) ∧ Hid (Below w.heap.size w wr)) (fun u _ => l.length - (intOf u).toNat)
 case atStart => exact ⟨0, by omega, rfl, (by show ∀ y ∈ l.take 0, _; simp), HB⟩
 case round =>
  clear HB
  obtain ⟨k, hk, rfl, HA, HB⟩ := hrel
  by_cases hlt : k < l.length
  ·have hki : (k : Int) < (l.length : Int) := by omega
   obtain ⟨x, hx⟩ : ∃ x, l[k]? = some x := ⟨_, List.getElem?_eq_getElem hlt⟩
   obtain ⟨b, off, rfl, hbl, hg⟩ := EvsAt.at_ (HH.out.later HB.out) hx
   have g0 := hg 0 _ (by decide) rfl
   have g1 := hg 1 _ (by decide) rfl
   have g2 := hg 2 _ (by decide) rfl
   have g3 := hg 3 _ (by decide) rfl
   have g4 := hg 4 _ (by decide) rfl
   rw [Nat.add_zero] at g0
   have HB2 := HB
   have HR := Lib.hid (fun w => rfRight15 x w)
   have HX := Lib.hid hx
   clear hg hx HB
   obtain ⟨rb, hrb⟩ : ∃ rb, rightE x = rb := ⟨_, rfl⟩
   rw [hrb] at HR
   have HRB := Lib.hid hrb
   clear hrb
   go_wp2_with fail
   refine (HR.out _).mono ?_
   rintro e w3 ⟨rfl, hbm⟩
   have HB3 := Lib.hid (HB2.out.trans (hbm.mono HB2.out.size))
   clear hbm g0 g1 g2 g3 g4 HR
   cases rb with
   | false =>
    have HE := Lib.hid (HAT2.out k x HA.out HX.out HRB.out)
    clear HAT2 HOK2
    go_wp2
    go_ret2
    exact ⟨ret_2n HE.out, HB3.out⟩
   | true =>
    have HA2 := Lib.hid (ev_take_next HA.out HX.out HRB.out)
    go_wp2
    go_roundw
    case rel => exact ⟨k + 1, by omega, by go_num, HA2, HB3⟩
    case measure => simp [intOf]; omega
  ·obtain rfl : k = l.length := by omega
   have HE := Lib.hid (HOK2.out (by have := HA.out; rwa [List.take_length] at this))
   clear HAT2 HOK2
   go_wp2
   go_ret2
   exact ⟨ret_2n HE.out, HB.out⟩
theorem zag_zig (n : Int) : zag (zig n) = n := by unfold zag zig; split <;> split <;> omega
theorem addZ_delta (a b : Nat) (ha : a < M64) (hb : b < M64) : addZ a (deltaOf a b) = b := by
 unfold addZ deltaOf
 rw [zag_zig]
 unfold M64 at *
 unfold sgn
 split <;> omega
theorem sums_deltas (l : List Nat) (hl : ∀ n ∈ l, n < M64) : ∀ last, last < M64 → sums last (deltas last l) = l := by
 induction l with
 | nil => intro _ _; rfl
 | cons n l ih =>
  intro last h
  have hn := hl n (by simp)
  rw [deltas, sums, addZ_delta _ _ h hn, ih (fun m hm => hl m (by simp [hm])) n hn]
theorem read_any (l : List Nat) (r : List UInt8) (s : ByteArray) (p m : Nat) (hs : restOf s p = printR l ++ r) (hl : l.length ≤ m) (hm64 : m < M64) (hm : ∀ n ∈ l, n < M64) :
  redE s p (m : Nat) = 0 ∧ redAt s p (m : Nat) = p + (printR l).length ∧ redOf s p (m : Nat) = l := by
 have h0 : restOf s p = enc (packs l).length ++ (bodyR (packs l) ++ r) := by rw [hs, printR, List.append_assoc]
 have hpl := (packs_in l).1
 have r1 : rd (restOf s p) = ((packs l).length, 0, (enc (packs l).length).length) := by rw [h0]; exact rd_enc _ _ (by omega)
 have h1 : restOf s (p + (enc (packs l).length).length) = bodyR (packs l) ++ r := by rw [restOf_add, h0, List.drop_left]
 have hb := read_body (packs l) [] m _ s r (packs_ok l) (by rw [spreads_packs]; exact hl) hm64 (packs_mem l hm) h1
 have e1 : redE s p (m : Nat) = 0 := by
  unfold redE
  rw [if_neg (by omega), r1]
  simp only [ne_eq, not_true_eq_false, if_false, Int.toNat_natCast]
  rw [hb]
 refine ⟨e1, ?_, ?_⟩
 ·unfold redAt
  rw [if_neg (by omega), r1]
  simp only [ne_eq, not_true_eq_false, if_false, Int.toNat_natCast]
  rw [hb, printR, List.length_append, Nat.add_assoc]
 ·unfold redOf
  rw [if_pos e1, r1]
  simp only [Int.toNat_natCast]
  rw [hb]
  exact spreads_packs l
theorem nextR_mono {s : ByteArray} {p : Nat} {bef : List (Nat × Nat)} {room room' : Nat} (h : (nextR s p bef room).2.1 = 0) (hr : room ≤ room') : nextR s p bef room' = nextR s p bef room := by
 unfold nextR at h ⊢
 by_cases e1 : (rd (restOf s p)).2.1 ≠ 0
 ·rw [if_pos e1, if_pos e1]
 rw [if_neg e1] at h ⊢
 rw [if_neg e1]
 by_cases e2 : (rd (restOf s (p + (rd (restOf s p)).2.2))).2.1 ≠ 0
 ·rw [if_pos e2, if_pos e2]
 rw [if_neg e2] at h ⊢
 rw [if_neg e2]
 by_cases e3 : lastIs bef (rd (restOf s p)).1 = true
 ·rw [if_pos e3] at h; exact absurd (show (3 : Nat) = 0 from h) (by decide)
 rw [if_neg e3] at h ⊢
 by_cases e4 : room ≤ (rd (restOf s (p + (rd (restOf s p)).2.2))).1
 ·rw [if_pos e4] at h; exact absurd (show (4 : Nat) = 0 from h) (by decide)
 rw [if_neg e4, if_neg e3, if_neg (by omega)]
theorem readR_mono : ∀ (n : Nat) (s : ByteArray) (p : Nat) (bef : List (Nat × Nat)) (room room' : Nat), (readR n s p bef room).2.1 = 0 → room ≤ room' → readR n s p bef room' = readR n s p bef room
 | 0, s, p, bef, room, room', h, hr => rfl
 | n + 1, s, p, bef, room, room', h, hr => by
  unfold readR at h ⊢
  by_cases e : (nextR s p bef room).2.1 = 0
  ·rw [if_pos e] at h
   rw [nextR_mono e hr, if_pos e, if_pos e]
   exact readR_mono n s _ _ _ _ h (by omega)
  ·rw [if_neg e] at h; exact absurd h e
theorem redE_mono {s : ByteArray} {p m m' : Nat} (h : redE s p (m : Nat) = 0) (hm : m ≤ m') : redE s p (m' : Nat) = 0 ∧ redOf s p (m' : Nat) = redOf s p (m : Nat) := by
 have h9 := h
 unfold redE at h
 rw [if_neg (by omega)] at h
 by_cases e1 : (rd (restOf s p)).2.1 ≠ 0
 ·rw [if_pos e1] at h; exact absurd h e1
 rw [if_neg e1, Int.toNat_natCast] at h
 have hR := readR_mono _ _ _ _ _ m' h hm
 have h8 : redE s p (m' : Nat) = 0 := by
  unfold redE
  rw [if_neg (by omega), if_neg e1, Int.toNat_natCast, hR]
  exact h
 refine ⟨h8, ?_⟩
 unfold redOf
 rw [if_pos h8, if_pos h9, Int.toNat_natCast, Int.toNat_natCast, hR]
theorem many_back : ∀ (l : List Nat) (r : List UInt8) (s : ByteArray) (p : Nat), restOf s p = encs l ++ r → (∀ n ∈ l, n < M64) → rdMany l.length s p = (l, 0, p + (encs l).length)
 | [], r, s, p, h, hm => by simp [rdMany, encs]
 | n :: l, r, s, p, h, hm => by
  have eb : encs (n :: l) = enc n ++ encs l := by simp [encs]
  rw [eb, List.append_assoc] at h
  have r1 : rd (restOf s p) = (n, 0, (enc n).length) := by rw [h]; exact rd_enc n _ (hm n (by simp))
  have h2 : restOf s (p + (enc n).length) = encs l ++ r := by rw [restOf_add, h, List.drop_left]
  have ih := many_back l r s _ h2 (fun x hx => hm x (by simp [hx]))
  rw [List.length_cons, rdMany, r1]
  simp only [if_true]
  rw [ih, eb, List.length_append, Nat.add_assoc]
theorem list_back (l : List Nat) (r : List UInt8) (s : ByteArray) (p m : Nat) (hs : restOf s p = encList l ++ r) (hl : l.length ≤ m) (hm64 : l.length < M64) (hm : ∀ n ∈ l, n < M64) :
  rdListErr s p (m : Nat) = 0 ∧ rdListAt s p (m : Nat) = p + (encList l).length ∧ rdListOf s p (m : Nat) = l := by
 have h0 : restOf s p = enc l.length ++ (encs l ++ r) := by rw [hs, encList, List.append_assoc]
 have r1 : rd (restOf s p) = (l.length, 0, (enc l.length).length) := by rw [h0]; exact rd_enc _ _ hm64
 have h1 : restOf s (p + (enc l.length).length) = encs l ++ r := by rw [restOf_add, h0, List.drop_left]
 have hb := many_back l r s _ h1 hm
 have e1 : rdListErr s p (m : Nat) = 0 := by
  unfold rdListErr
  rw [if_neg (by omega), r1]
  simp only [ne_eq, not_true_eq_false, if_false]
  rw [if_neg (by omega), hb]
 refine ⟨e1, ?_, ?_⟩
 ·unfold rdListAt
  rw [if_neg (by omega), r1]
  simp only [ne_eq, not_true_eq_false, if_false]
  rw [if_neg (by omega), hb, encList, List.length_append, Nat.add_assoc]
 ·unfold rdListOf
  rw [if_pos e1, r1]
  simp only
  rw [hb]
theorem dl_back (l : List Nat) (r : List UInt8) (s : ByteArray) (p m : Nat) (hs : restOf s p = encList (deltas 0 l) ++ r) (hl : l.length ≤ m) (hm64 : l.length < M64) (hm : ∀ n ∈ l, n < M64) :
  rdListErr s p (m : Nat) = 0 ∧ rdListAt s p (m : Nat) = p + (encList (deltas 0 l)).length ∧ dlList s p (m : Nat) = l := by
 obtain ⟨h1, h2, h3⟩ := list_back (deltas 0 l) r s p m hs (by rw [deltas_length]; exact hl) (by rw [deltas_length]; exact hm64) (deltas_lt l 0)
 refine ⟨h1, h2, ?_⟩
 unfold dlList
 rw [h3]
 exact sums_deltas l hm 0 (by decide)
theorem fill_map {u : Int → Bool} {f : Ev → Nat} {st : Ev → Nat → Ev} {g g' : Ev → Ev} {T : List Ev} (hu : ∀ x ∈ T, u (g x).kd = u x.kd) (hset : ∀ x ∈ T, u x.kd = true → st (g x) (f x) = g' x) (hskip : ∀ x ∈ T, u x.kd = false → g' x = g x) :
  ∀ k, k ≤ T.length → fillK u st (T.map g) (selN u f T) k = some ((T.take k).map g' ++ (T.drop k).map g, (selN u f (T.take k)).length)
 | 0, _ => by simp [fillK, selN]
 | k + 1, hk => by
  have ih := fill_map hu hset hskip k (by omega)
  obtain ⟨x, hx⟩ : ∃ x, T[k]? = some x := ⟨_, List.getElem?_eq_getElem (by omega)⟩
  have hxT : x ∈ T := List.mem_of_getElem? hx
  have hgx : (T.map g)[k]? = some (g x) := by rw [List.getElem?_map, hx]; rfl
  have hdr : T.drop k = x :: T.drop (k + 1) := by
   obtain ⟨h1, h2⟩ := List.getElem?_eq_some_iff.1 hx
   rw [List.drop_eq_getElem_cons h1, h2]
  have htl : ((T.take k).map g').length = k := by rw [List.length_map, List.length_take]; omega
  have hcur : ((T.take k).map g' ++ (T.drop k).map g).set k (g' x) = (T.take (k + 1)).map g' ++ (T.drop (k + 1)).map g := by
   rw [List.set_append_right _ _ (by omega), htl, Nat.sub_self, hdr, List.map_cons, List.set_cons_zero, List.take_add_one, hx]
   simp
  by_cases hux : u x.kd = true
  ·have hn : (selN u f T)[(selN u f (T.take k)).length]? = some (f x) := by
    have e : selN u f T = selN u f (T.take k) ++ (f x :: selN u f (T.drop (k + 1))) := by
     conv => lhs; rw [← List.take_append_drop k T, hdr]
     unfold selN
     rw [List.filter_append, List.map_append, List.filter_cons, if_pos hux, List.map_cons]
    rw [e, List.getElem?_append_right (Nat.le_refl _), Nat.sub_self]; rfl
   rw [fillK_put ih hgx (by rw [hu x hxT]; exact hux) hn, hset x hxT hux, hcur, selN_next hx, if_pos hux, List.length_append]; rfl
  ·have hux : u x.kd = false := by simpa using hux
   have hsk : (T.take (k + 1)).map g' ++ (T.drop (k + 1)).map g = (T.take k).map g' ++ (T.drop k).map g := by
    rw [hdr, List.map_cons, ← hskip x hxT hux, List.take_add_one, hx]
    simp
   rw [fillK_skip ih hgx (by rw [hu x hxT]; exact hux), hsk, selN_next hx, if_neg (by rw [hux]; decide)]
theorem fillR_map {u : Int → Bool} {f : Ev → Nat} {st : Ev → Nat → Ev} {g g' : Ev → Ev} {T : List Ev} (hu : ∀ x ∈ T, u (g x).kd = u x.kd) (hset : ∀ x ∈ T, u x.kd = true → st (g x) (f x) = g' x) (hskip : ∀ x ∈ T, u x.kd = false → g' x = g x) :
  fillR u st (T.map g) (selN u f T) = some (T.map g') := by
 have h := fill_map hu hset hskip T.length (Nat.le_refl _)
 rw [List.take_length, List.drop_length, List.map_nil, List.append_nil] at h
 unfold fillR
 rw [List.length_map, h]
 simp only [if_true]
def g0 (x : Ev) : Ev := ⟨0, x.kd, 0, 0, 0⟩
def g1 (x : Ev) : Ev := ⟨0, x.kd, x.rg, 0, 0⟩
def g2 (x : Ev) : Ev := ⟨0, x.kd, x.rg, x.tk, 0⟩
def g3 (x : Ev) : Ev := ⟨0, x.kd, x.rg, x.tk, x.vl⟩
theorem right_zero {x : Ev} (h : rightE x = true) : (ringB x.kd = false → x.rg = 0) ∧ (ticketB x.kd = false → x.tk = 0) ∧ (valueB x.kd = false → x.vl = 0) := by
 unfold rightE at h
 simp only [Bool.and_eq_true] at h
 obtain ⟨_, _, _, h4, h5, h6⟩ := h
 refine ⟨fun e => ?_, fun e => ?_, fun e => ?_⟩
 ·rw [e, if_neg (by decide)] at h4; simpa using h4
 ·rw [e, if_neg (by decide)] at h5; simpa using h5
 ·rw [e] at h6; simpa using h6
theorem right_num {x : Ev} (h : rightE x = true) (hok : evOk x) : thF x < M64 ∧ kdF x < M64 ∧ rgF x < M64 ∧ tkF x < M64 ∧ vlF x < M64 ∧ sm21 (kdF x) = x.kd ∧ sm21 (rgF x) = x.rg ∧ sm21 (thF x) = x.th := by
 have hi := right_in h
 obtain ⟨_, _, _, h4, h5⟩ := hok
 unfold M64 thF kdF rgF tkF vlF sm21
 omega
theorem thr_back (T : List Ev) (r : List UInt8) (s : ByteArray) (i : Nat) (hs : restOf s i = thrS T ++ r) (hT : T.length ≤ 65536) (hr : ∀ x ∈ T, rightE x = true) (hok : ∀ x ∈ T, evOk x) :
  rdT s i T.length 3 = some (T.map g3, i + (thrS T).length) := by
 have hnm : ∀ x ∈ T, _ := fun x hx => right_num (hr x hx) (hok x hx)
 have hle := fun u f => selN_length u f T
 have M : T.length < M64 := by unfold M64; omega
 unfold thrS at hs ⊢
 rw [List.append_assoc] at hs
 obtain ⟨a1, a2, a3⟩ := read_any (selN allU kdF T) _ s i T.length hs (hle _ _) M (selN_lt fun x hx => (hnm x hx).2.1)
 have e0 : rdT s i T.length 0 = some (T.map g0, i + (printR (selN allU kdF T)).length) := by
  rw [rdT, a2, a3]
  refine stepR_yes a1 ?_
  rw [show List.replicate T.length zeroE = T.map (fun _ => zeroE) by rw [List.map_const']]
  exact fillR_map (fun _ _ => rfl) (fun x hx _ => by show setKd zeroE (kdF x) = g0 x; unfold setKd zeroE g0; rw [(hnm x hx).2.2.2.2.2.1]) (fun _ _ h => by cases h)
 have hs1 : restOf s (i + (printR (selN allU kdF T)).length) = (printR (selN ringB rgF T) ++ (encList (deltas 0 (selN ticketB tkF T)) ++ encList (deltas 0 (selN valueB vlF T)))) ++ r := by rw [restOf_add, hs, List.drop_left]
 rw [List.append_assoc] at hs1
 generalize hp1 : i + (printR (selN allU kdF T)).length = p1 at *
 obtain ⟨b1, b2, b3⟩ := read_any (selN ringB rgF T) _ s p1 T.length hs1 (hle _ _) M (selN_lt fun x hx => (hnm x hx).2.2.1)
 have e1 : rdT s i T.length 1 = some (T.map g1, p1 + (printR (selN ringB rgF T)).length) := by
  rw [← b2]
  refine rdT_next0 e0 b1 ?_
  rw [b3]
  exact fillR_map (fun _ _ => rfl) (fun x hx _ => by show setRg (g0 x) (rgF x) = g1 x; unfold setRg g0 g1; rw [(hnm x hx).2.2.2.2.2.2.1]) (fun x hx h => by unfold g0 g1; rw [(right_zero (hr x hx)).1 h])
 have hs2 : restOf s (p1 + (printR (selN ringB rgF T)).length) = (encList (deltas 0 (selN ticketB tkF T)) ++ encList (deltas 0 (selN valueB vlF T))) ++ r := by rw [restOf_add, hs1, List.drop_left]
 rw [List.append_assoc] at hs2
 generalize hp2 : p1 + (printR (selN ringB rgF T)).length = p2 at *
 have l2 := hle ticketB tkF
 have l3 := hle valueB vlF
 obtain ⟨c1, c2, c3⟩ := dl_back (selN ticketB tkF T) _ s p2 T.length hs2 l2 (by omega) (selN_lt fun x hx => (hnm x hx).2.2.2.1)
 have e2 : rdT s i T.length 2 = some (T.map g2, p2 + (encList (deltas 0 (selN ticketB tkF T))).length) := by
  rw [← c2]
  refine rdT_next1 e1 c1 ?_
  rw [c3]
  exact fillR_map (fun _ _ => rfl) (fun x hx _ => rfl) (fun x hx h => by unfold g1 g2; rw [(right_zero (hr x hx)).2.1 h])
 have hs3 : restOf s (p2 + (encList (deltas 0 (selN ticketB tkF T))).length) = encList (deltas 0 (selN valueB vlF T)) ++ r := by rw [restOf_add, hs2, List.drop_left]
 generalize hp3 : p2 + (encList (deltas 0 (selN ticketB tkF T))).length = p3 at *
 obtain ⟨d1, d2, d3⟩ := dl_back (selN valueB vlF T) _ s p3 T.length hs3 l3 (by omega) (selN_lt fun x hx => (hnm x hx).2.2.2.2.1)
 have e3 : rdT s i T.length 3 = some (T.map g3, p3 + (encList (deltas 0 (selN valueB vlF T))).length) := by
  rw [← d2]
  refine rdT_next2 e2 d1 ?_
  rw [d3]
  exact fillR_map (fun _ _ => rfl) (fun x hx _ => rfl) (fun x hx h => by unfold g2 g3; rw [(right_zero (hr x hx)).2.2 h])
 rw [e3]
 simp only [List.length_append]
 congr 2
 omega
def hT (t : Nat) (x : Ev) : Ev := if x.th < (t : Int) then x else ⟨x.th, 0, 0, 0, 0⟩
theorem hT_th (t : Nat) (x : Ev) : (hT t x).th = x.th := by unfold hT; split <;> rfl
theorem ofE_map (l : List Ev) (g : Ev → Ev) (hg : ∀ x ∈ l, (g x).th = x.th) (t : Int) : ∀ k, ofE (l.map g) t k = ofE l t k
 | 0 => rfl
 | k + 1 => by
  unfold ofE
  rw [ofE_map l g hg t k, List.getElem?_map]
  rcases hx : l[k]? with _ | x
  ·rfl
  ·simp only [Option.map_some]
   rw [hg x (List.mem_of_getElem? hx)]
theorem ofE_pre (l : List Ev) (t : Int) (k : Nat) : ∀ d, ∃ m, ofE l t (k + d) = ofE l t k ++ m
 | 0 => ⟨[], by simp⟩
 | d + 1 => by
  obtain ⟨m, hm⟩ := ofE_pre l t k d
  rw [show k + (d + 1) = (k + d) + 1 by omega, ofE.eq_2 l t (k + d)]
  split
  ·split
   ·exact ⟨m ++ [k + d], by rw [hm, List.append_assoc]⟩
   ·exact ⟨m, hm⟩
  ·exact ⟨m, hm⟩
theorem put_back (l : List Ev) (t : Nat) : ∀ k, k ≤ l.length → putK (l.map (hT t)) (ofE l (t : Int) l.length) ((ownE l (t : Int)).map g3) t (ofE l (t : Int) k).length = (l.take k).map (hT (t + 1)) ++ (l.drop k).map (hT t)
 | 0, _ => by simp [ofE, putK]
 | k + 1, hk => by
  have ih := put_back l t k (by omega)
  obtain ⟨x, hx⟩ : ∃ x, l[k]? = some x := ⟨_, List.getElem?_eq_getElem (by omega)⟩
  have hdr : l.drop k = x :: l.drop (k + 1) := by
   obtain ⟨h1, h2⟩ := List.getElem?_eq_some_iff.1 hx
   rw [List.drop_eq_getElem_cons h1, h2]
  have htl : ((l.take k).map (hT (t + 1))).length = k := by rw [List.length_map, List.length_take]; omega
  by_cases ht : x.th = (t : Int)
  ·have hof : ofE l (t : Int) (k + 1) = ofE l (t : Int) k ++ [k] := by rw [ofE, hx]; simp only [if_pos ht]
   obtain ⟨m, hm⟩ := ofE_pre l (t : Int) (k + 1) (l.length - (k + 1))
   rw [show k + 1 + (l.length - (k + 1)) = l.length by omega, hof, List.append_assoc] at hm
   have hgi : (ofE l (t : Int) l.length).getD (ofE l (t : Int) k).length 0 = k := by
    rw [hm, List.getD_eq_getElem?_getD, List.getElem?_append_right (Nat.le_refl _), Nat.sub_self]; rfl
   have hown : (ownE l (t : Int))[(ofE l (t : Int) k).length]? = some x := by
    rw [← ownE_ofl, hm, List.getElem?_map, List.getElem?_append_right (Nat.le_refl _), Nat.sub_self]
    show some (l.getD k default) = some x
    rw [List.getD_eq_getElem?_getD, hx]; rfl
   have hgo : ((ownE l (t : Int)).map g3).getD (ofE l (t : Int) k).length default = g3 x := by
    rw [List.getD_eq_getElem?_getD, List.getElem?_map, hown]; rfl
   have hw : withT (g3 x) t = hT (t + 1) x := by unfold withT g3 hT; rw [if_pos (by omega)]; show (⟨(t : Int), x.kd, x.rg, x.tk, x.vl⟩ : Ev) = x; rw [← ht]
   rw [hof, List.length_append, List.length_singleton, putK, ih, hgi, hgo, hw, List.set_append_right _ _ (by omega), htl, Nat.sub_self, hdr, List.map_cons, List.set_cons_zero, List.take_add_one, hx]
   simp
  ·have hof : ofE l (t : Int) (k + 1) = ofE l (t : Int) k := by rw [ofE, hx]; simp only [if_neg ht]
   have hw : hT (t + 1) x = hT t x := by
    unfold hT
    by_cases h1 : x.th < (t : Int)
    ·rw [if_pos h1, if_pos (by omega)]
    ·rw [if_neg h1, if_neg (by omega)]
   rw [hof, ih, hdr, List.map_cons, ← hw, List.take_add_one, hx]
   simp
theorem ofE_own (l : List Ev) (t : Int) : (ofE l t l.length).length = (ownE l t).length := by rw [← ownE_ofl, List.length_map]
theorem evT_back (l : List Ev) (X : ByteArray) (hX : X.data.toList = strS l) (m : Nat) (hl : l.length ≤ m) (hm : m ≤ 65536) (hr : ∀ x ∈ l, rightE x = true) (hok : ∀ x ∈ l, evOk x) :
  ∀ t, t ≤ 8 → evT X 0 (m : Nat) t = some (l.map (hT t), (strK l t).length)
 | 0, _ => by
  have hs : restOf X 0 = strS l := by unfold restOf; rw [hX, List.drop_zero]
  have hpre : ∀ d, ∃ q, strK l d = printR (l.map thF) ++ q := fun d => by
   induction d with
   | zero => exact ⟨[], by rw [List.append_nil]; rfl⟩
   | succ d ih => obtain ⟨q, hq⟩ := ih; exact ⟨q ++ strT l d, by rw [strK, hq, List.append_assoc]⟩
  obtain ⟨q, hq⟩ := hpre 8
  unfold strS at hs
  rw [hq] at hs
  obtain ⟨a1, a2, a3⟩ := read_any (l.map thF) q X 0 m hs (by rw [List.length_map]; exact hl) (by unfold M64; omega) (fun n hn => by
   obtain ⟨x, hx, rfl⟩ := List.mem_map.1 hn
   exact (right_num (hr x hx) (hok x hx)).1)
  rw [evT, if_pos a1, a2, a3, Nat.zero_add, List.map_map]
  refine congrArg some (Prod.ext (List.map_congr_left fun x hx => ?_) rfl)
  have h1 := right_num (hr x hx) (hok x hx)
  have h2 := right_in (hr x hx)
  show (⟨sm21 (thF x), 0, 0, 0, 0⟩ : Ev) = hT 0 x
  unfold hT
  rw [if_neg (by omega), h1.2.2.2.2.2.2.2]
 | t + 1, ht => by
  have ih := evT_back l X hX m hl hm hr hok t (by omega)
  have hof : ofE (l.map (hT t)) (t : Int) (l.map (hT t)).length = ofE l (t : Int) l.length := by
   rw [List.length_map, ofE_map l _ (fun x _ => hT_th t x)]
  by_cases h0 : (ofE l (t : Int) l.length).length = 0
  ·have hsk := evT_skip ih (by rw [hof]; exact h0)
   rw [hsk]
   have hno : ∀ x ∈ l, x.th ≠ (t : Int) := fun x hx e => by
    rw [ofE_own] at h0
    have := List.eq_nil_of_length_eq_zero h0
    have hmem : x ∈ ownE l (t : Int) := List.mem_filter.2 ⟨hx, by simpa using e⟩
    rw [this] at hmem; cases hmem
   refine congrArg some (Prod.ext (List.map_congr_left fun x hx => ?_) ?_)
   ·have := hno x hx
    unfold hT
    by_cases h1 : x.th < (t : Int)
    ·rw [if_pos h1, if_pos (by omega)]
    ·rw [if_neg h1, if_neg (by omega)]
   ·show (strK l t).length = (strK l t ++ strT l t).length
    unfold strT
    rw [if_pos (by rw [← ofE_own]; exact h0), List.append_nil]
  ·have hpre : ∀ d, ∃ q, strK l (t + 1 + d) = strK l t ++ (strT l t ++ q) := fun d => by
    induction d with
    | zero => exact ⟨[], by rw [List.append_nil]; rfl⟩
    | succ d ih => obtain ⟨q, hq⟩ := ih; exact ⟨q ++ strT l (t + 1 + d), by rw [show t + 1 + (d + 1) = (t + 1 + d) + 1 by omega, strK, hq]; simp only [List.append_assoc]⟩
   obtain ⟨q, hq⟩ := hpre (8 - (t + 1))
   rw [show t + 1 + (8 - (t + 1)) = 8 by omega] at hq
   have hsT : strT l t = thrS (ownE l (t : Int)) := by unfold strT; rw [if_neg (by rw [← ofE_own]; exact h0)]
   have hs : restOf X (strK l t).length = thrS (ownE l (t : Int)) ++ q := by
    unfold restOf; rw [hX]; unfold strS; rw [hq, List.drop_left, hsT]
   have hb := thr_back (ownE l (t : Int)) q X _ hs (by have := ownE_le l (t : Int); omega) (ownE_ok hr) (ownE_ok hok)
   rw [← ofE_own] at hb
   have hput := evT_put ih (by rw [hof]; exact h0) (by rw [hof]; exact hb)
   rw [hof] at hput
   rw [hput]
   refine congrArg some (Prod.ext ?_ ?_)
   ·show putK _ _ _ t _ = _
    rw [put_back l t l.length (Nat.le_refl _), List.take_length, List.drop_length, List.map_nil, List.append_nil]
   ·show _ = (strK l t ++ strT l t).length
    rw [List.length_append, hsT]
theorem rdS_back (l : List Ev) (m : Nat) (hl : l.length ≤ m) (hm : m ≤ 65536) (hr : ∀ x ∈ l, rightE x = true) (hok : ∀ x ∈ l, evOk x) : rdS (textB (strS l)) (m : Nat) = (0, l) := by
 have h := evT_back l (textB (strS l)) rfl m hl hm hr hok 8 (Nat.le_refl _)
 have he : l.map (hT 8) = l := by
  conv => rhs; rw [← List.map_id l]
  refine List.map_congr_left fun x hx => ?_
  have := right_in (hr x hx)
  unfold hT
  rw [if_pos (by omega)]; rfl
 rw [he] at h
 unfold rdS
 rw [h]
 simp only
 rw [if_neg (by rw [textB_size]; unfold strS; omega), chE_ok (by omega) hr]
 rfl
theorem rdS_few (l : List Ev) (m : Nat) (hl : m < l.length) (hm : l.length ≤ 65536) (hr : ∀ x ∈ l, rightE x = true) (hok : ∀ x ∈ l, evOk x) : rdS (textB (strS l)) (m : Nat) = (3, []) := by
 have hpre : ∀ d, ∃ q, strK l d = printR (l.map thF) ++ q := fun d => by
  induction d with
  | zero => exact ⟨[], by rw [List.append_nil]; rfl⟩
  | succ d ih => obtain ⟨q, hq⟩ := ih; exact ⟨q ++ strT l d, by rw [strK, hq, List.append_assoc]⟩
 obtain ⟨q, hq⟩ := hpre 8
 have hs : restOf (textB (strS l)) 0 = printR (l.map thF) ++ q := by
  show (strS l).drop 0 = _
  rw [List.drop_zero]; exact hq
 obtain ⟨a1, a2, a3⟩ := read_any (l.map thF) q _ 0 l.length hs (by rw [List.length_map]; exact Nat.le_refl _) (by unfold M64; omega) (fun n hn => by
  obtain ⟨x, hx, rfl⟩ := List.mem_map.1 hn
  exact (right_num (hr x hx) (hok x hx)).1)
 have hne : redE (textB (strS l)) 0 (m : Nat) ≠ 0 := fun h0 => by
  obtain ⟨_, h2⟩ := redE_mono h0 (Nat.le_of_lt hl)
  have h3 := redOf_le h0
  rw [← h2, a3, List.length_map] at h3
  omega
 have h8 : evT (textB (strS l)) 0 (m : Nat) 8 = none := evT_gone8 (t := 0) (by rw [evT, if_neg hne]) (by omega)
 unfold rdS
 rw [h8]
theorem prV_ok {l : List Ev} (h : (chE l).2 = 0) : prV l = pkT (strS l) := by unfold prV; rw [if_pos h]
theorem rdC_back (l : List Ev) (m : Nat) (h : (chE l).2 = 0) (hl : l.length ≤ m) (hm : m ≤ 65536) (hs : l.length ≤ 1000) (hok : ∀ x ∈ l, evOk x) : rdC (textB (prV l)) (m : Nat) = (0, l) := by
 have hle := strK_le l 8
 rw [prV_ok h, rdC_pk _ (by unfold strS; omega) _ (by omega) (by omega)]
 exact rdS_back l m hl hm (chE_zero h).2 hok
theorem rdC_few (l : List Ev) (m : Nat) (h : (chE l).2 = 0) (hl : m < l.length) (hs : l.length ≤ 1000) (hok : ∀ x ∈ l, evOk x) : rdC (textB (prV l)) (m : Nat) = (3, []) := by
 have hle := strK_le l 8
 rw [prV_ok h, rdC_pk _ (by unfold strS; omega) _ (by omega) (by omega)]
 exact rdS_few l m hl (by omega) (chE_zero h).2 hok
section
variable {W : World} {H : Type} {enc : TypeId × Value → H}
def EvArg (w : World) (a : Option Addr) (len cap : Nat) (l : List Ev) : Prop := l.length = len ∧ EvsAt w a cap l ∧ ∀ x ∈ l, evOk x
theorem opened22 {base : Nat} {a : Option Addr} {len cap : Nat} {d : DataW H} {p : List MemPlace}
  (_ : Value.okWide Try.prog W .any base 22 (.slice a len cap)) (h : DataW.Trod enc Try.prog W 0 (fun _ => true) true 22 (.slice a len cap) d p) : ∃ l : List Ev, EvArg W a len cap l := by
 obtain ⟨l, _, h1, h2, h3⟩ := argOf (f := evF) (sz := 5) (ok := evOk) Try.underlying22 (by kernel_rfl) (by omega) (fun n cs y hl h => ev_open hl h) h
 subst h1
 exact ⟨l, rfl, h2, h3⟩
end
theorem read_sizes (z : List Ev) (h : (chE z).2 = 0) (hs : z.length ≤ 1000) : (textB (prV z)).size ≤ 1099511627776 ∧ (textB (unT (textB (prV z)) 4194304)).size ≤ 1099511627776 := by
 have hle := strK_le z 8
 have hS : (strS z).length ≤ 1000000 := by unfold strS; omega
 rw [prV_ok h]
 refine ⟨by rw [textB_size]; exact pk_small21 _ (by omega), ?_⟩
 rw [(un_any _ (by omega) 4194304 (by omega)).2, textB_size]; omega
theorem chunkRead_back (z : List Ev) (M : Nat) (w : World) (h : (chE z).2 = 0) (hl : z.length ≤ M) (hM : M ≤ 65536) (hs : z.length ≤ 1000) (hok : ∀ x ∈ z, evOk x) :
  Calls Try.prog 9 #[.string (textB (prV z)), .int .i64 (M : Int)] w fun e w' => ∃ v, e = .returned (.tuple #[v, .int .i64 0]) ∧ w'.ownsRow w.heap.size 36 5 v z.length (rowsOf evF z) ∧ Below w.heap.size w w' := by
 obtain ⟨h1, h2⟩ := read_sizes z h hs
 have := chunkRead (textB (prV z)) (M : Int) w h1 (by omega) h2
 rw [rdC_back z M h hl hM hs hok] at this
 exact this
theorem chunkRead_few (z : List Ev) (w : World) (h : (chE z).2 = 0) (hs : z.length ≤ 1000) (hok : ∀ x ∈ z, evOk x) :
  Calls Try.prog 9 #[.string (textB (prV z)), .int .i64 ((z.length : Int) - 1)] w fun e w' => ∃ v, e = .returned (.tuple #[v, .int .i64 ((if z.length = 0 then 1 else 3 : Nat) : Int)]) ∧ w'.ownsRow w.heap.size 36 5 v 0 [] ∧ Below w.heap.size w w' := by
 obtain ⟨h1, h2⟩ := read_sizes z h hs
 have hr := chunkRead (textB (prV z)) ((z.length : Int) - 1) w h1 (by omega) h2
 have : rdC (textB (prV z)) ((z.length : Int) - 1) = (if z.length = 0 then 1 else 3, []) := by
  by_cases h0 : z.length = 0
  ·rw [if_pos h0]; unfold rdC; rw [if_pos (.inl (by omega))]
  ·rw [if_neg h0, show (z.length : Int) - 1 = ((z.length - 1 : Nat) : Int) by omega]
   exact rdC_few z _ h (by omega) hs hok
 rw [this] at hr
 exact hr
set_option maxHeartbeats 8000000 in
set_option maxRecDepth 100000 in
theorem back_walk (a : Option Addr) (len cap : Nat) (z : List Ev) (m : Int) (W : World) (h : EvArg W a len cap z) (wm : (Lit.int .i64 m).wf = true) :
  Calls Try.prog 3 #[.slice a len cap, .int .i64 m] W fun e w' => e = .returned (.bool true) ∧ Below W.heap.size W w' := by
 obtain ⟨rfl, hz, hok⟩ := h
 obtain ⟨A', c', e', h1, h2, _⟩ := hz.form
 simp only [Value.slice.injEq, true_and] at e'
 obtain ⟨rfl, rfl⟩ := e'
 unfold maxLen at h2
 have HZ := Lib.hid (fun (q : World) (hq : Below W.heap.size W q) => SeqS.later hz hq)
 have HB := Lib.hid (Below.refl W.heap.size W)
 have HRC := Lib.hid (fun A c w h => rfCheck15 z A c w h)
 have HPR := Lib.hid (fun A c w h => chunkPrint z A c w h hok)
 have HSM := Lib.hid (fun A c w h k => rfSame15 z z a cap A c w h k)
 rw [decide_eq_true (rfl : z = z)] at HSM
 have hbk := fun (hc : (chE z).2 = 0) (h3 : ¬ 300 < z.length) (M : Nat) (w : World) (hM : z.length ≤ M) (hM2 : M ≤ 65536) => chunkRead_back z M w hc hM hM2 (by omega) hok
 have hfw := fun (hc : (chE z).2 = 0) (h3 : ¬ 300 < z.length) (w : World) => chunkRead_few z w hc (by omega) hok
 obtain ⟨p, k, hpk⟩ : ∃ p k, chE z = (p, k) := ⟨_, _, rfl⟩
 rw [hpk] at HRC HPR hbk hfw
 simp only at HRC HPR hbk hfw
 clear hpk hz hok
 by_cases hl : 300 < z.length
 ·have e1 : decide (300 < z.length) = true := decide_eq_true hl
  have e2 : decide ((300 : Int) < (z.length : Int)) = true := decide_eq_true (by omega)
  clear hbk hfw HRC HPR HSM
  go_enter Try.func3, Try.ntmps3
  go_wp2_with fail
  refine (awake21 W).mono ?_
  rintro e w1 ⟨rfl, hb1⟩
  have HB1 := Lib.hid (HB.out.trans (hb1.mono HB.out.size))
  clear hb1
  go_wp2_with fail
  refine (awake21 w1).mono ?_
  rintro e w2 ⟨rfl, hb2⟩
  have HB2 := Lib.hid (HB1.out.trans (hb2.mono HB1.out.size))
  clear hb2
  go_wp2
  go_ret
  exact ⟨rfl, HB2.out⟩
 have e1 : decide (300 < z.length) = false := decide_eq_false hl
 have e2 : decide ((300 : Int) < (z.length : Int)) = false := decide_eq_false (by omega)
 have HBK := Lib.hid (fun hc => hbk hc hl)
 have HFW := Lib.hid (fun hc => hfw hc hl)
 clear hbk hfw
 generalize textB (prV z) = P at *
 obtain ⟨K, hK, hK9⟩ : ∃ K : Nat, IntKind.u64.wrap m % 1000 = (K : Int) ∧ K < 1000 := by
  have : 0 ≤ IntKind.u64.wrap m % 1000 ∧ IntKind.u64.wrap m % 1000 < 1000 := by omega
  exact ⟨(IntKind.u64.wrap m % 1000).toNat, by omega, by omega⟩
 have hw0 : 0 ≤ IntKind.u64.wrap m ∧ IntKind.u64.wrap m < 18446744073709551616 := by rw [IntKind.wrap_u64]; omega
 obtain ⟨U, hU⟩ : ∃ U, U = IntKind.u64.wrap m := ⟨_, rfl⟩
 have hu2 := hU.symm
 rw [← hU] at hK hw0
 have t1 : U.tmod 1000 = (K : Int) := by rw [Int.tmod_eq_emod_of_nonneg hw0.1]; exact hK
 have t2 : IntKind.u64.wrap (U.tmod 1000) = (K : Int) := by rw [t1, IntKind.wrap_u64]; omega
 have t3 : IntKind.u64.wrap (K : Int) = (K : Int) := by rw [IntKind.wrap_u64]; omega
 have t4 : IntKind.i64.wrap (K : Int) = (K : Int) := by rw [IntKind.wrap_i64]; omega
 have t5 : IntKind.i64.wrap ((z.length : Int) + (K : Int)) = (z.length : Int) + (K : Int) := by rw [IntKind.wrap_i64]; omega
 have t6 : IntKind.i64.wrap ((z.length : Int) - 1) = (z.length : Int) - 1 := by rw [IntKind.wrap_i64]; omega
 clear hU hK
 have HLN : Hid (z.length ≤ z.length + K ∧ z.length + K ≤ 65536) := Lib.hid (And.intro (by omega) (by omega))
 go_enter Try.func3, Try.ntmps3
 go_wp2_with fail
 refine (awake21 W).mono ?_
 rintro e w1 ⟨rfl, hb1⟩
 replace HB := Lib.hid (HB.out.trans (hb1.mono HB.out.size))
 clear hb1
 go_wp2_with fail
 refine (HRC.out _ _ _ (HZ.out _ HB.out)).mono ?_
 rintro e w2 ⟨rfl, hb2⟩
 replace HB := Lib.hid (HB.out.trans (hb2.mono HB.out.size))
 clear hb2 HRC
 by_cases hk : k = 0
 case neg =>
  have e3 : ((k : Int) != 0) = true := by rw [bne_iff_ne]; omega
  have e4 : (k != 0) = true := by rw [bne_iff_ne]; exact hk
  clear hk HBK HFW HPR HSM
  go_wp2
  go_ret
  exact ⟨rfl, HB.out⟩
 subst hk
 replace HBK := Lib.hid (fun w => HBK.out rfl (z.length + K) w HLN.out.1 HLN.out.2)
 replace HFW := Lib.hid (HFW.out rfl)
 go_wp2_with fail
 refine (HPR.out _ _ _ (HZ.out _ HB.out)).mono ?_
 rintro e w3 ⟨rfl, hb3⟩
 replace HB := Lib.hid (HB.out.trans (hb3.mono HB.out.size))
 clear hb3 HPR
 go_wp2_with fail
 refine (show Calls Try.prog 9 #[.string P, .int .i64 ((z.length : Int) + (K : Int))] w3 _ from HBK.out w3).mono ?_
 rintro e w4 ⟨v4, rfl, ho4, hb4⟩
 replace HB := Lib.hid (HB.out.trans (hb4.mono HB.out.size))
 have HO4 := Lib.hid ho4
 obtain ⟨A4, c4, rfl⟩ := own_sl21 ho4
 clear hb4 ho4 HBK t1 t2 t3 t4 t5 hu2 hw0
 go_wp2_with fail
 refine (HSM.out _ _ _ (HZ.out _ HB.out) (SeqS.of_owns HO4.out)).mono ?_
 rintro e w5 ⟨rfl, hb5⟩
 replace HB := Lib.hid (HB.out.trans (hb5.mono HB.out.size))
 clear hb5 HSM HO4
 go_wp2_with fail
 refine (HFW.out w5).mono ?_
 rintro e w6 ⟨v6, rfl, ho6, hb6⟩
 replace HB := Lib.hid (HB.out.trans (hb6.mono HB.out.size))
 obtain ⟨A6, c6, rfl⟩ := own_sl21 ho6
 clear hb6 ho6 HFW
 by_cases h0 : z.length = 0
 ·have x1 : ((z.length : Int) == 0) = true := by rw [beq_iff_eq]; omega
  have x2 : (z.length == 0) = true := by rw [beq_iff_eq]; exact h0
  rw [if_pos h0]
  clear h0
  go_wp2
  go_ret
  exact ⟨rfl, HB.out⟩
 ·have x1 : ((z.length : Int) == 0) = false := by rw [beq_eq_false_iff_ne]; omega
  have x2 : (z.length == 0) = false := by rw [beq_eq_false_iff_ne]; exact h0
  rw [if_neg h0]
  clear h0
  go_wp2
  go_ret
  exact ⟨rfl, HB.out⟩
end Go.Proofs.Ytmadgdmiipgjoaa
