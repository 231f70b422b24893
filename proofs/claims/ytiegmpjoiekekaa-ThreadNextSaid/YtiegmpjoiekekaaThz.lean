import Derived.Test.YtiegmpjoiekekaaRelyx
import Derived.Test.YtiegmpjoiekekaaTwo
import Derived.Test.YtiegmpjoiekekaaThx
/-
  A variable of struct type in a region that draws its order: made by one operation, stored into by another one.
-/
namespace Go.Proofs.Ytiegmpjoiekekaa
open Go.RowKit
set_option linter.unusedVariables false
set_option linter.unusedSimpArgs false
/-- Operation i makes it, operation k stores what operation m left. -/
def BkS (T : TypeId) (i k m : Nat) (z0 : Array Value) (N : Nat) (x : Nat → Value) (L : Nat → Bool) (q : World) : Prop :=
  (L k = true → L i = true ∧ L m = true) ∧ (L i = true → ∃ g a, x i = .pointer (some ⟨g, 0, none⟩) ∧ N ≤ g ∧ Lies q g T a ∧ (L k = false → a = z0) ∧ (L k = true → x m = .agg a))
section
variable {T : TypeId} {i k m : Nat} {z0 : Array Value} {N : Nat} {x : Nat → Value} {L : Nat → Bool} {q q' : World}
theorem updL_ne {j a : Nat} (h : j ≠ a) : updL L a j = L j := by
  unfold updL
  rw [show (j == a) = false by rw [beq_eq_false_iff_ne]; exact h, Bool.false_or]
theorem updX_ne {j a : Nat} {v : Value} (h : j ≠ a) : updX x a v j = x j := by unfold updX; rw [if_neg h]
theorem updL_at {a : Nat} : updL L a a = true := by simp [updL]
theorem updX_at {a : Nat} {v : Value} : updX x a v a = v := by simp [updX]
theorem bk_none : BkS T i k m z0 N x (fun _ => false) q := ⟨(fun h => by cases h), fun h => by cases h⟩
theorem bk_kept {S : Nat → Prop} (h : BkS T i k m z0 N x L q) (hk : Kept S q q') (hS : ∀ g a, Lies q g T a → ¬ S g) : BkS T i k m z0 N x L q' := by
  refine ⟨h.1, fun hi => ?_⟩
  obtain ⟨g, a, h1, h2, h3, h4, h5⟩ := h.2 hi
  exact ⟨g, a, h1, h2, h3.kept hk (hS g a h3), h4, h5⟩
theorem bk_below (h : BkS T i k m z0 N x L q) (hb : Below q.heap.size q q') : BkS T i k m z0 N x L q' := bk_kept h (Kept.of_below hb) (fun _ _ _ e => e)
/-- Another operation. -/
theorem bk_pure {j : Nat} {v : Value} (h : BkS T i k m z0 N x L q) (hj : (j != i && j != k) = true) (hL : L j = false) : BkS T i k m z0 N (updX x j v) (updL L j) q := by
  rw [Bool.and_eq_true, bne_iff_ne, bne_iff_ne] at hj
  unfold BkS
  rw [updL_ne (Ne.symm hj.1), updL_ne (Ne.symm hj.2), updX_ne (Ne.symm hj.1)]
  by_cases hm : m = j
  · subst hm
    refine ⟨fun hk => ⟨(h.1 hk).1, updL_at⟩, fun hi => ?_⟩
    obtain ⟨g, a, h1, h2, h3, h4, h5⟩ := h.2 hi
    exact ⟨g, a, h1, h2, h3, h4, fun hk => by have := (h.1 hk).2; rw [hL] at this; cases this⟩
  · rw [updL_ne hm, updX_ne hm]
    exact h
/-- It is made. -/
theorem bk_made (h : BkS T i k m z0 N x L q) (hL : L i = false) (hki : k ≠ i) (hmi : m ≠ i) (hN : N ≤ q.heap.size) : BkS T i k m z0 N (updX x i (.pointer (some ⟨q.heap.size, 0, none⟩))) (updL L i) (q.alloc (.cells z0 T)) := by
  unfold BkS
  rw [updL_at, updX_at, updL_ne hki, updL_ne hmi, updX_ne hmi]
  have hk : L k = false := by
    cases hk : L k with
    | false => rfl
    | true => have := (h.1 hk).1; rw [hL] at this; cases this
  rw [hk]
  exact ⟨(fun h => by cases h), fun _ => ⟨_, z0, rfl, hN, Lies.made _ _ _, fun _ => rfl, fun h => by cases h⟩⟩
/-- It is stored into. -/
theorem bk_open (h : BkS T i k m z0 N x L q) (hi : L i = true) (hk : L k = false) : ∃ g, x i = .pointer (some ⟨g, 0, none⟩) ∧ N ≤ g ∧ Lies q g T z0 := by
  obtain ⟨g, a, h1, h2, h3, h4, _⟩ := h.2 hi
  obtain rfl := h4 hk
  exact ⟨g, h1, h2, h3⟩
theorem bk_store {v : Value} {g : Nat} {a : Array Value} (hi : L i = true) (hm : L m = true) (hki : k ≠ i) (hmk : k ≠ m) (h1 : x i = .pointer (some ⟨g, 0, none⟩)) (h2 : N ≤ g) (h3 : Lies q g T z0) (hv : x m = .agg a) : BkS T i k m z0 N (updX x k v) (updL L k) (q.setRow g a) := by
  unfold BkS
  rw [updL_at, updL_ne (Ne.symm hki), updX_ne (Ne.symm hki), updL_ne (Ne.symm hmk), updX_ne (Ne.symm hmk)]
  exact ⟨fun _ => ⟨hi, hm⟩, fun _ => ⟨g, a, h1, h2, lies_row h3 a, (fun h => by cases h), fun _ => hv⟩⟩
theorem bk_done (h : BkS T i k m z0 N x L q) (hi : L i = true) (hk : L k = true) : ∃ g a, x i = .pointer (some ⟨g, 0, none⟩) ∧ N ≤ g ∧ Lies q g T a ∧ x m = .agg a := by
  obtain ⟨g, a, h1, h2, h3, _, h5⟩ := h.2 hi
  exact ⟨g, a, h1, h2, h3, h5 hk⟩
end
theorem kept_fr {B : Nat} {w w' : World} (h : Below B w w') : Kept (fun k => B ≤ k) w w' := ⟨h.os, h.tape, h.output, h.size, fun k hk hn => h.block k (by omega)⟩
end Go.Proofs.Ytiegmpjoiekekaa
/-
  What the operations of a law's region leave: values, rows of the call's own, states.
-/
namespace Go.Proofs.Ytiegmpjoiekekaa
open Go.RowKit
set_option linter.unusedVariables false
set_option linter.unusedSimpArgs false
inductive Fk where
  | eq (v : Value)
  | row (e : TypeId) (sz n : Nat) (xs : List Value)
  | st (z : Th)
  | tup (z : Th) (rest : List Value)
  | any
def Fk.holds (N : Nat) (f : Fk) (u : Value) (q : World) : Prop :=
  match f with
  | .eq v => u = v
  | .row e sz n xs => q.ownsRow N e sz u n xs
  | .st z => OwnTh q N z u
  | .tup z rest => ∃ u1, u = .tuple (u1 :: rest).toArray ∧ OwnTh q N z u1
  | .any => True
def Fk.typ (f : Fk) : Option TypeId :=
  match f with
  | .row e _ _ _ => some e
  | .st _ => some 23
  | .tup _ _ => some 23
  | _ => none
def fkV (N : Nat) (fs : List Fk) (j : Nat) (u : Value) (q : World) : Prop := (fs.getD j .any).holds N u q
section
variable {N : Nat} {f : Fk} {fs : List Fk} {j : Nat} {u : Value} {q q' : World}
theorem ownTh_kept {S : Nat → Prop} {B : Nat} {z : Th} (h : OwnTh q B z u) (k : Kept S q q') (hS : ∀ r a, Lies q r 23 a → ¬ S r) : OwnTh q' B z u := by
  obtain ⟨A, c, h1, h2⟩ := h
  exact ⟨A, c, h1, owns_kept h2 k (fun r cur _ hl => hS r cur hl)⟩
theorem ownTh_mono {B B' : Nat} {z : Th} (h : OwnTh q B z u) (hB : B' ≤ B) : OwnTh q B' z u := by
  obtain ⟨A, c, h1, h2⟩ := h
  exact ⟨A, c, h1, owns_mono h2 hB⟩
theorem fk_kept {S : Nat → Prop} (k : Kept S q q') (h : ∀ e, f.typ = some e → ∀ r a, Lies q r e a → ¬ S r) (hh : f.holds N u q) : f.holds N u q' := by
  cases f with
  | eq v => exact hh
  | row e sz n xs => exact owns_kept hh k (fun r cur _ hl => h e rfl r cur hl)
  | st z => exact ownTh_kept hh k (h _ rfl)
  | tup z rest =>
    obtain ⟨u1, h1, h2⟩ := hh
    exact ⟨u1, h1, ownTh_kept h2 k (h _ rfl)⟩
  | any => trivial
theorem fkV_below (hb : Below q.heap.size q q') (h : fkV N fs j u q) : fkV N fs j u q' := fk_kept (Kept.of_below hb) (fun _ _ _ _ _ e => e) h
theorem fkV_row {g : Nat} {T : TypeId} {old : Array Value} (cs : Array Value) (hl : Lies q g T old) (hT : (fs.getD j .any).typ ≠ some T) (h : fkV N fs j u q) : fkV N fs j u (q.setRow g cs) :=
  fk_kept (kept_rowS (S := fun k => k = g) cs rfl) (fun e he r a hr (e2 : r = g) => by subst e2; exact hT (by rw [he, (hr.same hl).1])) h
theorem fkV_grow {B sz n : Nat} {E : TypeId} {y : Value} {xs : List Value} (ho : q.ownsRow B E sz y n xs) (k : Kept (fun i => y.ownBlock = some i) q q') (hT : (fs.getD j .any).typ ≠ some E) (h : fkV N fs j u q) : fkV N fs j u q' :=
  fk_kept k (fun e he r a hr hs => own_ne ho hr (fun e2 => hT (by rw [he, e2])) hs) h
theorem all_typ {l : List Nat} {E : TypeId} (h : l.all (fun j => (fs.getD j .any).typ != some E) = true) (hj : j ∈ l) : (fs.getD j .any).typ ≠ some E := by
  have := List.all_eq_true.1 h j hj
  exact bne_iff_ne.1 this
end
/-- How memory stands in the course of a region that makes two variables. -/
def lwS (w9 : World) (T U : TypeId) (i k m : Nat) (z : Array Value) (i2 k2 m2 : Nat) (z2 : Array Value) (x : Nat → Value) (L : Nat → Bool) (q : World) : Prop :=
  Below w9.heap.size w9 q ∧ BkS T i k m z w9.heap.size x L q ∧ BkS U i2 k2 m2 z2 w9.heap.size x L q
section
variable {w9 : World} {T U : TypeId} {i k m : Nat} {z : Array Value} {i2 k2 m2 : Nat} {z2 : Array Value} {x : Nat → Value} {L : Nat → Bool} {q q' : World} {j : Nat} {v : Value}
theorem lw_start : lwS w9 T U i k m z i2 k2 m2 z2 x (fun _ => false) (w9.drewN 1) := ⟨below_drewN (Below.refl _ _) 1, bk_none, bk_none⟩
theorem lw_le (h : lwS w9 T U i k m z i2 k2 m2 z2 x L q) : w9.heap.size ≤ q.heap.size := h.1.size
theorem lw_pure (hj : (j != i && j != k && (j != i2 && j != k2)) = true) (h : lwS w9 T U i k m z i2 k2 m2 z2 x L q) (hL : L j = false := by assumption) : lwS w9 T U i k m z i2 k2 m2 z2 (updX x j v) (updL L j) q := by
  rw [Bool.and_eq_true] at hj
  exact ⟨h.1, bk_pure h.2.1 hj.1 hL, bk_pure h.2.2 hj.2 hL⟩
theorem lw_below (hj : (j != i && j != k && (j != i2 && j != k2)) = true) (h : lwS w9 T U i k m z i2 k2 m2 z2 x L q) (hb : Below q.heap.size q q') (hL : L j = false := by assumption) : lwS w9 T U i k m z i2 k2 m2 z2 (updX x j v) (updL L j) q' :=
  lw_pure hj ⟨h.1.trans (hb.mono h.1.size), bk_below h.2.1 hb, bk_below h.2.2 hb⟩ hL
/-- A row of the region's own grows. -/
theorem lw_grow {E : TypeId} {sz n : Nat} {y : Value} {xs : List Value} (hj : (j != i && j != k && (j != i2 && j != k2)) = true) (h : lwS w9 T U i k m z i2 k2 m2 z2 x L q) (hb : Below w9.heap.size q q') (ho : q.ownsRow w9.heap.size E sz y n xs) (hk : Kept (fun i => y.ownBlock = some i) q q') (hT : E ≠ T) (hU : E ≠ U) (hL : L j = false := by assumption) : lwS w9 T U i k m z i2 k2 m2 z2 (updX x j v) (updL L j) q' :=
  lw_pure hj ⟨h.1.trans hb, bk_kept h.2.1 hk (fun g a hl hs => own_ne ho hl hT hs), bk_kept h.2.2 hk (fun g a hl hs => own_ne ho hl hU hs)⟩ hL
theorem lw_made1 (hd : (k != i && m != i && (i != i2 && i != k2)) = true) (h : lwS w9 T U i k m z i2 k2 m2 z2 x L q) (hL : L i = false := by assumption) : lwS w9 T U i k m z i2 k2 m2 z2 (updX x i (.pointer (some ⟨q.heap.size, 0, none⟩))) (updL L i) (q.alloc (.cells z T)) := by
  simp only [Bool.and_eq_true, bne_iff_ne] at hd
  have hb : Below q.heap.size q (q.alloc (.cells z T)) := (Below.refl _ _).alloc (Nat.le_refl _) _
  exact ⟨h.1.trans (hb.mono h.1.size), bk_made h.2.1 hL hd.1.1 hd.1.2 h.1.size, bk_pure (bk_below h.2.2 hb) (by simp only [Bool.and_eq_true, bne_iff_ne]; exact hd.2) hL⟩
theorem lw_made2 (hd : (k2 != i2 && m2 != i2 && (i2 != i && i2 != k)) = true) (h : lwS w9 T U i k m z i2 k2 m2 z2 x L q) (hL : L i2 = false := by assumption) : lwS w9 T U i k m z i2 k2 m2 z2 (updX x i2 (.pointer (some ⟨q.heap.size, 0, none⟩))) (updL L i2) (q.alloc (.cells z2 U)) := by
  simp only [Bool.and_eq_true, bne_iff_ne] at hd
  have hb : Below q.heap.size q (q.alloc (.cells z2 U)) := (Below.refl _ _).alloc (Nat.le_refl _) _
  exact ⟨h.1.trans (hb.mono h.1.size), bk_pure (bk_below h.2.1 hb) (by simp only [Bool.and_eq_true, bne_iff_ne]; exact hd.2) hL, bk_made h.2.2 hL hd.1.1 hd.1.2 h.1.size⟩
theorem lw_store1 {g : Nat} {a : Array Value} (hd : (k != i && k != m && (k != i2 && k != k2)) = true) (h : lwS w9 T U i k m z i2 k2 m2 z2 x L q) (hi : L i = true) (hm : L m = true) (h1 : x i = .pointer (some ⟨g, 0, none⟩)) (h2 : w9.heap.size ≤ g) (h3 : Lies q g T z) (hv : x m = .agg a) (hTU : U ≠ T) (hL : L k = false := by assumption) : lwS w9 T U i k m z i2 k2 m2 z2 (updX x k v) (updL L k) (q.setRow g a) := by
  simp only [Bool.and_eq_true, bne_iff_ne] at hd
  have hk := kept_rowS (w := q) (g := g) (S := fun i => i = g) a rfl
  exact ⟨h.1.trans (hk.below h.1.size (fun i hi (e : i = g) => by omega)), bk_store hi hm hd.1.1 hd.1.2 h1 h2 h3 hv, bk_pure (bk_kept h.2.2 hk (fun g2 a2 hl (e : g2 = g) => by subst e; exact hTU (hl.same h3).1)) (by simp only [Bool.and_eq_true, bne_iff_ne]; exact hd.2) hL⟩
theorem lw_store2 {g : Nat} {a : Array Value} (hd : (k2 != i2 && k2 != m2 && (k2 != i && k2 != k)) = true) (h : lwS w9 T U i k m z i2 k2 m2 z2 x L q) (hi : L i2 = true) (hm : L m2 = true) (h1 : x i2 = .pointer (some ⟨g, 0, none⟩)) (h2 : w9.heap.size ≤ g) (h3 : Lies q g U z2) (hv : x m2 = .agg a) (hTU : T ≠ U) (hL : L k2 = false := by assumption) : lwS w9 T U i k m z i2 k2 m2 z2 (updX x k2 v) (updL L k2) (q.setRow g a) := by
  simp only [Bool.and_eq_true, bne_iff_ne] at hd
  have hk := kept_rowS (w := q) (g := g) (S := fun i => i = g) a rfl
  exact ⟨h.1.trans (hk.below h.1.size (fun i hi (e : i = g) => by omega)), bk_pure (bk_kept h.2.1 hk (fun g2 a2 hl (e : g2 = g) => by subst e; exact hTU (hl.same h3).1)) (by simp only [Bool.and_eq_true, bne_iff_ne]; exact hd.2) hL, bk_store hi hm hd.1.1 hd.1.2 h1 h2 h3 hv⟩
end
theorem lw_op {w9 : World} {T U : TypeId} {ia k m : Nat} {z : Array Value} {i2 k2 m2 : Nat} {z2 : Array Value} {x : Nat → Value} {L : Nat → Bool} {q : World} {i : Nat} {v : Value} (hj : (i != ia && i != k && (i != i2 && i != k2)) = true) (h : lwS w9 T U ia k m z i2 k2 m2 z2 x L q) (hL : L i = false := by assumption) : lwS w9 T U ia k m z i2 k2 m2 z2 (updX x i v) (updL L i) q := lw_pure hj h hL
end Go.Proofs.Ytiegmpjoiekekaa
/-
  The law's example (layer 16); own; two asks compared.
-/
namespace Go.Proofs.Ytiegmpjoiekekaa
open Go.RowKit
set_option linter.unusedVariables false
set_option linter.unusedSimpArgs false
def smpL : List In := [⟨1, 1, 0, 0, 0, 5⟩, ⟨3, 1, 1, 1, 0, 0⟩, ⟨24, 1, 0, 0, 0, 0⟩, ⟨25, 0, 0, 0, 0, 0⟩]
def sndL : List In := [⟨18, 2, 3, 1, 0, 0⟩]
set_option maxHeartbeats 2000000 in
set_option maxRecDepth 100000 in
theorem smp16 (w : World) : Calls Try.prog 22 #[] w fun e w' => ∃ v, e = .returned v ∧ w'.ownsRow w.heap.size 50 6 v 4 (rowsOf inF smpL) ∧ Below w.heap.size w w' := by
  have hb := (Below.refl w.heap.size w).alloc (Nat.le_refl _) (.cells (rowsOf inF smpL).toArray 50)
  have ho := World.ownsRow_lit (base := w.heap.size) (e := 50) (size := 6) w (rowsOf inF smpL).toArray 4 (Nat.le_refl _) (by unfold maxLen; omega) rfl
  have HB := Lib.hid hb
  have HO := Lib.hid ho
  clear hb ho
  go_enter Try.func22, Try.ntmps22
  go_wp2
  go_ret
  exact ⟨_, rfl, HO.out, HB.out⟩
theorem akHeld : Try.prog.stoodInHeld 31 = false := by kernel_rfl
theorem akGuard : Try.prog.eqGuardType Try.prog.depth 31 = false := by kernel_rfl
theorem akHeld2 : Try.prog.stoodInHeld 37 = false := by kernel_rfl
theorem akGuard2 : Try.prog.eqGuardType Try.prog.depth 37 = false := by kernel_rfl
instance : DecidableEq Ak := fun a b => if h : a.kd = b.kd ∧ a.rg = b.rg ∧ a.md = b.md ∧ a.rd = b.rd ∧ a.tk = b.tk ∧ a.vl = b.vl then isTrue (by cases a; cases b; simp_all) else isFalse (fun e => h (by rw [e]; simp))
theorem akEql (x y : Ak) (w : World) : (binOp .eql 31 (.agg (akC x)) (.agg (akC y))).run Try.prog w = .ok (.bool (decide (x = y))) w := by
  have h1 := akHeld
  rw [run_eql_struct, run_equalIn_agg w 9999 _ _ _ (by simp only [Program.fieldsOf, Try.underlying31]) h1]
  simp only [Program.fieldsOf, Try.underlying31]
  obtain ⟨a, b, c, d, e, f⟩ := x
  obtain ⟨a', b', c', d', e', f'⟩ := y
  simp [go_sem]
  by_cases e1 : a = a'
  · by_cases e2 : b = b'
    · by_cases e3 : c = c'
      · by_cases e4 : d = d'
        · by_cases e5 : e = e'
          · by_cases e6 : f = f'
            · simp [e1, e2, e3, e4, e5, e6]
            · simp [e1, e2, e3, e4, e5, e6]; try omega
          · simp [e1, e2, e3, e4, e5]; try omega
        · simp [e1, e2, e3, e4]; try omega
      · simp [e1, e2, e3]; try omega
    · simp [e1, e2]; try omega
  · simp [e1]; try omega
theorem akEql2 (x y : Ak) (w : World) : (binOp .eql 37 (.agg (akC x)) (.agg (akC y))).run Try.prog w = .ok (.bool (decide (x = y))) w := by
  have h1 := akHeld2
  rw [run_eql_struct, run_equalIn_agg w 9999 _ _ _ (by simp only [Program.fieldsOf, Try.underlying37]) h1]
  simp only [Program.fieldsOf, Try.underlying37]
  obtain ⟨a, b, c, d, e, f⟩ := x
  obtain ⟨a', b', c', d', e', f'⟩ := y
  simp [go_sem]
  by_cases e1 : a = a'
  · by_cases e2 : b = b'
    · by_cases e3 : c = c'
      · by_cases e4 : d = d'
        · by_cases e5 : e = e'
          · by_cases e6 : f = f'
            · simp [e1, e2, e3, e4, e5, e6]
            · simp [e1, e2, e3, e4, e5, e6]; try omega
          · simp [e1, e2, e3, e4, e5]; try omega
        · simp [e1, e2, e3, e4]; try omega
      · simp [e1, e2, e3]; try omega
    · simp [e1, e2]; try omega
  · simp [e1]; try omega
set_option maxHeartbeats 2000000 in
set_option maxRecDepth 100000 in
theorem own16 (a : Ak) (w : World) : Calls Try.prog 16 #[.agg (akC a)] w fun e w' => e = .returned (.agg (akC a)) ∧ Below w.heap.size w w' := by
  have hb := ((Below.refl w.heap.size w).alloc (Nat.le_refl _) (.cells (akC a) 31)).alloc (by simp) (.cells (akC a) 37)
  have HB := Lib.hid hb
  clear hb
  go_enter Try.func16, Try.ntmps16
  go_wp2
  exact bodyPost_ret (by simp [results, Try.results16, go_sem]) rfl ⟨rfl, HB.out⟩
end Go.Proofs.Ytiegmpjoiekekaa
/-
  What comes of a thread is in bounds (layer 16); the law's closed cases.
-/
namespace Go.Proofs.Ytiegmpjoiekekaa
open Go.RowKit
set_option linter.unusedVariables false
set_option linter.unusedSimpArgs false
theorem thOkO : thOk thO := by
  refine ⟨?_, ?_, ?_, ?_, ?_, ?_, ?_⟩ <;> simp [thO, i64]
theorem nx_rest {l : List In} {x : Th} : (nxT l x).ph = x.ph ∧ (nxT l x).rg = x.rg ∧ (nxT l x).st = x.st ∧ (nxT l x).tk = x.tk ∧ (nxT l x).sn = x.sn := by
  by_cases hh : x.st = 0 ∧ x.ph = 0
  · rw [nxT_run hh.1 hh.2]; exact goT_rest l 256 x
  · rw [nxT_not hh]; exact ⟨rfl, rfl, rfl, rfl, rfl⟩
theorem thOk_nx {l : List In} {x : Th} (hr : thB l x = true) (hx : thOk x) (hok : ∀ i ∈ l, inOk i) : thOk (nxT l x) := by
  obtain ⟨hc, hin, hp⟩ := thB_parts hr
  have hlen := (codeB_parts hc).1
  obtain ⟨i1, i2, i3⟩ := (nxT_facts hr hx hok).1
  obtain ⟨r1, r2, r3, r4, r5⟩ := nx_rest (l := l) (x := x)
  obtain ⟨h1, h2, h3, h4, h5, h6, h7⟩ := hx
  refine ⟨by unfold i64; omega, by rw [r1]; exact h2, by rw [r2]; exact h3, by rw [r3]; exact h4, by rw [r4]; exact h5, i3, by rw [r5]; exact h7⟩
theorem setR_max {x : Th} {i u : Nat} (h : ∀ j, x.r j ≤ 18446744073709551615) (hu : u ≤ 18446744073709551615) : ∀ j, (setR x i u).r j ≤ 18446744073709551615 := setR_le h hu
theorem regT_r {i : In} {y : Th} {e : Ev} {v : Nat} (h : ∀ j, y.r j ≤ 18446744073709551615) (hv : v ≤ 18446744073709551615) (he : e.vl ≤ 18446744073709551615) : ∀ j, (regT i y e v).r j ≤ 18446744073709551615 := by
  unfold regT
  repeat' split
  · exact setR_max h (by omega)
  · exact setR_max (setR_max h hv) (by omega)
  · exact setR_max h (by omega)
  · exact setR_max h (by omega)
  · exact setR_max h (by omega)
  · exact setR_max h he
  · exact setR_max (setR_max h he) (by omega)
  · exact setR_max h (by omega)
  · exact h
theorem regT_at {i : In} {y : Th} {e : Ev} {v : Nat} : (regT i y e v).at_ = y.at_ ∧ (regT i y e v).st = y.st := by
  unfold regT
  repeat' split
  all_goals exact ⟨rfl, rfl⟩
theorem thOk_beh {i : In} {y : Th} {e : Ev} {v : Nat} (hy : thOk y) (h0 : 0 ≤ y.at_) (h256 : y.at_ ≤ 256) (he : evOk e) (hv : v ≤ 18446744073709551615) : thOk (behT i y e v) := by
  obtain ⟨h1, h2, h3, h4, h5, h6, h7⟩ := hy
  obtain ⟨e1, e2, e3, e4, e5⟩ := he
  unfold behT
  split
  · exact ⟨h1, by simp [i64], e3, h4, e4, h6, h7⟩
  split
  · exact ⟨h1, by simp [i64], e3, h4, e4, h6, h7⟩
  split
  · exact ⟨h1, h2, h3, by simp [i64], h5, h6, h7⟩
  split
  · exact ⟨h1, h2, h3, by simp [i64], h5, h6, h7⟩
  split
  · refine ⟨by unfold i64 endT seeT; simp only; omega, by unfold i64 endT; simp only; omega, by unfold i64 endT; simp only; omega, h4, by unfold endT; simp only; omega, h6, fun n hn => ?_⟩
    unfold endT seeT at hn
    simp only [List.mem_append, List.mem_singleton] at hn
    rcases hn with hn | rfl
    · exact h7 n hn
    · exact e5
  · obtain ⟨q1, q2⟩ := regT_at (i := i) (y := y) (e := e) (v := v)
    refine ⟨?_, by unfold i64 endT; simp only; omega, by unfold i64 endT; simp only; omega, ?_, by unfold endT; simp only; omega, regT_r h6 hv e5, fun n hn => ?_⟩
    · unfold i64 endT; simp only; rw [q1]; omega
    · show i64 (regT i y e v).st
      rw [q2]; exact h4
    · have hn : n ∈ (regT i y e v).sn := hn
      rw [regT_sn] at hn
      exact h7 n hn
theorem thOk_do {l : List In} {x : Th} {e : Ev} {v : Nat} (hx : thOk x) (hok : ∀ i ∈ l, inOk i) (he : evOk e) (hv : v ≤ 18446744073709551615) : thOk (doZ l x e v).1 := by
  unfold doZ
  split
  case isFalse => exact thOkO
  rename_i hr
  split
  case isFalse => exact thOkO
  split
  case isFalse => exact thOkO
  obtain ⟨i1, i2, _⟩ := (nxT_facts hr hx hok).1
  exact thOk_beh (thOk_nx hr hx hok) i1 (by have := (codeB_parts (thB_parts hr).1).1; omega) he hv
def e12 : Ev := ⟨0, 12, 0, 0, 10⟩
def e14 : Ev := ⟨0, 14, 0, 0, 0⟩
def e00 : Ev := ⟨0, 0, 0, 0, 0⟩
def e01 : Ev := ⟨0, 1, 1, 4, 0⟩
def thA5 : Th := ⟨5, 0, 0, 0, 0, fun _ => 0, []⟩
def smT : Th := (doZ smpL thO e12 0).1
def smU : Th := (doZ smpL smT e14 0).1
def smC : Th := (doZ sndL thO e01 0).1
theorem evOk_e {e : Ev} (h : e = e12 ∨ e = e14 ∨ e = e00 ∨ e = e01) : evOk e := by
  unfold evOk evI64
  rcases h with rfl | rfl | rfl | rfl
  · simp [e12]
  · simp [e14]
  · simp [e00]
  · simp [e01]
theorem smpOk : ∀ i ∈ smpL, inOk i := by
  intro i hi
  simp [smpL] at hi
  rcases hi with rfl | rfl | rfl | rfl
  all_goals (unfold inOk; simp [i64])
theorem sndOk : ∀ i ∈ sndL, inOk i := by
  intro i hi
  simp [sndL] at hi
  subst hi
  unfold inOk; simp [i64]
theorem okT : thOk smT := thOk_do thOkO smpOk (evOk_e (by simp)) (by omega)
theorem okU : thOk smU := thOk_do okT smpOk (evOk_e (by simp)) (by omega)
theorem okC : thOk smC := thOk_do thOkO sndOk (evOk_e (by simp)) (by omega)
theorem okA5 : thOk thA5 := by
  refine ⟨?_, ?_, ?_, ?_, ?_, ?_, ?_⟩ <;> simp [thA5, i64]
theorem sc1 : (nxZ smpL thO).2.1 = ⟨7, 0, 0, 0, 0, 10⟩ ∧ (nxZ smpL thO).2.2 = 0 ∧ (nxZ smpL thO).1.at_ = 2 ∧ (nxZ smpL thO).1.r 1 = 10 := by decide +kernel
theorem sc2 : (doZ smpL thO e12 0).2 = 0 ∧ smT.at_ = 3 ∧ smT.sn.length = 1 := by decide +kernel
theorem sc3 : (doZ smpL smT e12 0).2 = 11 := by decide +kernel
theorem sc4 : (doZ smpL smT e14 0).2 = 0 ∧ smU.st = 1 ∧ smU.sn.length = 1 := by decide +kernel
theorem sc5 : (doZ smpL smT e00 0).2 = 3 := by decide +kernel
theorem sc6 : (nxZ smpL smU).2.1 = noneA 0 ∧ (nxZ smpL smU).2.2 = 0 := by decide +kernel
theorem sc7 : (nxZ smpL thA5).2.2 = 1 := by decide +kernel
theorem sc8 : (doZ sndL thO e01 0).2 = 0 ∧ smC.ph = 1 ∧ smC.sn.length = 0 := by decide +kernel
theorem sc9 : (nxZ sndL smC).2.1 = ⟨10, 1, 0, 0, 4, 0⟩ ∧ (nxZ sndL smC).2.2 = 0 := by decide +kernel
theorem sc10 : thB sndL smC = true ∧ thB sndL smU = false ∧ codeB sndL = true := by decide +kernel
end Go.Proofs.Ytiegmpjoiekekaa
