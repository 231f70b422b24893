/-
  code.Read (layer 9).
-/
import Derived.Test.YtebgcehcnenjiaaDoorSrc4
namespace Go.Proofs.YtebgcehcnenjiaaDoor
open Go.RowKit
set_option linter.unusedVariables false
set_option linter.unusedSimpArgs false
def rdP (s : ByteArray) : Pg := if rdB s = true then (prRd s 0 false).1 else ⟨[], []⟩
def rdC (s : ByteArray) : Int := if rdB s = true then 0 else 3
/-- A program and a flag of the call's own. -/
def PgTwo (w : World) (p : Pg) (v : Value) (e : Ending) (w' : World) : Prop := ∃ A c B d, e = .returned (.tuple #[.agg (pgC A c B d p), v]) ∧ PgAt w' A c B d p ∧ Below w.heap.size w w'
theorem own_pg {w' : World} {B0 B1 N : Nat} {p : Pg} {vr vt : Value} {vs : List Value} (hr : w'.ownsRow B0 67 3 vr p.rs.length (rowsOf riF p.rs)) (ht : w'.ownsRow B0 51 1 vt p.ts.length vs) (hi : Inners w' B1 N p.ts vs) :
    ∃ A c B d, vr = .slice A p.rs.length c ∧ vt = .slice B p.ts.length d ∧ PgAt w' A c B d p := by
  obtain ⟨A, c, rfl⟩ := own_slice hr
  obtain ⟨B, d, rfl⟩ := own_slice ht
  have hvl : vs.length = p.ts.length := by have := ht.1; omega
  refine ⟨A, c, B, d, rfl, rfl, SeqS.of_owns hr, vs, SeqS.of_owns ht, fun i l hl => ?_⟩
  have hil := (List.getElem?_eq_some_iff.1 hl).1
  have hv : vs[i]? = some (vs[i]'(by omega)) := List.getElem?_eq_getElem (by omega)
  obtain ⟨l2, h1, h2, _⟩ := hi i _ hv
  rw [hl] at h1
  injection h1 with h1
  subst h1
  obtain ⟨C, k, hC⟩ := own_slice h2
  rw [hC] at h2 hv
  exact ⟨C, k, hv, SeqS.of_owns h2⟩
theorem pg_none (w : World) : PgAt w none 0 none 0 ⟨[], []⟩ :=
  ⟨SeqS.of_owns (World.ownsRow_nil w 0 67 3), [], SeqS.of_owns (World.ownsRow_nil w 0 51 1), fun i l hl => by cases hl⟩
/-- The result's box is stored into. -/
theorem below_res {B : Nat} {w0 w : World} (h : Below B w0 w) {g : Nat} (hg : B ≤ g) (i : Nat) (v : Value) : Below B w0 (w.setCell ⟨g, i, none⟩ v) := h.setCell (p := ⟨g, i, none⟩) hg v
theorem pg_box {w : World} {A : Option Addr} {c : Nat} {B : Option Addr} {d : Nat} {p : Pg} (h : PgAt w A c B d p) {w' : World} (hb : Below w.heap.size w w') : PgAt w' A c B d p := h.later hb
theorem Inners.kept' {w w' : World} {B N g : Nat} {ts : List (List In)} {vs : List Value} (h : Inners w B N ts vs) (k : Kept (oneRow g) w w') (hg : g < B) : Inners w' B N ts vs := by
  intro j v hv
  obtain ⟨l, h1, h2, h3⟩ := h j v hv
  exact ⟨l, h1, owns_kept h2 k (fun r cur hr hl (e : r = g) => by have := (own_lt h2 hr).1; omega), h3⟩
set_option maxHeartbeats 8000000 in
set_option maxRecDepth 100000 in
theorem codeRead (s : ByteArray) (w : World) (hs : s.size ≤ maxLen) : Calls Tryd.prog 25 #[.string s] w (PgTwo w (rdP s) (.int .i64 (rdC s))) := by
  have HE : Hid (rdB s = (!(prRd s 0 false).2.2 && (decide (s.size ≤ (prRd s 0 false).2.1) && encB (prRd s 0 false).1))) := rfl
  have HP : Hid (rdP s = if rdB s = true then (prRd s 0 false).1 else ⟨[], []⟩) := rfl
  have HC : Hid (rdC s = if rdB s = true then 0 else 3) := rfl
  have l0 := Lies.made w 35 #[.slice none 0 0, .slice none 0 0]
  have hb0 : Below w.heap.size w (w.alloc (.cells #[.slice none 0 0, .slice none 0 0] 35)) := (Below.refl _ _).alloc (Nat.le_refl _) _
  have HL := Lib.hid l0
  have HB := Lib.hid hb0
  have hw1 : (w.alloc (.cells #[.slice none 0 0, .slice none 0 0] 35)).heap.size = w.heap.size + 1 := by simp
  have HW1 := Lib.hid hw1
  clear l0 hb0 hw1
  unfold PgTwo
  generalize hQ : (fun e w' => ∃ A c B d, e = Ending.returned (.tuple #[.agg (pgC A c B d (rdP s)), .int .i64 (rdC s)]) ∧ PgAt w' A c B d (rdP s) ∧ Below w.heap.size w w') = Q
  go_enter Tryd.func25, Tryd.ntmps25
  go_wp2_with fail
  generalize w.alloc (.cells #[.slice none 0 0, .slice none 0 0] 35) = w1 at *
  refine (octetNew s w1 hs).mono ?_
  rintro e w2 ⟨rfl, hrd, hk⟩
  have HR := Lib.hid hrd
  replace HL := Lib.hid (HL.out.kept hk (fun h => h))
  replace HB := Lib.hid (HB.out.trans (hk.below HB.out.size (fun _ _ h => h)))
  have hsz := HR.out.1.lt
  have hsz0 := HW1.out
  generalize w1.heap.size = g at *
  subst hsz0
  clear hrd hk HW1
  have hin : InAt (w2.alloc (.cells #[.pointer (some ⟨w.heap.size + 1, 0, none⟩), .bool false] 79)) w2.heap.size (w.heap.size + 1) s 0 false :=
    ⟨Lies.made _ _ _, HR.out.1.alloc _, HR.out.2⟩
  have HI := Lib.hid hin
  have HB3 := Lib.hid (HB.out.alloc HB.out.size (.cells #[.pointer (some ⟨w.heap.size + 1, 0, none⟩), .bool false] 79))
  have HL3 := Lib.hid (HL.out.alloc (.cells #[.pointer (some ⟨w.heap.size + 1, 0, none⟩), .bool false] 79))
  have hsz3 : w2.heap.size < (w2.alloc (.cells #[.pointer (some ⟨w.heap.size + 1, 0, none⟩), .bool false] 79)).heap.size := hin.1.lt
  clear hin HR HL HB
  go_wp2_with fail
  generalize w2.alloc (.cells #[.pointer (some ⟨w.heap.size + 1, 0, none⟩), .bool false] 79) = w3 at *
  generalize w2.heap.size = G at *
  refine (srcProgram G (w.heap.size + 1) s 0 false w3 HI.out).mono ?_
  rintro e w4 ⟨vr, vt, vs, rfl, hr, ht, hi, hin, hk⟩
  generalize prRd s 0 false = X at *
  obtain ⟨p, j, fl⟩ := X
  dsimp only at hr ht hi hin HE HP
  obtain ⟨A, c, B, d, rfl, rfl, hpg⟩ := own_pg hr ht hi
  have hHB := HB3.out.size
  have HPG := Lib.hid (hpg.later ((Below.refl w4.heap.size w4).alloc (Nat.le_refl _) (.cells (pgC A c B d p) 35)))
  have HI4 := Lib.hid (hin.kept' (Kept.alloc noRow w4 (.cells (pgC A c B d p) 35)) (fun h => h) (fun h => h))
  have HB4 := Lib.hid ((HB3.out.trans (hk.below HB3.out.size (by rintro k hk (e | e) <;> omega))).alloc (Nat.le_trans HB3.out.size hk.size) (.cells (pgC A c B d p) 35))
  have HL4 := Lib.hid ((HL3.out.kept hk (by rintro (e | e) <;> omega)).alloc (.cells (pgC A c B d p) 35))
  have HX4 := Lib.hid (Lies.made w4 35 (pgC A c B d p))
  have hw4 := hk.size
  have HOR := Lib.hid hr
  have HOT := Lib.hid ht
  have HOI := Lib.hid hi
  have HKK := Lib.hid (Kept.alloc (oneRow w.heap.size) w4 (.cells (pgC A c B d p) 35))
  clear hr ht hi hin hk hpg HI HB3 HL3
  go_upto_region 3 with (fail)
  have hw5 : (w4.alloc (.cells (pgC A c B d p) 35)).heap.size = w4.heap.size + 1 := by simp
  generalize w4.alloc (.cells (pgC A c B d p) 35) = w5 at *
  generalize w4.heap.size = b5 at *
  have c0 := (HI4.out.1.cell 0).trans (show _ = some (Value.pointer (some ⟨w.heap.size + 1, 0, none⟩)) from rfl)
  have c1 := (HI4.out.1.cell 1).trans (show _ = some (Value.bool fl) from rfl)
  have cl := HI4.out.1.lt
  cases fl with
  | true =>
    have HE0 : Hid (rdB s = false) := by show _ = _; rw [HE.out]; rfl
    have HP0 : Hid (rdP s = ⟨[], []⟩) := by show _ = _; rw [HP.out, HE0.out]; rfl
    have HC0 : Hid (rdC s = 3) := by show _ = _; rw [HC.out, HE0.out]; rfl
    clear HE HP HC HE0
    have rf0 := HL4.out.free 0
    have rf1 := HL4.out.free 1
    have rlt := HL4.out.lt
    have r0 := (HL4.out.cell 0).trans (show _ = some (Value.slice none 0 0) from rfl)
    have r1 := (HL4.out.cell 1).trans (show _ = some (Value.slice none 0 0) from rfl)
    have HR2 := Lib.hid ((HL4.out.put 0 (.slice none 0 0)).put 1 (.slice none 0 0))
    have q0 := (HR2.out.cell 0).trans (show _ = some (Value.slice none 0 0) from rfl)
    have q1 := (HR2.out.cell 1).trans (show _ = some (Value.slice none 0 0) from rfl)
    have HQ0 := Lib.hid q0
    have HQ1 := Lib.hid q1
    clear q0 q1
    go_wp2
    subst hQ
    refine bodyPost_ret (v := .tuple #[.agg #[.slice none 0 0, .slice none 0 0], .int .i64 3]) (by simp [results, Tryd.results25, go_sem, HQ0.out, HQ1.out]) rfl ?_
    rw [HP0.out, HC0.out]
    exact ⟨none, 0, none, 0, rfl, pg_none _, below_res (below_res HB4.out (Nat.le_refl _) _ _) (Nat.le_refl _) _ _⟩
  | false =>
    go_wp2_with fail
    refine (octetLeft (w.heap.size + 1) s j w5 HI4.out.2).mono ?_
    rintro e w6 ⟨rfl, n6, rfl⟩
    have HL6 : Hid (Lies (w5.drewN n6) w.heap.size 35 #[.slice none 0 0, .slice none 0 0]) := HL4.out
    have HX6 : Hid (Lies (w5.drewN n6) b5 35 (pgC A c B d p)) := HX4.out
    have HPG6 : Hid (PgAt (w5.drewN n6) A c B d p) := HPG.out.later (below_drewN (Below.refl _ _) _)
    have HB6 := Lib.hid (below_drewN HB4.out n6)
    have HKK6 := Lib.hid (HKK.out.trans (Kept.drewN (oneRow w.heap.size) w5 n6) (fun _ _ e => e))
    have hjs := HI4.out.2.2.1
    clear HL4 HX4 HPG HB4 HI4 c0 c1 cl
    generalize w5.drewN n6 = w6 at *
    by_cases hj : j < s.size
    · have HE0 : Hid (rdB s = false) := by show _ = _; rw [HE.out, decide_eq_false (by omega)]; rfl
      have HP0 : Hid (rdP s = ⟨[], []⟩) := by show _ = _; rw [HP.out, HE0.out]; rfl
      have HC0 : Hid (rdC s = 3) := by show _ = _; rw [HC.out, HE0.out]; rfl
      have e1 : decide ((0 : Int) < (s.size : Int) - (j : Int)) = true := decide_eq_true (by omega)
      have e2 : decide (j < s.size) = true := decide_eq_true (by omega)
      clear HE HP HC HE0
      have rf0 := HL6.out.free 0
      have rf1 := HL6.out.free 1
      have rlt := HL6.out.lt
      have r0 := (HL6.out.cell 0).trans (show _ = some (Value.slice none 0 0) from rfl)
      have r1 := (HL6.out.cell 1).trans (show _ = some (Value.slice none 0 0) from rfl)
      have HR2 := Lib.hid ((HL6.out.put 0 (.slice none 0 0)).put 1 (.slice none 0 0))
      have q0 := (HR2.out.cell 0).trans (show _ = some (Value.slice none 0 0) from rfl)
      have q1 := (HR2.out.cell 1).trans (show _ = some (Value.slice none 0 0) from rfl)
      have HQ0 := Lib.hid q0
      have HQ1 := Lib.hid q1
      clear q0 q1
      go_wp2
      subst hQ
      refine bodyPost_ret (v := .tuple #[.agg #[.slice none 0 0, .slice none 0 0], .int .i64 3]) (by simp [results, Tryd.results25, go_sem, HQ0.out, HQ1.out]) rfl ?_
      rw [HP0.out, HC0.out]
      exact ⟨none, 0, none, 0, rfl, pg_none _, below_res (below_res HB6.out (Nat.le_refl _) _ _) (Nat.le_refl _) _ _⟩
    · have HEE : Hid (rdB s = encB p) := by show _ = _; rw [HE.out, decide_eq_true (by omega)]; rfl
      have e1 : decide ((0 : Int) < (s.size : Int) - (j : Int)) = false := decide_eq_false (by omega)
      have e2 : decide (j < s.size) = false := decide_eq_false (by omega)
      have x0 := (HX6.out.cell 0).trans (show _ = some (Value.slice A p.rs.length c) from rfl)
      have x1 := (HX6.out.cell 1).trans (show _ = some (Value.slice B p.ts.length d) from rfl)
      have xl := HX6.out.lt
      clear HE hj
      go_wp2_with fail
      refine (enc_any p A c B d w6 HPG6.out).mono ?_
      rintro e w7 ⟨rfl, hb7⟩
      have HL7 := Lib.hid (HL6.out.below hb7 HL6.out.lt)
      have HX7 := Lib.hid (HX6.out.below hb7 HX6.out.lt)
      have HPG7 := Lib.hid (HPG6.out.later hb7)
      have HB7 := Lib.hid (HB6.out.trans (hb7.mono HB6.out.size))
      have HKK7 := Lib.hid (HKK6.out.trans (Kept.of_below hb7) (fun _ _ (e : False) => e.elim))
      clear HL6 HX6 HPG6 HB6 x0 x1 xl hb7 e1 e2
      cases he : encB p with
      | false =>
        have HP0 : Hid (rdP s = ⟨[], []⟩) := by show _ = _; rw [HP.out, HEE.out, he]; rfl
        have HC0 : Hid (rdC s = 3) := by show _ = _; rw [HC.out, HEE.out, he]; rfl
        clear HP HC HEE he
        have rf0 := HL7.out.free 0
        have rf1 := HL7.out.free 1
        have rlt := HL7.out.lt
        have r0 := (HL7.out.cell 0).trans (show _ = some (Value.slice none 0 0) from rfl)
        have r1 := (HL7.out.cell 1).trans (show _ = some (Value.slice none 0 0) from rfl)
        have HR2 := Lib.hid ((HL7.out.put 0 (.slice none 0 0)).put 1 (.slice none 0 0))
        have q0 := (HR2.out.cell 0).trans (show _ = some (Value.slice none 0 0) from rfl)
        have q1 := (HR2.out.cell 1).trans (show _ = some (Value.slice none 0 0) from rfl)
        have HQ0 := Lib.hid q0
        have HQ1 := Lib.hid q1
        clear q0 q1
        go_wp2
        subst hQ
        refine bodyPost_ret (v := .tuple #[.agg #[.slice none 0 0, .slice none 0 0], .int .i64 3]) (by simp [results, Tryd.results25, go_sem, HQ0.out, HQ1.out]) rfl ?_
        rw [HP0.out, HC0.out]
        exact ⟨none, 0, none, 0, rfl, pg_none _, below_res (below_res HB7.out (Nat.le_refl _) _ _) (Nat.le_refl _) _ _⟩
      | true =>
        have HP0 : Hid (rdP s = p) := by show _ = _; rw [HP.out, HEE.out, he]; rfl
        have HC0 : Hid (rdC s = 0) := by show _ = _; rw [HC.out, HEE.out, he]; rfl
        clear HP HC HEE he
        have x0 := (HX7.out.cell 0).trans (show _ = some (Value.slice A p.rs.length c) from rfl)
        have x1 := (HX7.out.cell 1).trans (show _ = some (Value.slice B p.ts.length d) from rfl)
        have xl := HX7.out.lt
        have rf0 := HL7.out.free 0
        have rf1 := HL7.out.free 1
        have rlt := HL7.out.lt
        have r0 := (HL7.out.cell 0).trans (show _ = some (Value.slice none 0 0) from rfl)
        have r1 := (HL7.out.cell 1).trans (show _ = some (Value.slice none 0 0) from rfl)
        have HR2 := Lib.hid ((HL7.out.put 0 (.slice A p.rs.length c)).put 1 (.slice B p.ts.length d))
        have q0 := (HR2.out.cell 0).trans (show _ = some (Value.slice A p.rs.length c) from rfl)
        have q1 := (HR2.out.cell 1).trans (show _ = some (Value.slice B p.ts.length d) from rfl)
        have HQ0 := Lib.hid q0
        have HQ1 := Lib.hid q1
        clear q0 q1
        go_wp2
        subst hQ
        refine bodyPost_ret (v := .tuple #[.agg (pgC A c B d p), .int .i64 0]) (by simp [results, Tryd.results25, go_sem, HQ0.out, HQ1.out]) rfl ?_
        rw [HP0.out, HC0.out]
        refine ⟨A, c, B, d, rfl, ?_, below_res (below_res HB7.out (Nat.le_refl _) _ _) (Nat.le_refl _) _ _⟩
        have hkf := (HKK7.out.trans (Kept.put w7 w.heap.size 0 (.slice A p.rs.length c)) (fun _ _ e => e)).trans (Kept.put _ w.heap.size 1 (.slice B p.ts.length d)) (fun _ _ e => e)
        obtain ⟨A', c', B', d', e1, e2, hpg⟩ := own_pg (owns_kept HOR.out hkf (fun r cur hr _ (e : r = w.heap.size) => by have := (own_lt HOR.out hr).1; omega)) (owns_kept HOT.out hkf (fun r cur hr _ (e : r = w.heap.size) => by have := (own_lt HOT.out hr).1; omega)) (HOI.out.kept' hkf (by omega))
        cases e1
        cases e2
        exact hpg
end Go.Proofs.YtebgcehcnenjiaaDoor
