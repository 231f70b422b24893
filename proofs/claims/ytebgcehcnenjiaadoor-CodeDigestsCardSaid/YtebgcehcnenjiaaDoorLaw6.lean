/-
  CodeDigests: its walk.
-/
import Derived.Test.YtebgcehcnenjiaaDoorLaw2
import Derived.Test.YtebgcehcnenjiaaDoorCopy3
import Derived.Test.YtebgcehcnenjiaaDoorDgm
namespace Go.Proofs.YtebgcehcnenjiaaDoor
open Go.RowKit
set_option linter.unusedVariables false
set_option linter.unusedSimpArgs false
/-- Behind a copy's one number stored anew. -/
theorem turn_at {w : World} {N0 N1 B0 : Nat} {p : Pg} {l : List In} {ts : List (List In)} (hp : p.ts = l :: ts) {vr vt : Value} {vs : List Value} (hap : ApartV vs) (hr : w.ownsRow B0 67 3 vr p.rs.length (rowsOf riF p.rs)) (ht : w.ownsRow B0 51 1 vt p.ts.length vs) (hi : Inners w N0 N1 p.ts vs)
    {i : Nat} {x : In} (hx : l[i]? = some x) : ∃ A c B d b0 c0, vr = .slice A p.rs.length c ∧ vt = .slice (some ⟨B, 0, none⟩) p.ts.length d ∧ p.ts.length ≤ d ∧ d ≤ maxLen ∧ w.cell? ⟨B, 0, none⟩ = some (.slice (some ⟨b0, 0, none⟩) l.length c0) ∧ l.length ≤ c0 ∧ c0 ≤ maxLen ∧ B < w.heap.size ∧ b0 < w.heap.size ∧ N0 ≤ b0 ∧
      (∀ j u, j < 6 → (inF x)[j]? = some u → w.cell? ⟨b0, i * 6 + j, none⟩ = some u) ∧ w.frozen? ⟨b0, i * 6 + 5, none⟩ = false ∧ PgAt w A c (some ⟨B, 0, none⟩) d p ∧ (∀ t cs g, Lies w g t cs → t ≠ 24 → g ≠ b0) ∧
      ∀ k : Nat, PgAt (w.setCell ⟨b0, i * 6 + 5, none⟩ (.int .u64 (k : Int))) A c (some ⟨B, 0, none⟩) d (turn p i k) := by
  obtain ⟨rs, tt⟩ := p
  simp only at hp
  subst hp
  obtain ⟨A, c, B', d, e1, e2, hpg⟩ := own_pg hr ht hi
  subst e1 e2
  have hil := (List.getElem?_eq_some_iff.1 hx).1
  have hvl : vs.length = ts.length + 1 := by have := ht.1; simp at this; omega
  obtain ⟨v0, hv0⟩ : ∃ v0, vs[0]? = some v0 := ⟨_, List.getElem?_eq_getElem (by omega)⟩
  obtain ⟨l2, g1, g2, g3⟩ := hi 0 v0 hv0
  simp at g1
  subst g1
  rcases owns_row ht with ⟨_, hz, _⟩ | ⟨B, d', curB, e3, hB0, hLB, hd1, hd2⟩
  · simp at hz
  simp only [Value.slice.injEq, true_and] at e3
  obtain ⟨rfl, rfl⟩ := e3
  rcases owns_row g2 with ⟨_, hz, _⟩ | ⟨b0, c0, cur0, rfl, hb0, hL0, hc1, hc2⟩
  · exfalso; omega
  have hcB := owns_cell ht hv0
  have hcells : ∀ j u, j < 6 → (inF x)[j]? = some u → w.cell? ⟨b0, i * 6 + j, none⟩ = some u := fun j u hj hu => by
    have h3 := g2.cells (g := b0) rfl (i * 6 + j) u (by rw [rowsOf_get inF_length hx hj]; exact hu)
    rwa [addr_add] at h3
  have hset := owned_set (u := .int .u64 (0 : Int)) g2 (k := i * 6 + 5) (by rw [rowsOf_length inF_length]; omega)
  refine ⟨A, c, B, d, b0, c0, rfl, rfl, hd1, hd2, hcB, hc1, hc2, hLB.lt, hL0.lt, hb0, hcells, hL0.free _, hpg, fun t cs g hl hne e => ?_, fun k => ?_⟩
  · subst e
    exact hne (hl.same hL0).1
  have hk := Kept.put w b0 (i * 6 + 5) (.int .u64 (k : Int))
  have hr' := owns_kept hr hk (fun r cur _ hl (e : r = b0) => by subst e; exact absurd (hl.same hL0).1 (by decide))
  have ht' := owns_kept ht hk (fun r cur _ hl (e : r = b0) => by subst e; exact absurd (hl.same hL0).1 (by decide))
  have g2' := owned_set (u := .int .u64 (k : Int)) g2 (k := i * 6 + 5) (by rw [rowsOf_length inF_length]; omega)
  rw [rowsOf_set1 (y := { x with k := k }) inF_length hx (by decide) rfl] at g2'
  have htn : turn ⟨rs, l :: ts⟩ i k = ⟨rs, l.set i { x with k := k } :: ts⟩ := by
    unfold turn
    simp only [hx]
  rw [htn]
  refine ⟨SeqS.of_owns hr', vs, SeqS.of_owns ht', fun j m hm => ?_⟩
  match j, hm with
  | 0, hm =>
    simp at hm
    subst hm
    refine ⟨some ⟨b0, 0, none⟩, c0, by rw [List.length_set]; exact hv0, ?_⟩
    show SeqS _ 6 (.slice _ (l.set i { x with k := k }).length c0) (l.set i { x with k := k }).length _
    rw [List.length_set]
    exact SeqS.of_owns g2'
  | j + 1, hm =>
    have hm2 : (l :: ts)[j + 1]? = some m := by simpa using hm
    have hjl := (List.getElem?_eq_some_iff.1 hm2).1
    simp at hjl
    obtain ⟨v, hv⟩ : ∃ v, vs[j + 1]? = some v := ⟨_, List.getElem?_eq_getElem (by omega)⟩
    obtain ⟨m2, q1, q2, q3⟩ := hi (j + 1) v hv
    rw [hm2] at q1
    injection q1 with q1
    subst q1
    have hne := hap 0 (j + 1) _ v (by omega) hv0 hv b0 rfl
    obtain ⟨C, kk, rfl⟩ := own_slice q2
    exact ⟨C, kk, hv, SeqS.of_owns (owns_kept q2 hk (fun r cur hr _ (e : r = b0) => hne (by rw [hr, e])))⟩
theorem xor_u64s (a b : Nat) (ha : a < 64) (hb : b < 64) : bits .xor .u64 (a : Int) (b : Int) = ((a ^^^ b : Nat) : Int) := by
  show IntKind.u64.wrap ((BitVec.ofInt 64 a ^^^ BitVec.ofInt 64 b).toNat : Int) = _
  rw [BitVec.ofInt_natCast, BitVec.ofInt_natCast, BitVec.toNat_xor, BitVec.toNat_ofNat, BitVec.toNat_ofNat, Nat.mod_eq_of_lt (by omega), Nat.mod_eq_of_lt (by omega)]
  have := Nat.xor_lt_two_pow (n := 6) (x := a) (y := b) ha hb
  exact IntWalk.u64_in _ (by omega)
theorem turn_self {p : Pg} {l : List In} {ts : List (List In)} {i : Nat} {x : In} (hp : p.ts = l :: ts) (hx : l[i]? = some x) : turn p i x.k = p := by
  obtain ⟨rs, tt⟩ := p
  simp only at hp
  subst hp
  unfold turn
  simp only [hx]
  obtain ⟨hl, hxe⟩ := List.getElem?_eq_some_iff.1 hx
  have : l.set i x = l := by rw [← hxe, List.set_getElem_self]
  rw [this]
theorem turn_len (p : Pg) (i k : Nat) : (turn p i k).rs.length = p.rs.length ∧ (turn p i k).ts.length = p.ts.length := by
  unfold turn
  split
  · exact ⟨rfl, rfl⟩
  · rename_i l ts hp
    split
    · exact ⟨rfl, rfl⟩
    · refine ⟨rfl, ?_⟩
      rw [hp]; simp
def dgV (vp vq : Value) (dp dq : Nat) (sb : Bool) (n2 m : Int) : Nat → Value → World → Prop
  | 0, v, _ => v = vp
  | 1, v, _ => v = .int .u32 (dp : Int)
  | 2, v, _ => v = vq
  | 3, v, _ => v = .int .u32 (dq : Int)
  | 4, v, _ => v = .bool sb
  | 5, v, _ => v = .int .u8 n2
  | 6, v, _ => v = .int .u8 m
  | 7, v, _ => v = .bool sb
  | 8, v, _ => v = .bool true
  | 9, v, _ => v = .bool true
  | _, _, _ => True
theorem dgV_all {vp vq : Value} {dp dq : Nat} {sb : Bool} {n2 m : Int} {w w' : World} {j : Nat} {u : Value} (h : dgV vp vq dp dq sb n2 m j u w) : dgV vp vq dp dq sb n2 m j u w' := by
  match j with
  | 0 => exact h
  | 1 => exact h
  | 2 => exact h
  | 3 => exact h
  | 4 => exact h
  | 5 => exact h
  | 6 => exact h
  | 7 => exact h
  | 8 => exact h
  | 9 => exact h
  | _ + 10 => trivial
def dgV6 (vp vq : Value) (dp : Nat) : Nat → Value → World → Prop
  | 0, v, _ => v = vp
  | 1, v, _ => v = .int .u32 (dp : Int)
  | 2, v, _ => v = vq
  | 3, v, _ => v = .int .u32 (dp : Int)
  | 4, v, _ => v = .bool true
  | 5, v, _ => v = .bool true
  | _, _, _ => True
theorem dgV6_all {vp vq : Value} {dp : Nat} {w w' : World} {j : Nat} {u : Value} (h : dgV6 vp vq dp j u w) : dgV6 vp vq dp j u w' := by
  match j with
  | 0 => exact h
  | 1 => exact h
  | 2 => exact h
  | 3 => exact h
  | 4 => exact h
  | 5 => exact h
  | _ + 6 => trivial
set_option maxHeartbeats 16000000 in
set_option maxRecDepth 100000 in
theorem digests_walk (z : Pa) (a1 a2 : Int) (W : World) (h : PaAt W z) (h1 : (Lit.int .i64 a1).wf = true) (h2 : (Lit.int .u8 a2).wf = true) (hN : NamesAt W) :
    Calls Tryd.prog 8 #[.agg (pgC z.A z.c z.B z.d z.p), .int .i64 a1, .int .u8 a2] W fun e w' => e = .returned (.bool true) ∧ Below W.heap.size W w' := by
  have hb1 := Go.bounds_i64 h1
  have hb2 := Go.bounds_u8 h2
  clear h1 h2
  obtain ⟨A, c, B, d, p⟩ := z
  obtain ⟨hp, hok⟩ := h
  replace hp : PgAt W A c B d p := hp
  replace hok : pgOk p := hok
  obtain ⟨hc1, hc2⟩ := seq_form hp.1
  obtain ⟨hd1, hd2⟩ := hp.2.form
  have hb0 : Below W.heap.size W (W.alloc (.cells (pgC A c B d p) 35)) := (Below.refl _ _).alloc (Nat.le_refl _) _
  have l0 := Lies.made W 35 (pgC A c B d p)
  have HP := Lib.hid hp
  have HOK := Lib.hid hok
  have HB := Lib.hid hb0
  have HL := Lib.hid l0
  have HN := Lib.hid hN
  have hgl := hN.lt
  clear hp hok hb0 l0 hN
  go_enter Tryd.func8, Tryd.ntmps8
  go_wp2_with fail
  generalize W.alloc (.cells (pgC A c B d p) 35) = w1 at *
  have c0 := (HL.out.cell 0).trans (show _ = some (Value.slice A p.rs.length c) from rfl)
  have c1 := (HL.out.cell 1).trans (show _ = some (Value.slice B p.ts.length d) from rfl)
  have cl := HL.out.lt
  refine (awake_any _ (HN.out.later HB.out hgl)).mono ?_
  rintro e w2 ⟨rfl, hbm⟩
  replace HB := Lib.hid (HB.out.trans ((hbm).mono HB.out.size))
  replace HL := Lib.hid (HL.out.below hbm HL.out.lt)
  clear c0 c1 cl
  have c0 := (HL.out.cell 0).trans (show _ = some (Value.slice A p.rs.length c) from rfl)
  have c1 := (HL.out.cell 1).trans (show _ = some (Value.slice B p.ts.length d) from rfl)
  have cl := HL.out.lt
  clear hbm
  go_wp2_with fail
  have HF := Lib.hid (fun w (hw : Below W.heap.size W w) => rfFew p 100 A c B d w (HP.out.later hw) (by omega))
  refine (HF.out _ HB.out).mono ?_
  rintro e wf ⟨rfl, hbm⟩
  clear HF
  replace HB := Lib.hid (HB.out.trans ((hbm).mono HB.out.size))
  replace HL := Lib.hid (HL.out.below hbm HL.out.lt)
  clear c0 c1 cl
  have c0 := (HL.out.cell 0).trans (show _ = some (Value.slice A p.rs.length c) from rfl)
  have c1 := (HL.out.cell 1).trans (show _ = some (Value.slice B p.ts.length d) from rfl)
  have cl := HL.out.lt
  clear hbm
  obtain ⟨fb, hfb⟩ : ∃ fb, fewB p 100 = fb := ⟨_, rfl⟩
  have HFB := Lib.hid hfb
  rw [hfb]
  clear hfb
  cases fb
  case false =>
    clear HFB
    go_wp2_with fail
    refine (awake_any _ (HN.out.later HB.out hgl)).mono ?_
    rintro e wz ⟨rfl, hbz⟩
    have hbz := HB.out.trans (hbz.mono HB.out.size)
    go_wp2
    go_ret
    exact ⟨rfl, hbz⟩
  obtain ⟨hf1, hf2, hf3, hf4⟩ := of_decide_eq_true HFB.out
  have HF3 := Lib.hid hf3
  clear hf3 HFB
  go_wp2_with fail
  have HF := Lib.hid (fun w (hw : Below W.heap.size W w) => rfWritten p A c B d w (HP.out.later hw) HOK.out)
  refine (HF.out _ HB.out).mono ?_
  rintro e wf ⟨rfl, hbm⟩
  clear HF
  replace HB := Lib.hid (HB.out.trans ((hbm).mono HB.out.size))
  replace HL := Lib.hid (HL.out.below hbm HL.out.lt)
  clear c0 c1 cl
  have c0 := (HL.out.cell 0).trans (show _ = some (Value.slice A p.rs.length c) from rfl)
  have c1 := (HL.out.cell 1).trans (show _ = some (Value.slice B p.ts.length d) from rfl)
  have cl := HL.out.lt
  clear hbm
  cases hep : encB p with
  | false =>
    clear hep
    go_wp2_with fail
    refine (awake_any _ (HN.out.later HB.out hgl)).mono ?_
    rintro e wz ⟨rfl, hbz⟩
    have hbz := HB.out.trans (hbz.mono HB.out.size)
    go_wp2
    go_ret
    exact ⟨rfl, hbz⟩
  | true =>
  have HEP := Lib.hid hep
  clear hep
  by_cases ht0 : p.ts.length = 0
  · have e1 : ((p.ts.length : Int) == 0) = true := by rw [beq_iff_eq]; omega
    have e2 : (p.ts.length == 0) = true := by rw [beq_iff_eq]; exact ht0
    clear ht0
    go_wp2_with fail
    refine (awake_any _ (HN.out.later HB.out hgl)).mono ?_
    rintro e wz ⟨rfl, hbz⟩
    have hbz := HB.out.trans (hbz.mono HB.out.size)
    go_wp2
    go_ret
    exact ⟨rfl, hbz⟩
  have e1 : ((p.ts.length : Int) == 0) = false := by rw [beq_eq_false_iff_ne]; omega
  have hlt : 0 < p.ts.length := by omega
  obtain ⟨l, hl⟩ : ∃ l, p.ts[0]? = some l := ⟨_, List.getElem?_eq_getElem hlt⟩
  obtain ⟨b, off, B2, d2, hBe, g0w, hil⟩ := HP.out.2.at_ hl
  subst hBe
  rw [Nat.add_zero] at g0w
  obtain ⟨hc3, hc4⟩ := seq_form hil
  have hbl := World.block_lt_of_cell? W _ g0w
  have HG := Lib.hid (fun w (hw : Below W.heap.size W w) => (hw.cell (p := ⟨b, off, none⟩) hbl).trans g0w)
  have gg := HG.out _ HB.out
  have ggl := World.block_lt_of_cell? _ _ gg
  have HLM := Lib.hid hl
  clear g0w hil hl
  by_cases hl0 : l.length = 0
  · have e3 : ((l.length : Int) == 0) = true := by rw [beq_iff_eq]; omega
    go_wp2_with fail
    refine (awake_any _ (HN.out.later HB.out hgl)).mono ?_
    rintro e wz ⟨rfl, hbz⟩
    have hbz := HB.out.trans (hbz.mono HB.out.size)
    go_wp2
    go_ret
    exact ⟨rfl, hbz⟩
  have e3 : ((l.length : Int) == 0) = false := by rw [beq_eq_false_iff_ne]; omega
  by_cases ha0 : a2 = 0
  · subst ha0
    go_wp2_with fail
    refine (awake_any _ (HN.out.later HB.out hgl)).mono ?_
    rintro e wz ⟨rfl, hbz⟩
    have hbz := HB.out.trans (hbz.mono HB.out.size)
    go_wp2
    go_ret
    exact ⟨rfl, hbz⟩
  have e4 : (a2 == 0) = false := by rw [beq_eq_false_iff_ne]; exact ha0
  have hwf := HB.out.size
  have HCP := Lib.hid (fun w (hw : Below W.heap.size W w) => rfCopyA p A c (some ⟨b, off, none⟩) d w (HP.out.later hw) hf1 hf2 (fun l hl => by have := HF3.out l hl; omega))
  go_wp2_with fail
  refine (HCP.out _ HB.out).mono ?_
  clear gg ggl e1 e3 e4
  rintro e w3 ⟨vr, vt, vs, hap, rfl, hor, hot, hoi, hbm⟩
  replace HB := Lib.hid (HB.out.trans ((hbm).mono HB.out.size))
  replace HL := Lib.hid (HL.out.below hbm HL.out.lt)
  clear hbm c0 c1 cl
  have c0 := (HL.out.cell 0).trans (show _ = some (Value.slice A p.rs.length c) from rfl)
  have c1 := (HL.out.cell 1).trans (show _ = some (Value.slice (some ⟨b, off, none⟩) p.ts.length d) from rfl)
  have cl := HL.out.lt
  obtain ⟨A3, c3, rfl⟩ := own_slice hor
  obtain ⟨B3, d3, rfl⟩ := own_slice hot
  obtain ⟨ts, hts⟩ : ∃ ts, p.ts = l :: ts := by
    have h := HLM.out
    cases hq : p.ts with
    | nil => rw [hq] at h; simp at h
    | cons a r => rw [hq] at h; simp at h; subst h; exact ⟨r, rfl⟩
  obtain ⟨u, hu⟩ : ∃ u : Nat, IntKind.u64.wrap a1 = (u : Int) := ⟨(a1 % 18446744073709551616).toNat, by rw [IntKind.wrap_u64]; omega⟩
  have hbm : Below w3.heap.size w3 (w3.alloc (.cells #[.slice A3 p.rs.length c3, .slice B3 p.ts.length d3] 35)) := (Below.refl _ _).alloc (Nat.le_refl _) _
  have hor := owned_below hor hbm
  have hot := owned_below hot hbm
  have hoi := hoi.kept (Kept.alloc noRow w3 (.cells #[.slice A3 p.rs.length c3, .slice B3 p.ts.length d3] 35)) (fun _ _ _ _ h => h)
  have hq := Lies.made w3 35 #[.slice A3 p.rs.length c3, .slice B3 p.ts.length d3]
  replace HB := Lib.hid (HB.out.trans ((hbm).mono HB.out.size))
  replace HL := Lib.hid (HL.out.below hbm HL.out.lt)
  clear hbm c0 c1 cl
  have c0 := (HL.out.cell 0).trans (show _ = some (Value.slice A p.rs.length c) from rfl)
  have c1 := (HL.out.cell 1).trans (show _ = some (Value.slice (some ⟨b, off, none⟩) p.ts.length d) from rfl)
  have cl := HL.out.lt
  have hul : u % l.length < l.length := Nat.mod_lt _ (by omega)
  obtain ⟨i, hi⟩ : ∃ i, u % l.length = i := ⟨_, rfl⟩
  rw [hi] at hul
  obtain ⟨x, hx⟩ : ∃ x, l[i]? = some x := ⟨_, List.getElem?_eq_getElem hul⟩
  obtain ⟨A4, c4, B4, d4, b0, c0', e1, e2, hd1', hd2', hcB, hc1', hc2', hBl, hb0l, hb0n, hcs, hfz, hpg, hfar, hpt⟩ := turn_at hts hap hor hot hoi hx
  cases e1
  cases e2
  have hdg := fun k h1 h2 h3 => @turn_digest p l ts i k x hts hx h1 h2 h3 HEP.out
  have HDG := Lib.hid hdg
  have hlle := hf4
  have hll : l.length ≤ 100 := by have := HF3.out l (List.mem_of_getElem? HLM.out); omega
  have hw2 : IntKind.u64.wrap (l.length : Int) = (l.length : Int) := IntWalk.u64_in _ (by omega)
  have hw3 : ((u : Int)).tmod (l.length : Int) = (i : Int) := by
    rw [Int.tmod_eq_emod_of_nonneg (by omega), ← Int.natCast_emod, hi]
  have hw4 : IntKind.i64.wrap (i : Int) = (i : Int) := IntWalk.i64_in _ (by omega)
  have e3 : ((l.length : Int) == 0) = false := by rw [beq_eq_false_iff_ne]; omega
  have q0 := (hq.cell 0).trans (show _ = some (Value.slice A3 p.rs.length c3) from rfl)
  have q1 := (hq.cell 1).trans (show _ = some (Value.slice (some ⟨B4, 0, none⟩) p.ts.length d3) from rfl)
  have ql := hq.lt
  have hil : (i : Int) < (l.length : Int) := by omega
  have hne0 : (l.length : Int) ≠ 0 := by omega
  have HQ := Lib.hid hq
  have HPG := Lib.hid hpg
  have HPT := Lib.hid hpt
  have HFAR := Lib.hid hfar
  have HCS := Lib.hid hcs
  have HX := Lib.hid hx
  have HTS := Lib.hid hts
  have HI := Lib.hid hi
  clear hor hot hoi hap hdg hq hpg hpt hfar hcs hx hts hi HCP c0 c1 cl
  go_wp2_with fail
  generalize w3.alloc (.cells #[.slice A3 p.rs.length c3, .slice (some ⟨B4, 0, none⟩) p.ts.length d3] 35) = w4 at *
  go_quiet (fail)
  have HB5 := Lib.hid (below_drewN HB.out nq)
  have HL5 : Hid (Lies (w4.drewN nq) W.heap.size 35 (pgC A c (some ⟨b, off, none⟩) d p)) := HL.out
  have HQ5 : Hid (Lies (w4.drewN nq) w3.heap.size 35 (pgC A3 c3 (some ⟨B4, 0, none⟩) d3 p)) := HQ.out
  have HPG5 := Lib.hid (HPG.out.later (below_drewN (Below.refl _ _) nq))
  have HPT5 : Hid (∀ k : Nat, PgAt ((w4.drewN nq).setCell ⟨b0, i * 6 + 5, none⟩ (.int .u64 (k : Int))) A3 c3 (some ⟨B4, 0, none⟩) d3 (turn p i k)) := fun k => HPT.out k
  have HFAR5 : Hid (∀ t cs g, Lies (w4.drewN nq) g t cs → t ≠ 24 → g ≠ b0) := HFAR.out
  have y0 : (w4.drewN nq).cell? ⟨b0, i * 6, none⟩ = some (.int .i64 x.op) := HCS.out 0 _ (by decide) rfl
  have y5 : (w4.drewN nq).cell? ⟨b0, i * 6 + 5, none⟩ = some (.int .u64 (x.k : Int)) := HCS.out 5 _ (by decide) rfl
  have f5 : (w4.drewN nq).frozen? ⟨b0, i * 6 + 5, none⟩ = false := hfz
  have yl : b0 < (w4.drewN nq).heap.size := hb0l
  clear HB HL HQ HPG HPT HFAR HCS hfz hb0l hcB hBl q0 q1 ql hw2 hw3 hw4 e3
  generalize w4.drewN nq = w5 at *
  generalize w3.heap.size = bq at *
  obtain ⟨n2, rfl⟩ : ∃ n2 : Nat, a2 = n2 := ⟨a2.toNat, by omega⟩
  by_cases hg : x.op = 1 ∧ x.k ≤ 63
  · obtain ⟨hop, hxk⟩ := hg
    have e5 : (x.op != 1) = false := by rw [bne_eq_false_iff_eq]; exact hop
    have e6 : decide ((63 : Int) < (x.k : Int)) = false := decide_eq_false (by omega)
    have e7 : decide (63 < x.k) = false := decide_eq_false (by omega)
    obtain ⟨m, hm⟩ : ∃ m, n2 % 64 = m := ⟨_, rfl⟩
    have hm64 : m < 64 := by rw [← hm]; exact Nat.mod_lt _ (by decide)
    have hmi : ((n2 : Int) % 64) = (m : Int) := by omega
    have hxr : bits .xor .u64 (x.k : Int) ((n2 : Int) % 64) = ((x.k ^^^ m : Nat) : Int) := by rw [hmi]; exact xor_u64s _ _ (by omega) hm64
    have HMI := Lib.hid hmi
    clear hmi
    have hk64 : x.k ^^^ m < 64 := Nat.xor_lt_two_pow (n := 6) (show x.k < 2 ^ 6 by show x.k < 64; omega) hm64
    have hsame : m = 0 → turn p i (x.k ^^^ m) = p := fun h => by
      subst h
      rw [Nat.xor_zero]
      exact turn_self HTS.out HX.out
    have hdiff : m ≠ 0 → dgN p ≠ dgN (turn p i (x.k ^^^ m)) := fun h0 h => by
      have h1 := HDG.out _ hop (by omega) hk64 h
      apply h0
      have h2 := congrArg (fun y => x.k ^^^ y) h1
      simp only [← Nat.xor_assoc, Nat.xor_self, Nat.zero_xor] at h2
      exact h2.symm
    have hlen := turn_len p i (x.k ^^^ m)
    have HPQ := Lib.hid (HPT5.out (x.k ^^^ m))
    have HQT : Hid (Lies w5 bq 35 (pgC A3 c3 (some ⟨B4, 0, none⟩) d3 (turn p i (x.k ^^^ m)))) := by
      have h := HQ5.out
      show Lies w5 bq _ #[.slice A3 (turn p i (x.k ^^^ m)).rs.length c3, .slice (some ⟨B4, 0, none⟩) (turn p i (x.k ^^^ m)).ts.length d3]
      rw [hlen.1, hlen.2]
      exact h
    clear hm hlen hop
    go_upto_region 8 with (fail)
    have HB6 := Lib.hid (below_res HB5.out (g := b0) (by omega) (i * 6 + 5) (.int .u64 ((x.k ^^^ m : Nat) : Int)))
    have HL6 := Lib.hid (HL5.out.far (p := ⟨b0, i * 6 + 5, none⟩) (HFAR5.out _ _ _ HL5.out (by decide)) (.int .u64 ((x.k ^^^ m : Nat) : Int)))
    have HQ6 := Lib.hid (HQT.out.far (p := ⟨b0, i * 6 + 5, none⟩) (HFAR5.out _ _ _ HQT.out (by decide)) (.int .u64 ((x.k ^^^ m : Nat) : Int)))
    clear HB5 HL5 HQ5 HQT HPG5 HPT5 HFAR5 y0 y5 f5 yl
    generalize hw6 : w5.setCell ⟨b0, i * 6 + 5, none⟩ (.int .u64 ((x.k ^^^ m : Nat) : Int)) = w6 at *
    clear hw6
    obtain ⟨q', hq'⟩ : ∃ q', turn p i (x.k ^^^ m) = q' := ⟨_, rfl⟩
    rw [hq'] at hsame hdiff HPQ HQ6
    clear hq' hxr
    obtain ⟨sb, hsb⟩ : ∃ sb, (((n2 : Int) % 64) == 0) = sb := ⟨_, rfl⟩
    have hsd : ((dgN p : Int) == (dgN q' : Int)) = sb := by
      rw [← hsb, HMI.out, Bool.eq_iff_iff, beq_iff_eq, beq_iff_eq]
      constructor
      · intro h
        by_cases h0 : m = 0
        · omega
        · exact absurd (by omega) (hdiff h0)
      · intro h
        rw [hsame (by omega)]
    have HD1 := Lib.hid (fun w (hw : Below W.heap.size W w) => codeDigest p A c (some ⟨b, off, none⟩) d w (HP.out.later hw))
    have HD2 := Lib.hid (fun w (hw : Below w6.heap.size w6 w) => codeDigest q' A3 c3 (some ⟨B4, 0, none⟩) d3 w (HPQ.out.later hw))
    clear hsame hdiff HDG HPQ
    generalize dgN p = dp at *
    generalize dgN q' = dq at *
    have hmt : ((n2 : Int)).tmod 64 = (n2 : Int) % 64 := Int.tmod_eq_emod_of_nonneg (by omega)
    go_wp2_with fail
    refine wp_region_rely (fun q => Below w6.heap.size w6 q) (dgV (.agg (pgC A c (some ⟨b, off, none⟩) d p)) (.agg (pgC A3 c3 (some ⟨B4, 0, none⟩) d3 q')) dp dq sb n2 ((n2 : Int) % 64)) [some 84, some 85, some 86, some 87, some 88, some 89, some 90, some 91, some 92, some 6] [[], [0], [], [2], [1, 3], [], [5], [6], [4, 7], [8]] [[], [0], [], [0, 2], [0, 1, 2, 3], [], [5], [5, 6], [1, 3, 4, 6, 7], [0, 1, 2, 3, 4, 5, 6, 7, 8]] [[2, 3, 4, 5, 6, 7, 8], [2, 5, 6, 7, 8], [0, 1, 4, 5, 6, 7, 8], [1, 5, 6, 7, 8], [5, 6, 7], [0, 1, 2, 3, 4, 7, 8], [0, 1, 2, 3, 4, 8], [0, 1, 2, 3, 4], [], []] [0, 1, 2, 3, 4, 5, 6, 7, 8, 9] 10 (by kernel_rfl) (by kernel_rfl) (by kernel_rfl) (by kernel_rfl) ?rS (fun j h1 h2 => absurd (Nat.lt_of_lt_of_le h1 (Nat.le_trans (by decide) h2)) (Nat.lt_irrefl _)) ?rT ?rE
    case rS => exact below_drewN (Below.refl _ _) 1
    case rT =>
      refine RelySteps.cons (RelyStep.mk [] [2, 3, 4, 5, 6, 7, 8] rfl rfl rfl (fun xv wS hS hV bq hb K hK => ?_)) ?_
      · clear hV
        simp only [putsOf, List.foldl_cons, List.foldl_nil, List.getD_cons_zero, List.getD_cons_succ, List.getD_nil, cond_true, cond_false, Act.put, List.setIfInBounds_toArray, List.set_cons_zero, List.set_cons_succ] at hb
        subst hb
        rw [if_pos (by rfl)]
        (have q1 := HL6.out.below hS HL6.out.lt; have c0 := (q1.cell 0).trans (show _ = some (Value.slice A p.rs.length c) from rfl); have c1 := (q1.cell 1).trans (show _ = some (Value.slice (some ⟨b, off, none⟩) p.ts.length d) from rfl); have cl := q1.lt; clear q1)
        go_wp2_with fail
        exact hK.out _ _ ⟨_, rfl, hS, rfl, AllP.same _⟩
      refine RelySteps.cons (RelyStep.mk [0] [2, 5, 6, 7, 8] rfl rfl rfl (fun xv wS hS hV bq hb K hK => ?_)) ?_
      · obtain ⟨h0, _⟩ := hV
        have h0 : xv 0 = _ := h0
        simp only [putsOf, List.foldl_cons, List.foldl_nil, List.getD_cons_zero, List.getD_cons_succ, List.getD_nil, cond_true, cond_false, Act.put, List.setIfInBounds_toArray, List.set_cons_zero, List.set_cons_succ, h0] at hb
        clear h0
        subst hb
        rw [if_pos (by rfl)]
        have HSS := Lib.hid hS
        clear hS
        go_wp2_with fail
        refine (HD1.out _ (HB6.out.trans (HSS.out.mono HB6.out.size))).mono ?_
        rintro e w9 ⟨rfl, hb⟩
        exact hK.out _ _ ⟨_, rfl, HSS.out.trans (hb.mono HSS.out.size), rfl, AllP.of _ (fun j _ u h => dgV_all h)⟩
      refine RelySteps.cons (RelyStep.mk [] [0, 1, 4, 5, 6, 7, 8] rfl rfl rfl (fun xv wS hS hV bq hb K hK => ?_)) ?_
      · clear hV
        simp only [putsOf, List.foldl_cons, List.foldl_nil, List.getD_cons_zero, List.getD_cons_succ, List.getD_nil, cond_true, cond_false, Act.put, List.setIfInBounds_toArray, List.set_cons_zero, List.set_cons_succ] at hb
        subst hb
        rw [if_pos (by rfl)]
        (have q1 := HQ6.out.below hS HQ6.out.lt; have c0 := (q1.cell 0).trans (show _ = some (Value.slice A3 q'.rs.length c3) from rfl); have c1 := (q1.cell 1).trans (show _ = some (Value.slice (some ⟨B4, 0, none⟩) q'.ts.length d3) from rfl); have cl := q1.lt; clear q1)
        go_wp2_with fail
        exact hK.out _ _ ⟨_, rfl, hS, rfl, AllP.same _⟩
      refine RelySteps.cons (RelyStep.mk [2] [1, 5, 6, 7, 8] rfl rfl rfl (fun xv wS hS hV bq hb K hK => ?_)) ?_
      · obtain ⟨h2, _⟩ := hV
        have h2 : xv 2 = _ := h2
        simp only [putsOf, List.foldl_cons, List.foldl_nil, List.getD_cons_zero, List.getD_cons_succ, List.getD_nil, cond_true, cond_false, Act.put, List.setIfInBounds_toArray, List.set_cons_zero, List.set_cons_succ, h2] at hb
        clear h2
        subst hb
        rw [if_pos (by rfl)]
        have HSS := Lib.hid hS
        clear hS
        go_wp2_with fail
        refine (HD2.out _ HSS.out).mono ?_
        rintro e w9 ⟨rfl, hb⟩
        exact hK.out _ _ ⟨_, rfl, HSS.out.trans (hb.mono HSS.out.size), rfl, AllP.of _ (fun j _ u h => dgV_all h)⟩
      refine RelySteps.cons (RelyStep.mk [1, 3] [5, 6, 7] rfl rfl rfl (fun xv wS hS hV bq hb K hK => ?_)) ?_
      · obtain ⟨h1, h3, _⟩ := hV
        have h1 : xv 1 = _ := h1
        have h3 : xv 3 = _ := h3
        simp only [putsOf, List.foldl_cons, List.foldl_nil, List.getD_cons_zero, List.getD_cons_succ, List.getD_nil, cond_true, cond_false, Act.put, List.setIfInBounds_toArray, List.set_cons_zero, List.set_cons_succ, h1, h3] at hb
        clear h1
        clear h3
        subst hb
        rw [if_pos (by rfl)]
        go_wp2_with fail
        exact hK.out _ _ ⟨_, rfl, hS, rfl, AllP.same _⟩
      refine RelySteps.cons (RelyStep.mk [] [0, 1, 2, 3, 4, 7, 8] rfl rfl rfl (fun xv wS hS hV bq hb K hK => ?_)) ?_
      · clear hV
        simp only [putsOf, List.foldl_cons, List.foldl_nil, List.getD_cons_zero, List.getD_cons_succ, List.getD_nil, cond_true, cond_false, Act.put, List.setIfInBounds_toArray, List.set_cons_zero, List.set_cons_succ] at hb
        subst hb
        rw [if_pos (by rfl)]
        go_wp2_with fail
        exact hK.out _ _ ⟨_, rfl, hS, rfl, AllP.same _⟩
      refine RelySteps.cons (RelyStep.mk [5] [0, 1, 2, 3, 4, 8] rfl rfl rfl (fun xv wS hS hV bq hb K hK => ?_)) ?_
      · obtain ⟨h5, _⟩ := hV
        have h5 : xv 5 = _ := h5
        simp only [putsOf, List.foldl_cons, List.foldl_nil, List.getD_cons_zero, List.getD_cons_succ, List.getD_nil, cond_true, cond_false, Act.put, List.setIfInBounds_toArray, List.set_cons_zero, List.set_cons_succ, h5] at hb
        clear h5
        subst hb
        rw [if_pos (by rfl)]
        go_wp2_with fail
        exact hK.out _ _ ⟨_, rfl, hS, rfl, AllP.same _⟩
      refine RelySteps.cons (RelyStep.mk [6] [0, 1, 2, 3, 4] rfl rfl rfl (fun xv wS hS hV bq hb K hK => ?_)) ?_
      · obtain ⟨h6, _⟩ := hV
        have h6 : xv 6 = _ := h6
        simp only [putsOf, List.foldl_cons, List.foldl_nil, List.getD_cons_zero, List.getD_cons_succ, List.getD_nil, cond_true, cond_false, Act.put, List.setIfInBounds_toArray, List.set_cons_zero, List.set_cons_succ, h6] at hb
        clear h6
        subst hb
        rw [if_pos (by rfl)]
        go_wp2_with fail
        exact hK.out _ _ ⟨_, rfl, hS, rfl, AllP.same _⟩
      refine RelySteps.cons (RelyStep.mk [4, 7] [] rfl rfl rfl (fun xv wS hS hV bq hb K hK => ?_)) ?_
      · obtain ⟨h4, h7, _⟩ := hV
        have h4 : xv 4 = _ := h4
        have h7 : xv 7 = _ := h7
        simp only [putsOf, List.foldl_cons, List.foldl_nil, List.getD_cons_zero, List.getD_cons_succ, List.getD_nil, cond_true, cond_false, Act.put, List.setIfInBounds_toArray, List.set_cons_zero, List.set_cons_succ, h4, h7] at hb
        clear h4
        clear h7
        subst hb
        rw [if_pos (by rfl)]
        go_wp2_with fail
        exact hK.out _ _ ⟨_, rfl, hS, rfl, AllP.same _⟩
      refine RelySteps.cons (RelyStep.mk [8] [] rfl rfl rfl (fun xv wS hS hV bq hb K hK => ?_)) ?_
      · obtain ⟨h8, _⟩ := hV
        have h8 : xv 8 = _ := h8
        simp only [putsOf, List.foldl_cons, List.foldl_nil, List.getD_cons_zero, List.getD_cons_succ, List.getD_nil, cond_true, cond_false, Act.put, List.setIfInBounds_toArray, List.set_cons_zero, List.set_cons_succ, h8] at hb
        clear h8
        subst hb
        rw [if_pos (by rfl)]
        go_wp2_with fail
        exact hK.out _ _ ⟨_, rfl, hS, rfl, AllP.same _⟩
      exact RelySteps.nil
    case rE =>
      intro xv wE hS hV
      have h9 := hV 9 (by decide) (by decide)
      clear hV
      simp only [putsOf, List.foldl_cons, List.foldl_nil, List.getD_cons_zero, List.getD_cons_succ, List.getD_nil, cond_true, cond_false, Act.put, List.setIfInBounds_toArray, List.set_cons_zero, List.set_cons_succ]
      have h9 : xv 9 = _ := h9
      rw [h9]; clear h9
      generalize xv 0 = y0 at *
      generalize xv 1 = y1 at *
      generalize xv 2 = y2 at *
      generalize xv 3 = y3 at *
      generalize xv 4 = y4 at *
      generalize xv 5 = y5 at *
      generalize xv 6 = y6 at *
      generalize xv 7 = y7 at *
      generalize xv 8 = y8 at *
      have HS9 := Lib.hid hS
      clear hS
      go_wp2
      go_ret
      exact ⟨rfl, HB6.out.trans (HS9.out.mono HB6.out.size)⟩
  · have hskip : True := trivial
    have HB6 := HB5
    have HL6 := HL5
    have HQ6 := HQ5
    have HPQ := HPG5
    have HD1 := Lib.hid (fun w (hw : Below W.heap.size W w) => codeDigest p A c (some ⟨b, off, none⟩) d w (HP.out.later hw))
    have HD2 := Lib.hid (fun w (hw : Below w5.heap.size w5 w) => codeDigest p A3 c3 (some ⟨B4, 0, none⟩) d3 w (HPQ.out.later hw))
    clear HDG HPQ HB5 HL5 HQ5 HPG5 HPT5 HFAR5
    generalize dgN p = dp at *
    by_cases hop : x.op = 1
    · have e5 : (x.op != 1) = false := by rw [bne_eq_false_iff_eq]; exact hop
      have hxk : 63 < x.k := by omega
      have e6 : decide ((63 : Int) < (x.k : Int)) = true := decide_eq_true (by omega)
      have e7 : decide (63 < x.k) = true := decide_eq_true hxk
      clear hop hg
      go_upto_region 6 with (fail)
      generalize w5 = w6 at *
      refine wp_region_rely (fun q => Below w6.heap.size w6 q) (dgV6 (.agg (pgC A c (some ⟨b, off, none⟩) d p)) (.agg (pgC A3 c3 (some ⟨B4, 0, none⟩) d3 p)) dp) [some 69, some 70, some 71, some 72, some 73, some 6] [[], [0], [], [2], [1, 3], [4]] [[], [0], [], [0, 2], [0, 1, 2, 3], [0, 1, 2, 3, 4]] [[2, 3, 4], [2], [0, 1, 4], [1], [], []] [0, 1, 2, 3, 4, 5] 6 (by kernel_rfl) (by kernel_rfl) (by kernel_rfl) (by kernel_rfl) ?rS (fun j h1 h2 => absurd (Nat.lt_of_lt_of_le h1 (Nat.le_trans (by decide) h2)) (Nat.lt_irrefl _)) ?rT ?rE
      case rS => exact below_drewN (Below.refl _ _) 1
      case rT =>
        refine RelySteps.cons (RelyStep.mk [] [2, 3, 4] rfl rfl rfl (fun xv wS hS hV bq hb K hK => ?_)) ?_
        · clear hV
          simp only [putsOf, List.foldl_cons, List.foldl_nil, List.getD_cons_zero, List.getD_cons_succ, List.getD_nil, cond_true, cond_false, Act.put, List.setIfInBounds_toArray, List.set_cons_zero, List.set_cons_succ] at hb
          subst hb
          rw [if_pos (by rfl)]
          (have q1 := HL6.out.below hS HL6.out.lt; have c0 := (q1.cell 0).trans (show _ = some (Value.slice A p.rs.length c) from rfl); have c1 := (q1.cell 1).trans (show _ = some (Value.slice (some ⟨b, off, none⟩) p.ts.length d) from rfl); have cl := q1.lt; clear q1)
          go_wp2_with fail
          exact hK.out _ _ ⟨_, rfl, hS, rfl, AllP.same _⟩
        refine RelySteps.cons (RelyStep.mk [0] [2] rfl rfl rfl (fun xv wS hS hV bq hb K hK => ?_)) ?_
        · obtain ⟨h0, _⟩ := hV
          have h0 : xv 0 = _ := h0
          simp only [putsOf, List.foldl_cons, List.foldl_nil, List.getD_cons_zero, List.getD_cons_succ, List.getD_nil, cond_true, cond_false, Act.put, List.setIfInBounds_toArray, List.set_cons_zero, List.set_cons_succ, h0] at hb
          clear h0
          subst hb
          rw [if_pos (by rfl)]
          have HSS := Lib.hid hS
          clear hS
          go_wp2_with fail
          refine (HD1.out _ (HB6.out.trans (HSS.out.mono HB6.out.size))).mono ?_
          rintro e w9 ⟨rfl, hb⟩
          exact hK.out _ _ ⟨_, rfl, HSS.out.trans (hb.mono HSS.out.size), rfl, AllP.of _ (fun j _ u h => dgV6_all h)⟩
        refine RelySteps.cons (RelyStep.mk [] [0, 1, 4] rfl rfl rfl (fun xv wS hS hV bq hb K hK => ?_)) ?_
        · clear hV
          simp only [putsOf, List.foldl_cons, List.foldl_nil, List.getD_cons_zero, List.getD_cons_succ, List.getD_nil, cond_true, cond_false, Act.put, List.setIfInBounds_toArray, List.set_cons_zero, List.set_cons_succ] at hb
          subst hb
          rw [if_pos (by rfl)]
          (have q1 := HQ6.out.below hS HQ6.out.lt; have c0 := (q1.cell 0).trans (show _ = some (Value.slice A3 p.rs.length c3) from rfl); have c1 := (q1.cell 1).trans (show _ = some (Value.slice (some ⟨B4, 0, none⟩) p.ts.length d3) from rfl); have cl := q1.lt; clear q1)
          go_wp2_with fail
          exact hK.out _ _ ⟨_, rfl, hS, rfl, AllP.same _⟩
        refine RelySteps.cons (RelyStep.mk [2] [1] rfl rfl rfl (fun xv wS hS hV bq hb K hK => ?_)) ?_
        · obtain ⟨h2, _⟩ := hV
          have h2 : xv 2 = _ := h2
          simp only [putsOf, List.foldl_cons, List.foldl_nil, List.getD_cons_zero, List.getD_cons_succ, List.getD_nil, cond_true, cond_false, Act.put, List.setIfInBounds_toArray, List.set_cons_zero, List.set_cons_succ, h2] at hb
          clear h2
          subst hb
          rw [if_pos (by rfl)]
          have HSS := Lib.hid hS
          clear hS
          go_wp2_with fail
          refine (HD2.out _ HSS.out).mono ?_
          rintro e w9 ⟨rfl, hb⟩
          exact hK.out _ _ ⟨_, rfl, HSS.out.trans (hb.mono HSS.out.size), rfl, AllP.of _ (fun j _ u h => dgV6_all h)⟩
        refine RelySteps.cons (RelyStep.mk [1, 3] [] rfl rfl rfl (fun xv wS hS hV bq hb K hK => ?_)) ?_
        · obtain ⟨h1, h3, _⟩ := hV
          have h1 : xv 1 = _ := h1
          have h3 : xv 3 = _ := h3
          simp only [putsOf, List.foldl_cons, List.foldl_nil, List.getD_cons_zero, List.getD_cons_succ, List.getD_nil, cond_true, cond_false, Act.put, List.setIfInBounds_toArray, List.set_cons_zero, List.set_cons_succ, h1, h3] at hb
          clear h1
          clear h3
          subst hb
          rw [if_pos (by rfl)]
          go_wp2_with fail
          exact hK.out _ _ ⟨_, rfl, hS, rfl, AllP.same _⟩
        refine RelySteps.cons (RelyStep.mk [4] [] rfl rfl rfl (fun xv wS hS hV bq hb K hK => ?_)) ?_
        · obtain ⟨h4, _⟩ := hV
          have h4 : xv 4 = _ := h4
          simp only [putsOf, List.foldl_cons, List.foldl_nil, List.getD_cons_zero, List.getD_cons_succ, List.getD_nil, cond_true, cond_false, Act.put, List.setIfInBounds_toArray, List.set_cons_zero, List.set_cons_succ, h4] at hb
          clear h4
          subst hb
          rw [if_pos (by rfl)]
          go_wp2_with fail
          exact hK.out _ _ ⟨_, rfl, hS, rfl, AllP.same _⟩
        exact RelySteps.nil
      case rE =>
        intro xv wE hS hV
        have h5 := hV 5 (by decide) (by decide)
        clear hV
        simp only [putsOf, List.foldl_cons, List.foldl_nil, List.getD_cons_zero, List.getD_cons_succ, List.getD_nil, cond_true, cond_false, Act.put, List.setIfInBounds_toArray, List.set_cons_zero, List.set_cons_succ]
        have h5 : xv 5 = _ := h5
        rw [h5]; clear h5
        generalize xv 0 = y0 at *
        generalize xv 1 = y1 at *
        generalize xv 2 = y2 at *
        generalize xv 3 = y3 at *
        generalize xv 4 = y4 at *
        have HS9 := Lib.hid hS
        clear hS
        go_wp2
        go_ret
        exact ⟨rfl, HB6.out.trans (HS9.out.mono HB6.out.size)⟩
    · have e5 : (x.op != 1) = true := by rw [bne_iff_ne]; exact hop
      clear hop hg
      go_upto_region 6 with (fail)
      generalize w5 = w6 at *
      refine wp_region_rely (fun q => Below w6.heap.size w6 q) (dgV6 (.agg (pgC A c (some ⟨b, off, none⟩) d p)) (.agg (pgC A3 c3 (some ⟨B4, 0, none⟩) d3 p)) dp) [some 69, some 70, some 71, some 72, some 73, some 6] [[], [0], [], [2], [1, 3], [4]] [[], [0], [], [0, 2], [0, 1, 2, 3], [0, 1, 2, 3, 4]] [[2, 3, 4], [2], [0, 1, 4], [1], [], []] [0, 1, 2, 3, 4, 5] 6 (by kernel_rfl) (by kernel_rfl) (by kernel_rfl) (by kernel_rfl) ?rS (fun j h1 h2 => absurd (Nat.lt_of_lt_of_le h1 (Nat.le_trans (by decide) h2)) (Nat.lt_irrefl _)) ?rT ?rE
      case rS => exact below_drewN (Below.refl _ _) 1
      case rT =>
        refine RelySteps.cons (RelyStep.mk [] [2, 3, 4] rfl rfl rfl (fun xv wS hS hV bq hb K hK => ?_)) ?_
        · clear hV
          simp only [putsOf, List.foldl_cons, List.foldl_nil, List.getD_cons_zero, List.getD_cons_succ, List.getD_nil, cond_true, cond_false, Act.put, List.setIfInBounds_toArray, List.set_cons_zero, List.set_cons_succ] at hb
          subst hb
          rw [if_pos (by rfl)]
          (have q1 := HL6.out.below hS HL6.out.lt; have c0 := (q1.cell 0).trans (show _ = some (Value.slice A p.rs.length c) from rfl); have c1 := (q1.cell 1).trans (show _ = some (Value.slice (some ⟨b, off, none⟩) p.ts.length d) from rfl); have cl := q1.lt; clear q1)
          go_wp2_with fail
          exact hK.out _ _ ⟨_, rfl, hS, rfl, AllP.same _⟩
        refine RelySteps.cons (RelyStep.mk [0] [2] rfl rfl rfl (fun xv wS hS hV bq hb K hK => ?_)) ?_
        · obtain ⟨h0, _⟩ := hV
          have h0 : xv 0 = _ := h0
          simp only [putsOf, List.foldl_cons, List.foldl_nil, List.getD_cons_zero, List.getD_cons_succ, List.getD_nil, cond_true, cond_false, Act.put, List.setIfInBounds_toArray, List.set_cons_zero, List.set_cons_succ, h0] at hb
          clear h0
          subst hb
          rw [if_pos (by rfl)]
          have HSS := Lib.hid hS
          clear hS
          go_wp2_with fail
          refine (HD1.out _ (HB6.out.trans (HSS.out.mono HB6.out.size))).mono ?_
          rintro e w9 ⟨rfl, hb⟩
          exact hK.out _ _ ⟨_, rfl, HSS.out.trans (hb.mono HSS.out.size), rfl, AllP.of _ (fun j _ u h => dgV6_all h)⟩
        refine RelySteps.cons (RelyStep.mk [] [0, 1, 4] rfl rfl rfl (fun xv wS hS hV bq hb K hK => ?_)) ?_
        · clear hV
          simp only [putsOf, List.foldl_cons, List.foldl_nil, List.getD_cons_zero, List.getD_cons_succ, List.getD_nil, cond_true, cond_false, Act.put, List.setIfInBounds_toArray, List.set_cons_zero, List.set_cons_succ] at hb
          subst hb
          rw [if_pos (by rfl)]
          (have q1 := HQ6.out.below hS HQ6.out.lt; have c0 := (q1.cell 0).trans (show _ = some (Value.slice A3 p.rs.length c3) from rfl); have c1 := (q1.cell 1).trans (show _ = some (Value.slice (some ⟨B4, 0, none⟩) p.ts.length d3) from rfl); have cl := q1.lt; clear q1)
          go_wp2_with fail
          exact hK.out _ _ ⟨_, rfl, hS, rfl, AllP.same _⟩
        refine RelySteps.cons (RelyStep.mk [2] [1] rfl rfl rfl (fun xv wS hS hV bq hb K hK => ?_)) ?_
        · obtain ⟨h2, _⟩ := hV
          have h2 : xv 2 = _ := h2
          simp only [putsOf, List.foldl_cons, List.foldl_nil, List.getD_cons_zero, List.getD_cons_succ, List.getD_nil, cond_true, cond_false, Act.put, List.setIfInBounds_toArray, List.set_cons_zero, List.set_cons_succ, h2] at hb
          clear h2
          subst hb
          rw [if_pos (by rfl)]
          have HSS := Lib.hid hS
          clear hS
          go_wp2_with fail
          refine (HD2.out _ HSS.out).mono ?_
          rintro e w9 ⟨rfl, hb⟩
          exact hK.out _ _ ⟨_, rfl, HSS.out.trans (hb.mono HSS.out.size), rfl, AllP.of _ (fun j _ u h => dgV6_all h)⟩
        refine RelySteps.cons (RelyStep.mk [1, 3] [] rfl rfl rfl (fun xv wS hS hV bq hb K hK => ?_)) ?_
        · obtain ⟨h1, h3, _⟩ := hV
          have h1 : xv 1 = _ := h1
          have h3 : xv 3 = _ := h3
          simp only [putsOf, List.foldl_cons, List.foldl_nil, List.getD_cons_zero, List.getD_cons_succ, List.getD_nil, cond_true, cond_false, Act.put, List.setIfInBounds_toArray, List.set_cons_zero, List.set_cons_succ, h1, h3] at hb
          clear h1
          clear h3
          subst hb
          rw [if_pos (by rfl)]
          go_wp2_with fail
          exact hK.out _ _ ⟨_, rfl, hS, rfl, AllP.same _⟩
        refine RelySteps.cons (RelyStep.mk [4] [] rfl rfl rfl (fun xv wS hS hV bq hb K hK => ?_)) ?_
        · obtain ⟨h4, _⟩ := hV
          have h4 : xv 4 = _ := h4
          simp only [putsOf, List.foldl_cons, List.foldl_nil, List.getD_cons_zero, List.getD_cons_succ, List.getD_nil, cond_true, cond_false, Act.put, List.setIfInBounds_toArray, List.set_cons_zero, List.set_cons_succ, h4] at hb
          clear h4
          subst hb
          rw [if_pos (by rfl)]
          go_wp2_with fail
          exact hK.out _ _ ⟨_, rfl, hS, rfl, AllP.same _⟩
        exact RelySteps.nil
      case rE =>
        intro xv wE hS hV
        have h5 := hV 5 (by decide) (by decide)
        clear hV
        simp only [putsOf, List.foldl_cons, List.foldl_nil, List.getD_cons_zero, List.getD_cons_succ, List.getD_nil, cond_true, cond_false, Act.put, List.setIfInBounds_toArray, List.set_cons_zero, List.set_cons_succ]
        have h5 : xv 5 = _ := h5
        rw [h5]; clear h5
        generalize xv 0 = y0 at *
        generalize xv 1 = y1 at *
        generalize xv 2 = y2 at *
        generalize xv 3 = y3 at *
        generalize xv 4 = y4 at *
        have HS9 := Lib.hid hS
        clear hS
        go_wp2
        go_ret
        exact ⟨rfl, HB6.out.trans (HS9.out.mono HB6.out.size)⟩
end Go.Proofs.YtebgcehcnenjiaaDoor
