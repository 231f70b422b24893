import Derived.Test.YtdffpbfebgcmaaaGreatZz4
namespace Go.Proofs.YtdffpbfebgcmaaaGreat
open Go.RowKit
set_option linter.unusedVariables false
set_option linter.unusedSimpArgs false
def laneO (r : Ri) : La := ⟨newR r.c.toNat r.r.toNat, false⟩
def newL (p : Pg) (l : List La) : Fb := ⟨p, List.replicate p.ts.length thO, List.replicate p.ts.length [], l, 0, 0, false⟩
def newF (p : Pg) : Fb := newL p (p.rs.map laneO)
theorem infoThT : (Tryz.prog.info? 73).map (fun i => (i.zero, i.size, i.bytes)) = some (some (.agg thZ), 14, 128) := by kernel_rfl
theorem infoSnT : (Tryz.prog.info? 66).map (fun i => (i.zero, i.size, i.bytes)) = some (some (.slice none 0 0), 1, 24) := by kernel_rfl
theorem made_th (n : Nat) (h : n ≤ 1000) (q : World) : (Instr.makeSlice 35 (.int .i64 (n : Int)) (.int .i64 (n : Int))).run Tryz.prog q = .ok (.slice (some ⟨q.heap.size, 0, none⟩) n n) (q.alloc (.cells (madeCells thZ (n * 14)) 73)) ∧
  ∀ N, N ≤ q.heap.size → (q.alloc (.cells (madeCells thZ (n * 14)) 73)).ownsRow N 73 14 (.slice (some ⟨q.heap.size, 0, none⟩) n n) n (rowsOf thN (List.replicate n thO)) :=
 ⟨run_make_rowS (P := Tryz.prog) _ _ _ _ _ Tryz.underlying35 infoThT .i64 .i64 n (by omega) (by omega) q, fun N hN => owns_mono (owned_rows thN_length (by decide) q _ thO thZ rfl n (by unfold maxLen; omega)) hN⟩
theorem made_sn (n : Nat) (h : n ≤ 1000) (q : World) : (Instr.makeSlice 79 (.int .i64 (n : Int)) (.int .i64 (n : Int))).run Tryz.prog q = .ok (.slice (some ⟨q.heap.size, 0, none⟩) n n) (q.alloc (.cells (madeCells #[.slice none 0 0] n) 66)) ∧
  ∀ N, N ≤ q.heap.size → (q.alloc (.cells (madeCells #[.slice none 0 0] n) 66)).ownsRow N 66 1 (.slice (some ⟨q.heap.size, 0, none⟩) n n) n (List.replicate n (.slice none 0 0)) := by
 have e1 : n * 1 = n := Nat.mul_one n
 refine ⟨(run_make_rowS (P := Tryz.prog) _ _ _ _ _ Tryz.underlying79 infoSnT .i64 .i64 n (by omega) (by omega) q).trans (by rw [e1]; rfl), fun N hN => ?_⟩
 have := owned_rows (f := fun (v : Value) => [v]) (fun _ => rfl) (by decide) q 66 (.slice none 0 0) #[.slice none 0 0] rfl n (by unfold maxLen; omega)
 rw [show rowsOf (fun (v : Value) => [v]) (List.replicate n (.slice none 0 0)) = List.replicate n (.slice none 0 0) by unfold rowsOf; simp] at this
 rw [e1] at this
 exact owns_mono this hN
theorem sns_new {q : World} {B n : Nat} {v : Value} (h : q.ownsRow B 66 1 v n (List.replicate n (.slice none 0 0))) : SnsAt q B v (List.replicate n (.slice none 0 0)) (List.replicate n []) := by
 refine ⟨by rw [List.length_replicate]; exact h, fun i s hs => ?_, fun i j a b r _ ha _ hr => ?_⟩
 ·obtain ⟨h1, h2⟩ := List.getElem?_eq_some_iff.1 hs
  rw [List.length_replicate] at h1
  rw [List.getElem_replicate] at h2
  subst h2
  exact ⟨none, 0, by rw [List.getElem?_replicate, if_pos h1]; rfl, World.ownsRow_nil _ _ _ _⟩
 ·obtain ⟨h1, h2⟩ := List.getElem?_eq_some_iff.1 ha
  rw [List.getElem_replicate] at h2
  subst h2
  cases hr
theorem lns_nil (q : World) (B : Nat) : LnsA q B (.slice none 0 0) [] := ⟨[], rfl, World.ownsRow_nil _ _ _ _, fun _ h => by cases h⟩
section
variable {w w' q1 : World} {B F : Nat} {f : Fb} {z : Fv} {v : Value} {l' : List La}
theorem ownPg_mono {c d : Nat} {A Q : Option Addr} {p : Pg} {B' : Nat} (h : OwnPg w B A c Q d p) (hB : B' ≤ B) : OwnPg w B' A c Q d p := by
 obtain ⟨h1, vs, h2, h3⟩ := h
 refine ⟨owns_mono h1 hB, vs, owns_mono h2 hB, fun i l hl => ?_⟩
 obtain ⟨A', c', e, ho⟩ := h3 i l hl
 exact ⟨A', c', e, owns_mono ho hB⟩
theorem FabAt.lanes (h : FabAt w B F f z) (k : Kept (fun k => z.lv.ownBlock = some k) w q1) (hn : LnsA q1 B v l') :
  FabAt (q1.setCell ⟨F, 4, none⟩ v) B F { f with ln := l' } { z with lv := v } ∧ Kept (fun k => k = F ∨ z.lv.ownBlock = some k) w (q1.setCell ⟨F, 4, none⟩ v) := by
 obtain ⟨xs, ho⟩ := h.lr.owns
 have no : ∀ {r e cur}, Lies w r e cur → e ≠ 97 → ¬ z.lv.ownBlock = some r := fun {r e cur} h1 h2 h3 => h2 (own_same ho h1 h3)
 have b1 := h.box.kept k (no h.box (by decide))
 have k2 := Kept.put q1 F 4 v
 have n2 : ∀ {r e cur}, Lies q1 r e cur → e ≠ 82 → ¬ oneRow F r := fun {r e cur} h1 h2 (h3 : r = F) => by subst h3; exact h2 (h1.same b1).1
 have p1 := h.pg.kept k (fun r e cur he h1 => no h1 (by rcases he with rfl | rfl | rfl <;> decide))
 have t1 := owns_kept h.tr k (fun r cur _ h1 => no h1 (by decide))
 have s1 := h.sr.kept k (fun r a _ h1 => no h1 (by decide)) (fun _ r a _ _ h1 => no h1 (by decide))
 exact ⟨⟨b1.put 4 v, p1.kept k2 (fun r e cur he h1 => n2 h1 (by rcases he with rfl | rfl | rfl <;> decide)), owns_kept t1 k2 (fun r cur _ h1 => n2 h1 (by decide)),
  s1.kept k2 (fun r a _ h1 => n2 h1 (by decide)) (fun _ r a _ _ h1 => n2 h1 (by decide)), hn.kept k2 (fun r cur h1 => n2 h1 (by decide)), h.hB⟩,
  (k.mono (fun _ _ h => .inr h)).trans k2 (fun i _ (e : i = F) => .inl e)⟩
theorem newL_ok {p : Pg} (hp : pgOk p) {l : List La} (hl : l.length = p.rs.length) : FbOk (newL p l) := by
 refine ⟨hp, fun x hx => ?_, by simp [newL], by simp [newL], hl, by simp [newL], fun s hs n hn => ?_⟩
 ·have := List.eq_of_mem_replicate hx; subst this; exact ⟨thOkO, rfl⟩
 ·have := List.eq_of_mem_replicate hs; subst this; cases hn
end
theorem fbNewNo (p : Pg) (A : Option Addr) (c : Nat) (B : Option Addr) (d : Nat) (w : World) (h : PgAt w A c B d p) (hok : pgOk p) (hr : rightP p = false) :
  Calls Tryz.prog 11 #[.agg (pgC A c B d p)] w fun e w' => e = .returned (.tuple #[.pointer none, .int .i64 1]) ∧ Below w.heap.size w w' := by
 have hb0 : Below w.heap.size w (w.alloc (.cells (pgC A c B d p) 25)) := (Below.refl _ _).alloc (Nat.le_refl _) _
 have HR := Lib.hid (ckRight p A c B d _ (h.later hb0) hok)
 rw [hr] at HR
 have HB0 := Lib.hid hb0
 clear h hok hb0 hr
 go_enter Tryz.func11, Tryz.ntmps11
 go_wp2_with fail
 refine HR.out.mono ?_
 rintro e w1 ⟨rfl, hb1⟩
 have HB1 := Lib.hid (HB0.out.trans (hb1.mono HB0.out.size))
 clear hb1 HR HB0
 go_wp2
 go_ret2
 exact ⟨rfl, HB1.out⟩
set_option maxHeartbeats 8000000 in
set_option maxRecDepth 100000 in
theorem fbNew (p : Pg) (A : Option Addr) (c : Nat) (B : Option Addr) (d : Nat) (w : World) (h : PgAt w A c B d p) (hok : pgOk p) (hr : rightP p = true) :
  Calls Tryz.prog 11 #[.agg (pgC A c B d p)] w fun e w' => ∃ F z, e = .returned (.tuple #[.pointer (some ⟨F, 0, none⟩), .int .i64 0]) ∧ w.heap.size ≤ F ∧ FabAt w' w.heap.size F (newF p) z ∧ Below w.heap.size w w' := by
 obtain ⟨⟨t0, t8, r8⟩, hrs, htl⟩ := rightP_all hr
 have hb0 : Below w.heap.size w (w.alloc (.cells (pgC A c B d p) 25)) := (Below.refl _ _).alloc (Nat.le_refl _) _
 have l0 := Lies.made w 25 (pgC A c B d p)
 obtain ⟨hc1, hc2⟩ := seq_form h.1
 obtain ⟨hd1, hd2⟩ := h.2.form
 have HR := Lib.hid (ckRight p A c B d _ (h.later hb0) hok)
 rw [hr] at HR
 have HB0 := Lib.hid hb0
 have HL0 := Lib.hid l0
 have HH := Lib.hid h
 have HRS := Lib.hid hrs
 have HTL := Lib.hid (fun l hl => (htl l hl).1)
 clear h hok hb0 hr l0 hrs htl
 go_enter Tryz.func11, Tryz.ntmps11
 go_wp2_with fail
 refine HR.out.mono ?_
 rintro e w1 ⟨rfl, hb1⟩
 have HB1 := Lib.hid (HB0.out.trans (hb1.mono HB0.out.size))
 have HL1 := Lib.hid (HL0.out.below hb1 HL0.out.lt)
 clear hb1 HR HB0 HL0
 go_upto_region 3 with (fail)
 have HM1 := Lib.hid (made_th p.ts.length (by omega))
 have HM2 := Lib.hid (made_sn p.ts.length (by omega))
 have HCP := Lib.hid (fun (q : World) (hb : Below w1.heap.size w1 q) => fbCopy p A c B d q (HH.out.later (HB1.out.trans (hb.mono HB1.out.size))) (by omega) (by omega) (fun l hl => by have := HTL.out l hl; omega))
 have HC := Lib.hid (fun (q : World) (hb : Below w1.heap.size w1 q) => HL1.out.below hb HL1.out.lt)
 refine wp_region_rely (fun q => Below w1.heap.size w1 q) (bfV [.eq (.agg (pgC A c B d p)), .of (fun u q => ∃ A' c' Q d', u = .agg #[.slice A' p.rs.length c', .slice Q p.ts.length d'] ∧ OwnPg q w.heap.size A' c' Q d' p) (fun _ _ _ hb ⟨_, _, _, _, e, h⟩ => ⟨_, _, _, _, e, h.later hb⟩), .eq (.pointer (some ⟨w.heap.size, 1, none⟩)), .eq (.slice B p.ts.length d), .eq (.int .i64 (p.ts.length : Int)), .own w.heap.size 73 14 p.ts.length (rowsOf thN (List.replicate p.ts.length thO)), .eq (.pointer (some ⟨w.heap.size, 1, none⟩)), .eq (.slice B p.ts.length d), .eq (.int .i64 (p.ts.length : Int)), .own w.heap.size 66 1 p.ts.length (List.replicate p.ts.length (.slice none 0 0)), .of (fun u q => ∃ A' c' Q d' tv sv, u = .agg #[.slice A' p.rs.length c', .slice Q p.ts.length d', tv, sv, .slice none 0 0, .int .u64 0, .int .u64 0, .bool false] ∧ OwnPg q w.heap.size A' c' Q d' p ∧ q.ownsRow w.heap.size 73 14 tv p.ts.length (rowsOf thN (List.replicate p.ts.length thO)) ∧ q.ownsRow w.heap.size 66 1 sv p.ts.length (List.replicate p.ts.length (.slice none 0 0))) (fun _ _ _ hb ⟨_, _, _, _, _, _, e, h, h2, h3⟩ => ⟨_, _, _, _, _, _, e, h.later hb, owned_below h2 hb, owned_below h3 hb⟩), .of (fun u q => ∃ F z, u = .pointer (some ⟨F, 0, none⟩) ∧ FabAt q w.heap.size F (newL p []) z) (fun _ _ _ hb ⟨_, _, e, h⟩ => ⟨_, _, e, h.later hb⟩), .of (fun u q => ∃ F z, u = .pointer (some ⟨F, 0, none⟩) ∧ FabAt q w.heap.size F (newL p []) z) (fun _ _ _ hb ⟨_, _, e, h⟩ => ⟨_, _, e, h.later hb⟩)]) [some 12, some 13, some 14, some 15, some 16, some 17, some 18, some 19, some 20, some 21, some 22, some 23, some 4] [[], [0], [], [2], [3], [4], [], [6], [7], [8], [1, 5, 9], [10], [11]] [[], [0], [], [2], [2, 3], [3, 4], [], [6], [6, 7], [7, 8], [0, 1, 4, 5, 8, 9], [1, 5, 9, 10], [0, 1, 2, 3, 4, 5, 6, 7, 8, 9, 10]] [[2, 3, 4, 5, 6, 7, 8, 9, 10, 11], [2, 3, 4, 5, 6, 7, 8, 9, 11], [0, 1, 4, 5, 6, 7, 8, 9, 10, 11], [0, 1, 5, 6, 7, 8, 9, 10, 11], [0, 1, 6, 7, 8, 9, 10, 11], [0, 1, 6, 7, 8, 9, 11], [0, 1, 2, 3, 4, 5, 8, 9, 10, 11], [0, 1, 2, 3, 4, 5, 9, 10, 11], [0, 1, 2, 3, 4, 5, 10, 11], [0, 1, 2, 3, 4, 5, 11], [2, 6], [2, 3, 6, 7], [11]] [0, 1, 2, 3, 4, 5, 6, 7, 8, 9, 10, 11, 12] 13 (by kernel_rfl) (by kernel_rfl) (by kernel_rfl) (by kernel_rfl) ?rS (fun j h1 h2 => absurd (Nat.lt_of_lt_of_le h1 (Nat.le_trans (by decide) h2)) (Nat.lt_irrefl _)) ?rT ?rE
 case rS => exact below_drewN (Below.refl _ _) 1
 case rT =>
  refine RelySteps.cons (RelyStep.mk [] [2, 3, 4, 5, 6, 7, 8, 9, 10, 11] rfl rfl rfl (fun xv wS hS hV bq hb K hK => ?_)) ?_
  ·clear hV
   simp only [putsOf, List.foldl_cons, List.foldl_nil, List.getD_cons_zero, List.getD_cons_succ, List.getD_nil, cond_true, cond_false, Act.put, List.setIfInBounds_toArray, List.set_cons_zero, List.set_cons_succ] at hb
   subst hb
   rw [if_pos (by rfl)]
   (have l5 := HC.out _ hS; have c0 := (l5.cell 0).trans (show _ = some (Value.slice A p.rs.length c) from rfl); have c1 := (l5.cell 1).trans (show _ = some (Value.slice B p.ts.length d) from rfl); have c2 := l5.lt)
   go_wp2_with fail
   exact hK.out _ _ ⟨_, rfl, hS, rfl, AllP.same _⟩
  refine RelySteps.cons (RelyStep.mk [0] [2, 3, 4, 5, 6, 7, 8, 9, 11] rfl rfl rfl (fun xv wS hS hV bq hb K hK => ?_)) ?_
  ·obtain ⟨h0, _⟩ := hV
   have h0 : xv 0 = _ := h0
   simp only [putsOf, List.foldl_cons, List.foldl_nil, List.getD_cons_zero, List.getD_cons_succ, List.getD_nil, cond_true, cond_false, Act.put, List.setIfInBounds_toArray, List.set_cons_zero, List.set_cons_succ, h0] at hb
   clear h0
   subst hb
   rw [if_pos (by rfl)]
   have HSS := Lib.hid hS
   clear hS
   go_wp2_with fail
   refine (HCP.out wS HSS.out).mono ?_
   rintro q w' ⟨A', c', Q, d', rfl, ho, hb⟩
   have hsz := Nat.le_trans HB1.out.size HSS.out.size
   exact hK.out _ _ ⟨_, rfl, then_ HSS.out hb, ⟨_, _, _, _, rfl, ownPg_mono ho hsz⟩, AllP.of _ (fun j _ _ h => bfV_below hb h)⟩
  refine RelySteps.cons (RelyStep.mk [] [0, 1, 4, 5, 6, 7, 8, 9, 10, 11] rfl rfl rfl (fun xv wS hS hV bq hb K hK => ?_)) ?_
  ·clear hV
   simp only [putsOf, List.foldl_cons, List.foldl_nil, List.getD_cons_zero, List.getD_cons_succ, List.getD_nil, cond_true, cond_false, Act.put, List.setIfInBounds_toArray, List.set_cons_zero, List.set_cons_succ] at hb
   subst hb
   rw [if_pos (by rfl)]
   go_wp2_with fail
   exact hK.out _ _ ⟨_, rfl, hS, rfl, AllP.same _⟩
  refine RelySteps.cons (RelyStep.mk [2] [0, 1, 5, 6, 7, 8, 9, 10, 11] rfl rfl rfl (fun xv wS hS hV bq hb K hK => ?_)) ?_
  ·obtain ⟨h2, _⟩ := hV
   have h2 : xv 2 = _ := h2
   simp only [putsOf, List.foldl_cons, List.foldl_nil, List.getD_cons_zero, List.getD_cons_succ, List.getD_nil, cond_true, cond_false, Act.put, List.setIfInBounds_toArray, List.set_cons_zero, List.set_cons_succ, h2] at hb
   clear h2
   subst hb
   rw [if_pos (by rfl)]
   (have l5 := HC.out _ hS; have c1 := (l5.cell 1).trans (show _ = some (Value.slice B p.ts.length d) from rfl); have c2 := l5.lt)
   go_wp2_with fail
   exact hK.out _ _ ⟨_, rfl, hS, rfl, AllP.same _⟩
  refine RelySteps.cons (RelyStep.mk [3] [0, 1, 6, 7, 8, 9, 10, 11] rfl rfl rfl (fun xv wS hS hV bq hb K hK => ?_)) ?_
  ·obtain ⟨h3, _⟩ := hV
   have h3 : xv 3 = _ := h3
   simp only [putsOf, List.foldl_cons, List.foldl_nil, List.getD_cons_zero, List.getD_cons_succ, List.getD_nil, cond_true, cond_false, Act.put, List.setIfInBounds_toArray, List.set_cons_zero, List.set_cons_succ, h3] at hb
   clear h3
   subst hb
   rw [if_pos (by rfl)]
   go_wp2_with fail
   exact hK.out _ _ ⟨_, rfl, hS, rfl, AllP.same _⟩
  refine RelySteps.cons (RelyStep.mk [4] [0, 1, 6, 7, 8, 9, 11] rfl rfl rfl (fun xv wS hS hV bq hb K hK => ?_)) ?_
  ·obtain ⟨h4, _⟩ := hV
   have h4 : xv 4 = _ := h4
   simp only [putsOf, List.foldl_cons, List.foldl_nil, List.getD_cons_zero, List.getD_cons_succ, List.getD_nil, cond_true, cond_false, Act.put, List.setIfInBounds_toArray, List.set_cons_zero, List.set_cons_succ, h4] at hb
   clear h4
   subst hb
   rw [if_pos (by rfl)]
   have HSS := Lib.hid hS
   obtain ⟨hm, ho⟩ := HM1.out wS
   have HO := Lib.hid ho
   clear hS ho
   go_wp2_with fail
   have hb : Below wS.heap.size wS (wS.alloc (.cells (madeCells thZ (p.ts.length * 14)) 73)) := (Below.refl _ _).alloc (Nat.le_refl _) _
   exact hK.out _ _ ⟨_, rfl, then_ HSS.out hb, HO.out _ (Nat.le_trans HB1.out.size HSS.out.size), AllP.of _ (fun j _ _ h => bfV_below hb h)⟩
  refine RelySteps.cons (RelyStep.mk [] [0, 1, 2, 3, 4, 5, 8, 9, 10, 11] rfl rfl rfl (fun xv wS hS hV bq hb K hK => ?_)) ?_
  ·clear hV
   simp only [putsOf, List.foldl_cons, List.foldl_nil, List.getD_cons_zero, List.getD_cons_succ, List.getD_nil, cond_true, cond_false, Act.put, List.setIfInBounds_toArray, List.set_cons_zero, List.set_cons_succ] at hb
   subst hb
   rw [if_pos (by rfl)]
   go_wp2_with fail
   exact hK.out _ _ ⟨_, rfl, hS, rfl, AllP.same _⟩
  refine RelySteps.cons (RelyStep.mk [6] [0, 1, 2, 3, 4, 5, 9, 10, 11] rfl rfl rfl (fun xv wS hS hV bq hb K hK => ?_)) ?_
  ·obtain ⟨h6, _⟩ := hV
   have h6 : xv 6 = _ := h6
   simp only [putsOf, List.foldl_cons, List.foldl_nil, List.getD_cons_zero, List.getD_cons_succ, List.getD_nil, cond_true, cond_false, Act.put, List.setIfInBounds_toArray, List.set_cons_zero, List.set_cons_succ, h6] at hb
   clear h6
   subst hb
   rw [if_pos (by rfl)]
   (have l5 := HC.out _ hS; have c1 := (l5.cell 1).trans (show _ = some (Value.slice B p.ts.length d) from rfl); have c2 := l5.lt)
   go_wp2_with fail
   exact hK.out _ _ ⟨_, rfl, hS, rfl, AllP.same _⟩
  refine RelySteps.cons (RelyStep.mk [7] [0, 1, 2, 3, 4, 5, 10, 11] rfl rfl rfl (fun xv wS hS hV bq hb K hK => ?_)) ?_
  ·obtain ⟨h7, _⟩ := hV
   have h7 : xv 7 = _ := h7
   simp only [putsOf, List.foldl_cons, List.foldl_nil, List.getD_cons_zero, List.getD_cons_succ, List.getD_nil, cond_true, cond_false, Act.put, List.setIfInBounds_toArray, List.set_cons_zero, List.set_cons_succ, h7] at hb
   clear h7
   subst hb
   rw [if_pos (by rfl)]
   go_wp2_with fail
   exact hK.out _ _ ⟨_, rfl, hS, rfl, AllP.same _⟩
  refine RelySteps.cons (RelyStep.mk [8] [0, 1, 2, 3, 4, 5, 11] rfl rfl rfl (fun xv wS hS hV bq hb K hK => ?_)) ?_
  ·obtain ⟨h8, _⟩ := hV
   have h8 : xv 8 = _ := h8
   simp only [putsOf, List.foldl_cons, List.foldl_nil, List.getD_cons_zero, List.getD_cons_succ, List.getD_nil, cond_true, cond_false, Act.put, List.setIfInBounds_toArray, List.set_cons_zero, List.set_cons_succ, h8] at hb
   clear h8
   subst hb
   rw [if_pos (by rfl)]
   have HSS := Lib.hid hS
   obtain ⟨hm, ho⟩ := HM2.out wS
   have HO := Lib.hid ho
   clear hS ho
   go_wp2_with fail
   have hb : Below wS.heap.size wS (wS.alloc (.cells (madeCells #[.slice none 0 0] p.ts.length) 66)) := (Below.refl _ _).alloc (Nat.le_refl _) _
   exact hK.out _ _ ⟨_, rfl, then_ HSS.out hb, HO.out _ (Nat.le_trans HB1.out.size HSS.out.size), AllP.of _ (fun j _ _ h => bfV_below hb h)⟩
  refine RelySteps.cons (RelyStep.mk [1, 5, 9] [2, 6] rfl rfl rfl (fun xv wS hS hV bq hb K hK => ?_)) ?_
  ·obtain ⟨h1, h5, h9, _⟩ := hV
   simp only [putsOf, List.foldl_cons, List.foldl_nil, List.getD_cons_zero, List.getD_cons_succ, List.getD_nil, cond_true, cond_false, Act.put, List.setIfInBounds_toArray, List.set_cons_zero, List.set_cons_succ] at hb
   generalize xv 1 = y1 at *
   generalize xv 5 = y5 at *
   generalize xv 9 = y9 at *
   subst hb
   rw [if_pos (by rfl)]
   have HSS := Lib.hid hS
   obtain ⟨A', c', Q, d', rfl, ho1⟩ := h1
   have ho5 : wS.ownsRow w.heap.size 73 14 y5 p.ts.length (rowsOf thN (List.replicate p.ts.length thO)) := h5
   have ho9 : wS.ownsRow w.heap.size 66 1 y9 p.ts.length (List.replicate p.ts.length (.slice none 0 0)) := h9
   obtain ⟨A5, c5, rfl, _⟩ := owns_form ho5
   obtain ⟨A9, c9, rfl, _⟩ := owns_form ho9
   have HO1 := Lib.hid ho1
   have HO5 := Lib.hid ho5
   have HO9 := Lib.hid ho9
   clear hS ho1 ho5 ho9 h5 h9
   go_wp2_with fail
   exact hK.out _ _ ⟨_, rfl, HSS.out, ⟨_, _, _, _, _, _, rfl, HO1.out, HO5.out, HO9.out⟩, AllP.same _⟩
  refine RelySteps.cons (RelyStep.mk [10] [2, 3, 6, 7] rfl rfl rfl (fun xv wS hS hV bq hb K hK => ?_)) ?_
  ·obtain ⟨h10, _⟩ := hV
   simp only [putsOf, List.foldl_cons, List.foldl_nil, List.getD_cons_zero, List.getD_cons_succ, List.getD_nil, cond_true, cond_false, Act.put, List.setIfInBounds_toArray, List.set_cons_zero, List.set_cons_succ] at hb
   generalize xv 10 = y10 at *
   subst hb
   rw [if_pos (by rfl)]
   have HSS := Lib.hid hS
   obtain ⟨A', c', Q, d', tv, sv, rfl, ho1, ho5, ho9⟩ := h10
   have HO1 := Lib.hid ho1
   have HO5 := Lib.hid ho5
   have HO9 := Lib.hid ho9
   clear hS ho1 ho5 ho9
   go_wp2_with fail
   have hb : Below wS.heap.size wS (wS.alloc (.cells #[.slice A' p.rs.length c', .slice Q p.ts.length d', tv, sv, .slice none 0 0, .int .u64 0, .int .u64 0, .bool false] 82)) := (Below.refl _ _).alloc (Nat.le_refl _) _
   exact hK.out _ _ ⟨_, rfl, then_ HSS.out hb, ⟨_, ⟨A', c', Q, d', tv, sv, List.replicate p.ts.length (.slice none 0 0), .slice none 0 0⟩, rfl, ⟨Lies.made _ _ _, HO1.out.later hb, by rw [show (newL p []).th.length = p.ts.length from List.length_replicate]; exact owned_below HO5.out hb, sns_new (owned_below HO9.out hb), lns_nil _ _, Nat.le_trans HB1.out.size HSS.out.size⟩⟩, AllP.of _ (fun j _ _ h => bfV_below hb h)⟩
  refine RelySteps.cons (RelyStep.mk [11] [11] rfl rfl rfl (fun xv wS hS hV bq hb K hK => ?_)) ?_
  ·obtain ⟨h11, _⟩ := hV
   simp only [putsOf, List.foldl_cons, List.foldl_nil, List.getD_cons_zero, List.getD_cons_succ, List.getD_nil, cond_true, cond_false, Act.put, List.setIfInBounds_toArray, List.set_cons_zero, List.set_cons_succ] at hb
   generalize xv 11 = y11 at *
   subst hb
   rw [if_pos (by rfl)]
   have HSS := Lib.hid hS
   obtain ⟨F, z, rfl, hf⟩ := h11
   have HF := Lib.hid hf
   clear hS hf
   go_wp2_with fail
   exact hK.out _ _ ⟨_, rfl, HSS.out, ⟨_, _, rfl, HF.out⟩, AllP.same _⟩
  exact RelySteps.nil
 case rE =>
  intro xv wE hS hV
  have h11 := hV 11 (by decide) (by decide)
  have h12 := hV 12 (by decide) (by decide)
  clear hV
  simp only [putsOf, List.foldl_cons, List.foldl_nil, List.getD_cons_zero, List.getD_cons_succ, List.getD_nil, cond_true, cond_false, Act.put, List.setIfInBounds_toArray, List.set_cons_zero, List.set_cons_succ]
  generalize xv 0 = y0 at *
  generalize xv 1 = y1 at *
  generalize xv 2 = y2 at *
  generalize xv 3 = y3 at *
  generalize xv 4 = y4 at *
  generalize xv 5 = y5 at *
  generalize xv 6 = y6 at *
  generalize xv 7 = y7 at *
  generalize xv 8 = y8 at *
  generalize xv 9 = y9 at *
  generalize xv 10 = y10 at *
  generalize xv 11 = y11 at *
  generalize xv 12 = y12 at *
  obtain ⟨F, z, rfl, hf⟩ := h12
  have hzl : z.lv = .slice none 0 0 ∨ True := .inr trivial
  have HF := Lib.hid hf
  have HBE := Lib.hid (HB1.out.trans (hS.mono HB1.out.size))
  have HLE := Lib.hid (HC.out _ hS)
  clear hf hS h11 hzl HM1 HM2 HCP HC HL1 HB1
  generalize wE = w2 at *
  have l5 : Lies w2 w.heap.size 25 (pgC A c B d p) := HLE.out
  have c0 := (l5.cell 0).trans (show _ = some (Value.slice A p.rs.length c) from rfl)
  have c2 := l5.lt
  clear l5 HLE
  go_wp2_with fail
  clear c0 c2
  go_loopw [27] (fun u wr => ∃ (i : Nat) (z : Fv), i ≤ p.rs.length ∧ u = .int .i64 i ∧ Hid (FabAt wr w.heap.size F (newL p ((p.rs.take i).map laneO)) z) ∧ Hid (Below w.heap.size w wr)) (fun u _ => p.rs.length - (intOf u).toNat)
  case atStart => exact ⟨0, z, by omega, rfl, HF, HBE⟩
  case round =>
   clear HF HBE
   obtain ⟨i, z, hi, rfl, HF, HB⟩ := hrel
   by_cases hlt : i < p.rs.length
   ·have hii : (i : Int) < (p.rs.length : Int) := by omega
    obtain ⟨s, hs⟩ : ∃ s, p.rs[i]? = some s := ⟨_, List.getElem?_eq_getElem hlt⟩
    have hsp := HRS.out s (List.mem_of_getElem? hs)
    obtain ⟨b, off, rfl, hbl, gx⟩ := HH.out.1.at_ hs
    obtain ⟨k, sc, sr⟩ := s
    have hsp := of_decide_eq_true hsp
    dsimp only at hsp
    obtain ⟨cap, rfl⟩ : ∃ n : Nat, sc = n := ⟨sc.toNat, by omega⟩
    obtain ⟨rd, rfl⟩ : ∃ n : Nat, sr = n := ⟨sr.toNat, by omega⟩
    have x0 := (HB.out.cell hbl).trans (gx 0 _ (by decide) rfl)
    have x1 := (HB.out.cell hbl).trans (gx 1 _ (by decide) rfl)
    have x2 := (HB.out.cell hbl).trans (gx 2 _ (by decide) rfl)
    rw [Nat.add_zero] at x0
    have hbw := Nat.lt_of_lt_of_le hbl HB.out.size
    have HS := Lib.hid hs
    have HNR := Lib.hid (fun q => rgNew k cap rd q (by omega) (by omega) (by omega) (by omega) (by omega))
    have HBX : Hid (Below wr.heap.size wr (wr.alloc (.cells #[.int .i64 k, .int .i64 (cap : Int), .int .i64 (rd : Int)] 84))) := (Below.refl _ _).alloc (Nat.le_refl _) _
    clear gx hs hsp
    go_wp2_with fail
    refine (HNR.out _).mono ?_
    rintro e w4 ⟨g, rfl, hg, hrg, hb4⟩
    have HRG := Lib.hid hrg
    have HB4 := Lib.hid (then_ HBX.out hb4)
    have hgl := hrg.lt
    clear hg hrg hb4 HBX HNR x0 x1 x2 hbw
    go_upto_region 8 with (fail)
    have hf4 := HF.out.later HB4.out
    obtain ⟨ms, em, hms, hmo⟩ := id hf4.lr
    have hml : ms.length = i := by
     have := congrArg List.length em
     simp only [newL, List.length_map, List.length_take] at this
     omega
    rw [hml] at hms
    obtain ⟨cs, hcs, hcl, hld, hlane⟩ := rg_cells HRG.out
    obtain ⟨x, hx1, hx2, hx3⟩ := hlane false
    have hone : ∀ u ∈ cs ++ [Value.bool false], u.oneCell' = true := by rw [← hx3]; exact lnF_one x
    have hlen : (cs ++ [Value.bool false]).length = 207 := by rw [List.length_append, hcs]; rfl
    have HF4 := Lib.hid hf4
    have HMS := Lib.hid hms
    have HLD := Lib.hid hld
    have HCL := Lib.hid hcl
    have HBT := Lib.hid (HB.out.trans (HB4.out.mono HB.out.size))
    have HML : Hid (ms.length = i) := hml
    have HX : Hid (lnOk x ∧ laOf x = ⟨newR cap rd, false⟩ ∧ lnF x = cs ++ [.bool false] ∧ (∀ y ∈ ms, lnOk y) ∧ ms.map laOf = (p.rs.take i).map laneO) := ⟨hx1, hx2, hx3, hmo, em⟩
    have hFl := hf4.lt
    have hwz := HBT.out.size
    clear hf4 hms hld hlane hx1 hx2 hx3 hmo em HF HB HB4 HRG hcl hml
    obtain ⟨lv, hlv⟩ : ∃ lv, z.lv = lv := ⟨_, rfl⟩
    rw [hlv] at HMS
    have HFC : Hid (∀ q, Kept (fun k => lv.ownBlock = some k) w4 q → q.cell? ⟨F, 4, none⟩ = some lv ∧ q.frozen? ⟨F, 4, none⟩ = false ∧ F < q.heap.size ∧ Lies q g 95 cs.toArray) := fun q k => by
     have no : ∀ {r e cur}, Lies w4 r e cur → e ≠ 97 → ¬ lv.ownBlock = some r := fun {r e cur} h1 h2 h3 => h2 (own_same HMS.out h1 h3)
     have b1 := HF4.out.box.kept k (no HF4.out.box (by decide))
     exact ⟨(b1.cell 4).trans (show _ = some z.lv from rfl) |>.trans (by rw [hlv]), b1.free 4, b1.lt, HCL.out.kept k (no HCL.out (by decide))⟩
    have HLV : Hid (z.lv = lv) := hlv
    clear hlv
    refine wp_region_relyx (PuS w4 lv F 4 10 13 [0, 1, 2, 3, 4, 5, 6, 7, 8, 9, 10] [9] (fun v q => q.ownsRow w.heap.size 97 207 v (i + 1) (rowsOf lnF ms ++ (cs ++ [.bool false])))) (bfV [.eq (.pointer (some ⟨F, 0, none⟩)), .eq (.pointer (some ⟨F, 0, none⟩)), .eq (.pointer (some ⟨F, 0, none⟩)), .eq (.pointer (some ⟨F, 4, none⟩)), .eq lv, .eq (.pointer (some ⟨g, 0, none⟩)), .eq (.pointer (some ⟨g, 0, none⟩)), .eq (.agg cs.toArray), .eq (.agg (cs ++ [Value.bool false]).toArray), .of (fun v q => ∃ k, v = Value.slice (some ⟨k, 0, none⟩) 1 1 ∧ Lies q k 97 (cs ++ [Value.bool false]).toArray) (fun _ _ _ hb ⟨g, e, h1⟩ => ⟨g, e, h1.below hb h1.lt⟩), .any, .eq (.pointer (some ⟨F, 0, none⟩)), .eq (.pointer (some ⟨F, 4, none⟩)), .any]) [some 36, some 37, some 38, some 39, some 40, some 41, some 42, some 43, some 44, some 45, some 46, some 47, some 48, none] [[], [], [1], [2], [3], [], [5], [6], [7], [8], [4, 9], [0], [11], [12, 10]] [[], [], [1], [1, 2], [2, 3], [], [5], [5, 6], [6, 7], [7, 8], [3, 4, 8, 9], [0, 1, 2, 3, 4, 5, 6, 7, 8, 9], [0, 1, 2, 3, 4, 5, 6, 7, 8, 9, 11], [1, 2, 3, 4, 5, 6, 7, 8, 9, 11, 12]] [[1, 2, 3, 4, 5, 6, 7, 8, 9, 10], [0, 3, 4, 5, 6, 7, 8, 9, 10], [0, 4, 5, 6, 7, 8, 9, 10], [0, 5, 6, 7, 8, 9, 10], [0, 5, 6, 7, 8, 9], [0, 1, 2, 3, 4, 7, 8, 9, 10], [0, 1, 2, 3, 4, 8, 9, 10], [0, 1, 2, 3, 4, 9, 10], [0, 1, 2, 3, 4, 10], [0, 1, 2, 3, 4, 5], [0, 1, 5, 6], [10, 13], [10], [10]] [0, 1, 2, 3, 4, 5, 6, 7, 8, 9, 10, 11, 12, 13] 14 (by kernel_rfl) (by kernel_rfl) (by kernel_rfl) (by kernel_rfl) ?rS (fun j h1 h2 => absurd (Nat.lt_of_lt_of_le h1 (Nat.le_trans (by decide) h2)) (Nat.lt_irrefl _)) ?rT ?rE
    case rS => exact pu_start
    case rT =>
     refine RelyStepsX.cons (RelyStepX.mk [] [1, 2, 3, 4, 5, 6, 7, 8, 9, 10] rfl rfl rfl (fun xv Lv wS hS hL hLd hV bq hb K hK => ?_)) ?_
     ·clear hV
      simp only [putsOf, List.foldl_cons, List.foldl_nil, List.getD_cons_zero, List.getD_cons_succ, List.getD_nil, cond_true, cond_false, Act.put, List.setIfInBounds_toArray, List.set_cons_zero, List.set_cons_succ] at hb
      subst hb
      rw [if_pos (by rfl)]
      go_wp2_with fail
      exact hK.out _ _ ⟨_, rfl, pu_op (i := 0) rfl hS, rfl, AllPX.same _⟩
     refine RelyStepsX.cons (RelyStepX.mk [] [0, 3, 4, 5, 6, 7, 8, 9, 10] rfl rfl rfl (fun xv Lv wS hS hL hLd hV bq hb K hK => ?_)) ?_
     ·clear hV
      simp only [putsOf, List.foldl_cons, List.foldl_nil, List.getD_cons_zero, List.getD_cons_succ, List.getD_nil, cond_true, cond_false, Act.put, List.setIfInBounds_toArray, List.set_cons_zero, List.set_cons_succ] at hb
      subst hb
      rw [if_pos (by rfl)]
      go_wp2_with fail
      exact hK.out _ _ ⟨_, rfl, pu_op (i := 1) rfl hS, rfl, AllPX.same _⟩
     refine RelyStepsX.cons (RelyStepX.mk [1] [0, 4, 5, 6, 7, 8, 9, 10] rfl rfl rfl (fun xv Lv wS hS hL hLd hV bq hb K hK => ?_)) ?_
     ·obtain ⟨h1, _⟩ := hV
      have h1 : xv 1 = _ := h1
      simp only [putsOf, List.foldl_cons, List.foldl_nil, List.getD_cons_zero, List.getD_cons_succ, List.getD_nil, cond_true, cond_false, Act.put, List.setIfInBounds_toArray, List.set_cons_zero, List.set_cons_succ, h1] at hb
      clear h1
      subst hb
      rw [if_pos (by rfl)]
      (have c2 := (HFC.out _ (pu_at hS hL (by decide))).2.2.1)
      go_wp2_with fail
      exact hK.out _ _ ⟨_, rfl, pu_op (i := 2) rfl hS, rfl, AllPX.same _⟩
     refine RelyStepsX.cons (RelyStepX.mk [2] [0, 5, 6, 7, 8, 9, 10] rfl rfl rfl (fun xv Lv wS hS hL hLd hV bq hb K hK => ?_)) ?_
     ·obtain ⟨h2, _⟩ := hV
      have h2 : xv 2 = _ := h2
      simp only [putsOf, List.foldl_cons, List.foldl_nil, List.getD_cons_zero, List.getD_cons_succ, List.getD_nil, cond_true, cond_false, Act.put, List.setIfInBounds_toArray, List.set_cons_zero, List.set_cons_succ, h2] at hb
      clear h2
      subst hb
      rw [if_pos (by rfl)]
      go_wp2_with fail
      exact hK.out _ _ ⟨_, rfl, pu_op (i := 3) rfl hS, rfl, AllPX.same _⟩
     refine RelyStepsX.cons (RelyStepX.mk [3] [0, 5, 6, 7, 8, 9] rfl rfl rfl (fun xv Lv wS hS hL hLd hV bq hb K hK => ?_)) ?_
     ·obtain ⟨h3, _⟩ := hV
      have h3 : xv 3 = _ := h3
      simp only [putsOf, List.foldl_cons, List.foldl_nil, List.getD_cons_zero, List.getD_cons_succ, List.getD_nil, cond_true, cond_false, Act.put, List.setIfInBounds_toArray, List.set_cons_zero, List.set_cons_succ, h3] at hb
      clear h3
      subst hb
      rw [if_pos (by rfl)]
      (obtain ⟨c1, _, c2, _⟩ := HFC.out _ (pu_at hS hL (by decide)))
      go_wp2_with fail
      exact hK.out _ _ ⟨_, rfl, pu_op (i := 4) rfl hS, rfl, AllPX.same _⟩
     refine RelyStepsX.cons (RelyStepX.mk [] [0, 1, 2, 3, 4, 7, 8, 9, 10] rfl rfl rfl (fun xv Lv wS hS hL hLd hV bq hb K hK => ?_)) ?_
     ·clear hV
      simp only [putsOf, List.foldl_cons, List.foldl_nil, List.getD_cons_zero, List.getD_cons_succ, List.getD_nil, cond_true, cond_false, Act.put, List.setIfInBounds_toArray, List.set_cons_zero, List.set_cons_succ] at hb
      subst hb
      rw [if_pos (by rfl)]
      go_wp2_with fail
      exact hK.out _ _ ⟨_, rfl, pu_op (i := 5) rfl hS, rfl, AllPX.same _⟩
     refine RelyStepsX.cons (RelyStepX.mk [5] [0, 1, 2, 3, 4, 8, 9, 10] rfl rfl rfl (fun xv Lv wS hS hL hLd hV bq hb K hK => ?_)) ?_
     ·obtain ⟨h5, _⟩ := hV
      have h5 : xv 5 = _ := h5
      simp only [putsOf, List.foldl_cons, List.foldl_nil, List.getD_cons_zero, List.getD_cons_succ, List.getD_nil, cond_true, cond_false, Act.put, List.setIfInBounds_toArray, List.set_cons_zero, List.set_cons_succ, h5] at hb
      clear h5
      subst hb
      rw [if_pos (by rfl)]
      (have c2 := (HFC.out _ (pu_at hS hL (by decide))).2.2.2.lt)
      go_wp2_with fail
      exact hK.out _ _ ⟨_, rfl, pu_op (i := 6) rfl hS, rfl, AllPX.same _⟩
     refine RelyStepsX.cons (RelyStepX.mk [6] [0, 1, 2, 3, 4, 9, 10] rfl rfl rfl (fun xv Lv wS hS hL hLd hV bq hb K hK => ?_)) ?_
     ·obtain ⟨h6, _⟩ := hV
      have h6 : xv 6 = _ := h6
      simp only [putsOf, List.foldl_cons, List.foldl_nil, List.getD_cons_zero, List.getD_cons_succ, List.getD_nil, cond_true, cond_false, Act.put, List.setIfInBounds_toArray, List.set_cons_zero, List.set_cons_succ, h6] at hb
      clear h6
      subst hb
      rw [if_pos (by rfl)]
      obtain ⟨_, _, _, c4⟩ := HFC.out _ (pu_at hS hL (by decide))
      have HSS := Lib.hid hS
      clear hS
      refine wp_load_known _ _ rfl g 0 rfl _ (HLD.out _ c4) ?_
      exact hK.out _ _ ⟨_, rfl, pu_op rfl HSS.out, rfl, AllPX.same _⟩
     refine RelyStepsX.cons (RelyStepX.mk [7] [0, 1, 2, 3, 4, 10] rfl rfl rfl (fun xv Lv wS hS hL hLd hV bq hb K hK => ?_)) ?_
     ·obtain ⟨h7, _⟩ := hV
      have h7 : xv 7 = _ := h7
      simp only [putsOf, List.foldl_cons, List.foldl_nil, List.getD_cons_zero, List.getD_cons_succ, List.getD_nil, cond_true, cond_false, Act.put, List.setIfInBounds_toArray, List.set_cons_zero, List.set_cons_succ, h7] at hb
      clear h7
      subst hb
      rw [if_pos (by rfl)]
      have HSS := Lib.hid hS
      clear hS
      refine wp_build1_known _ _ rfl _ _ rfl (lane_build _ cs hcs) ?_
      exact hK.out _ _ ⟨_, rfl, pu_op rfl HSS.out, rfl, AllPX.same _⟩
     refine RelyStepsX.cons (RelyStepX.mk [8] [0, 1, 2, 3, 4, 5] rfl rfl rfl (fun xv Lv wS hS hL hLd hV bq hb K hK => ?_)) ?_
     ·obtain ⟨h8, _⟩ := hV
      have h8 : xv 8 = _ := h8
      simp only [putsOf, List.foldl_cons, List.foldl_nil, List.getD_cons_zero, List.getD_cons_succ, List.getD_nil, cond_true, cond_false, Act.put, List.setIfInBounds_toArray, List.set_cons_zero, List.set_cons_succ, h8] at hb
      clear h8
      subst hb
      rw [if_pos (by rfl)]
      have HSS := Lib.hid hS
      clear hS
      refine wp_lit1_known _ _ _ rfl _ 207 _ _ rfl Tryz.underlying80 infoLane (by decide) (by decide) hlen ?_
      have hb : Below wS.heap.size wS (wS.alloc (.cells (cs ++ [Value.bool false]).toArray 97)) := (Below.refl _ _).alloc (Nat.le_refl _) _
      exact hK.out _ _ ⟨_, rfl, pu_more rfl HSS.out hb, ⟨wS.heap.size, rfl, Lies.made _ _ _⟩, AllPX.of _ (fun j _ _ h => bfV_below hb h)⟩
     refine RelyStepsX.cons (RelyStepX.mk [4, 9] [0, 1, 5, 6] rfl rfl rfl (fun xv Lv wS hS hL hLd hV bq hb K hK => ?_)) ?_
     ·obtain ⟨h4, h9, _⟩ := hV
      have h4 : xv 4 = _ := h4
      simp only [putsOf, List.foldl_cons, List.foldl_nil, List.getD_cons_zero, List.getD_cons_succ, List.getD_nil, cond_true, cond_false, Act.put, List.setIfInBounds_toArray, List.set_cons_zero, List.set_cons_succ, h4] at hb
      clear h4
      generalize hy9 : xv 9 = y9 at *
      subst hb
      rw [if_pos (by rfl)]
      have hb9 := pu_bel hS hL (by decide)
      have HSS := Lib.hid hS
      obtain ⟨k, rfl, hl9⟩ := h9
      clear hS
      refine step_list (ops := #[]) (by rfl) (append_argS wS 207 rfl (.tmp 40) (.tmp 45) 80 rfl w.heap.size 97 _ 1656 Tryz.underlying80 infoLane (by kernel_rfl) (by decide) lv i (rowsOf lnF ms) rfl (owned_below HMS.out hb9) (some ⟨k, 0, none⟩) 1 1 rfl (cs ++ [Value.bool false]) (seq_oneL hl9 hlen) hone (by unfold maxLen; omega) (by omega) (Nat.le_trans hwz hb9.size) ?_)
      intro v' w' ho hb hgr
      exact hK.out _ _ ⟨_, rfl, pu_app rfl HSS.out (Kept.of_grown hgr) ho (fun j hj => hLd j (by revert hj; revert j; decide +kernel)), trivial, AllPX.of _ (fun j hj _ h => bfV_lit (by rfl) hj h)⟩
     refine RelyStepsX.cons (RelyStepX.mk [0] [10, 13] rfl rfl rfl (fun xv Lv wS hS hL hLd hV bq hb K hK => ?_)) ?_
     ·obtain ⟨h0, _⟩ := hV
      have h0 : xv 0 = _ := h0
      simp only [putsOf, List.foldl_cons, List.foldl_nil, List.getD_cons_zero, List.getD_cons_succ, List.getD_nil, cond_true, cond_false, Act.put, List.setIfInBounds_toArray, List.set_cons_zero, List.set_cons_succ, h0] at hb
      clear h0
      subst hb
      rw [if_pos (by rfl)]
      (have c2 := Nat.lt_of_lt_of_le hFl (pu_le hS))
      go_wp2_with fail
      exact hK.out _ _ ⟨_, rfl, pu_op (i := 11) rfl hS, rfl, AllPX.same _⟩
     refine RelyStepsX.cons (RelyStepX.mk [11] [10] rfl rfl rfl (fun xv Lv wS hS hL hLd hV bq hb K hK => ?_)) ?_
     ·obtain ⟨h11, _⟩ := hV
      have h11 : xv 11 = _ := h11
      simp only [putsOf, List.foldl_cons, List.foldl_nil, List.getD_cons_zero, List.getD_cons_succ, List.getD_nil, cond_true, cond_false, Act.put, List.setIfInBounds_toArray, List.set_cons_zero, List.set_cons_succ, h11] at hb
      clear h11
      subst hb
      rw [if_pos (by rfl)]
      go_wp2_with fail
      exact hK.out _ _ ⟨_, rfl, pu_op (i := 12) rfl hS, rfl, AllPX.same _⟩
     refine RelyStepsX.cons (RelyStepX.mk [12, 10] [10] rfl rfl rfl (fun xv Lv wS hS hL hLd hV bq hb K hK => ?_)) ?_
     ·obtain ⟨h12, h10, _⟩ := hV
      have h12 : xv 12 = _ := h12
      simp only [putsOf, List.foldl_cons, List.foldl_nil, List.getD_cons_zero, List.getD_cons_succ, List.getD_nil, cond_true, cond_false, Act.put, List.setIfInBounds_toArray, List.set_cons_zero, List.set_cons_succ, h12] at hb
      clear h12
      generalize hy10 : xv 10 = y10 at *
      subst hb
      rw [if_pos (by rfl)]
      obtain ⟨k1, ho⟩ := pu_st hS hL (hLd 10 (by decide +kernel))
      obtain ⟨q1, f1, qt, _⟩ := HFC.out _ k1
      rw [hy10] at ho
      obtain ⟨A8, c8, rfl, _⟩ := owns_form ho
      have HSS := Lib.hid hS
      clear hS ho k1
      go_wp2_with fail
      refine hK.out _ _ ⟨undef, rfl, ?_, trivial, AllPX.of _ (fun j hj _ h => bfV_lit (by rfl) hj h)⟩
      have := pu_store (v := undef) rfl HSS.out (fun j hj => hLd j (by revert hj; revert j; decide +kernel))
      rwa [hy10] at this
     exact RelyStepsX.nil
    case rE =>
     intro xv Lv wE hS hLall hV
     have h10 := hV 10 (by decide) (by decide)
     have h13 := hV 13 (by decide) (by decide)
     clear hV
     obtain ⟨q1, e1, k1, ho⟩ := pu_end hS (hLall 10 (by decide +kernel)) (hLall 13 (by decide +kernel))
     simp only [putsOf, List.foldl_cons, List.foldl_nil, List.getD_cons_zero, List.getD_cons_succ, List.getD_nil, cond_true, cond_false, Act.put, List.setIfInBounds_toArray, List.set_cons_zero, List.set_cons_succ]
     generalize xv 0 = y0 at *
     generalize xv 1 = y1 at *
     generalize xv 2 = y2 at *
     generalize xv 3 = y3 at *
     generalize xv 4 = y4 at *
     generalize xv 5 = y5 at *
     generalize xv 6 = y6 at *
     generalize xv 7 = y7 at *
     generalize xv 8 = y8 at *
     generalize xv 9 = y9 at *
     generalize xv 10 = y10 at *
     generalize xv 11 = y11 at *
     generalize xv 12 = y12 at *
     generalize xv 13 = y13 at *
     have hN : LnsA q1 w.heap.size y10 ((p.rs.take i).map laneO ++ [laneO ⟨k, cap, rd⟩]) := by
      obtain ⟨x1, x2, x3, x4, x5⟩ := HX.out
      refine ⟨ms ++ [x], by rw [List.map_append, x5, List.map_singleton, x2]; rfl, ?_, fun y hy => ?_⟩
      ·rw [List.length_append, HML.out, rowsOf_append, show rowsOf lnF [x] = lnF x by unfold rowsOf; simp, x3]; exact ho
      ·rcases List.mem_append.1 hy with hy | hy
       ·exact x4 y hy
       ·simp only [List.mem_singleton] at hy; subst hy; exact x1
     rw [← HLV.out] at k1
     obtain ⟨f1, k2⟩ := HF4.out.lanes k1 hN
     have htk : (p.rs.take i).map laneO ++ [laneO ⟨k, cap, rd⟩] = (p.rs.take (i + 1)).map laneO := by rw [List.take_add_one, HS.out, List.map_append]; rfl
     rw [htk, ← e1] at f1
     rw [← e1] at k2
     have HF9 : Hid (FabAt wE w.heap.size F (newL p ((p.rs.take (i + 1)).map laneO)) { z with lv := y10 }) := f1
     have HB9 : Hid (Below w.heap.size w wE) := HBT.out.trans (k2.below HBT.out.size (fun r hr e => by
      have := HF4.out.hB
      rcases e with e | e
      ·omega
      ·have := (own_lies (w := w4) (show w4.ownsRow w.heap.size _ _ z.lv _ _ from by rw [HLV.out]; exact HMS.out) e).1; omega))
     clear hS hN k1 f1 htk k2 e1 ho hLall HX HFC HMS HLD HCL HF4 hcs hone hlen
     go_wp2
     go_roundw
     case rel => exact ⟨i + 1, _, by omega, by go_num, HF9, HB9⟩
     case measure => simp [intOf]; omega
   ·obtain rfl : i = p.rs.length := by omega
    have hf := HF.out
    rw [List.take_length] at hf
    have HF9 : Hid (FabAt wr w.heap.size F (newF p) z) := hf
    clear hf
    go_wp2
    go_ret2
    exact ⟨F, z, rfl, HF9.out.hB, HF9.out, HB.out⟩
def FbTy (e : TypeId) : Prop := e = 82 ∨ e = 73 ∨ e = 66 ∨ e = 97 ∨ e = 37
instance (e : TypeId) : Decidable (FbTy e) := by unfold FbTy; infer_instance
def LwK (B lo hi : Nat) (q q' : World) : Prop := ∃ S : Nat → Prop, Kept S q q' ∧ ∀ r, S r → B ≤ r ∧ (r < lo ∨ hi ≤ r) ∧ ∃ e cur, Lies q r e cur ∧ FbTy e
structure LwAt (B F lo hi : Nat) (f : Fb) (k : Nat) (z : Fv) (q : World) : Prop where
 fab : FabAt q B F f z
 good : FbGood f k
 out : ∀ r, FpOf F z r → r < lo ∨ hi ≤ r
 le : hi ≤ q.heap.size
section
variable {B F lo hi k : Nat} {f : Fb} {z : Fv} {q q' : World}
theorem LwK.lies {T : TypeId} {b : Nat} {cs : Array Value} (h : LwK B lo hi q q') (hl : Lies q b T cs) (hT : ¬ FbTy T) : Lies q' b T cs := by
 obtain ⟨S, k, hS⟩ := h
 refine hl.kept k (fun hs => ?_)
 obtain ⟨_, _, e, cur, h1, h2⟩ := hS b hs
 rw [(h1.same hl).1] at h2
 exact hT h2
theorem LwK.mid {T : TypeId} {b : Nat} {cs : Array Value} (h : LwK B lo hi q q') (hl : Lies q b T cs) (h1 : lo ≤ b) (h2 : b < hi) : Lies q' b T cs := by
 obtain ⟨S, k, hS⟩ := h
 refine hl.kept k (fun hs => ?_)
 obtain ⟨_, h3, _⟩ := hS b hs
 omega
theorem LwK.below (h : LwK B lo hi q q') (hB : B ≤ q.heap.size) : Below B q q' := by
 obtain ⟨S, k, hS⟩ := h
 exact k.below hB (fun r hr hs => by have := (hS r hs).1; omega)
theorem fb_types {r : Nat} (h : FabAt q B F f z) (hr : FpOf F z r) : B ≤ r ∧ ∃ e cur, Lies q r e cur ∧ FbTy e := by
 obtain ⟨h1, e, cur, h2, h3⟩ := h.fp hr
 exact ⟨h1, e, cur, h2, h3⟩
theorem LwAt.start (h : FabAt q B F f z) (g : FbGood f k) : LwAt B F q.heap.size q.heap.size f k z q :=
 ⟨h, g, fun r hr => by obtain ⟨_, e, cur, hl, _⟩ := fb_types h hr; exact .inl hl.lt, Nat.le_refl _⟩
theorem LwAt.later (h : LwAt B F lo hi f k z q) (hb : Below q.heap.size q q') : LwAt B F lo hi f k z q' := ⟨h.fab.later hb, h.good, h.out, Nat.le_trans h.le hb.size⟩
theorem LwAt.reset (h : LwAt B F lo hi f k z q) : LwAt B F q.heap.size q.heap.size f k z q := LwAt.start h.fab h.good
theorem LwAt.grow (h : LwAt B F q.heap.size q.heap.size f k z q) (hb : Below q.heap.size q q') : LwAt B F q.heap.size q'.heap.size f k z q' := by
 refine ⟨h.fab.later hb, h.good, fun r hr => ?_, Nat.le_refl _⟩
 obtain ⟨_, e, cur, hl, _⟩ := fb_types h.fab hr
 exact .inl hl.lt
theorem LwAt.kept {S : Nat → Prop} (h : LwAt B F lo hi f k z q) (kp : Kept S q q') (hS : ∀ r e cur, Lies q r e cur → S r → ¬ FpOf F z r ∧ e ≠ 84 ∧ e ≠ 78 ∧ e ≠ 122) : LwAt B F lo hi f k z q' := by
 refine ⟨⟨h.fab.box.kept kp (fun e => (hS _ _ _ h.fab.box e).1 (.inl rfl)), h.fab.pg.kept kp (fun r e cur he hl hs => by obtain ⟨_, h1, h2, h3⟩ := hS r e cur hl hs; rcases he with rfl | rfl | rfl; exact h1 rfl; exact h2 rfl; exact h3 rfl), owns_kept h.fab.tr kp (fun r cur hr hl hs => (hS r _ cur hl hs).1 (.inr (.inl hr))), h.fab.sr.kept kp (fun r a hr hl hs => (hS r _ a hl hs).1 (.inr (.inr (.inl hr)))) (fun u r a hu hr hl hs => (hS r _ a hl hs).1 (.inr (.inr (.inr (.inr ⟨u, hu, hr⟩))))), ?_, h.fab.hB⟩, h.good, h.out, Nat.le_trans h.le kp.size⟩
 obtain ⟨ms, e, h1⟩ := h.fab.lr
 exact ⟨ms, e, h1.kept kp (fun r cur hr hl hs => (hS r _ cur hl hs).1 (.inr (.inr (.inr (.inl hr)))))⟩
def LdPost (B F lo hi : Nat) (f' : Fb) (k : Nat) (E : Int) (q : World) (r : Ending) (q' : World) : Prop := r = .returned (.int .i64 E) ∧ LwK B lo hi q q' ∧ ∃ z', LwAt B F lo hi f' (k + 1) z' q'
theorem ld_of {e : Ev} {E : Int} {f' : Fb} {r : Ending} (h : LwAt B F lo hi f k z q) (hp : DgPost q B F z k E f' r q') : LdPost B F lo hi f' k E q r q' := by
 obtain ⟨h1, z', h2, h3, h4, h5⟩ := hp
 refine ⟨h1, ⟨FpOf F z, h4, fun r hr => ?_⟩, z', h2, h3, fun r hr => ?_, Nat.le_trans h.le h4.size⟩
 ·obtain ⟨h6, e, cur, h7, h8⟩ := fb_types h.fab hr
  exact ⟨h6, h.out r hr, e, cur, h7, h8⟩
 ·rcases h5 r hr with h6 | h6
  ·exact h.out r h6
  ·exact .inr (Nat.le_trans h.le h6)
theorem lwDo {e : Ev} (he : evOk e) (hk : k ≤ 1000000) (h : LwAt B F lo hi f k z q) : Calls Tryz.prog 18 #[.pointer (some ⟨F, 0, none⟩), .agg (evC e)] q (LdPost B F lo hi (doF f e) k (fdoE f e) q) :=
 (fbDoG he hk h.fab h.good).mono fun _ _ hp => ld_of (e := e) h hp
theorem lwFeed {e : Ev} (he : evOk e) (hk : k ≤ 1000000) (h : LwAt B F lo hi f k z q) : Calls Tryz.prog 23 #[.pointer (some ⟨F, 0, none⟩), .agg (evC e)] q (LdPost B F lo hi (feedF f e) k (feedE f e) q) :=
 (fbFeedG he hk h.fab h.good).mono fun _ _ hp => ld_of (e := e) h hp
theorem lwAllowed {e : Ev} (he : evOk e) (h : LwAt B F lo hi f k z q) : Calls Tryz.prog 16 #[.pointer (some ⟨F, 0, none⟩), .agg (evC e)] q fun r q' => r = .returned (.bool (alwB f e)) ∧ Below q.heap.size q q' := fbAllowedG he h.fab h.good
end
structure LwD (B F : Nat) (D : Nat → Prop) (f : Fb) (k : Nat) (z : Fv) (q : World) : Prop where
 fab : FabAt q B F f z
 good : FbGood f k
 out : ∀ r, D r → ¬ FpOf F z r ∧ r < q.heap.size
def LdD (B F : Nat) (D : Nat → Prop) (f' : Fb) (k : Nat) (E : Int) (q : World) (r : Ending) (q' : World) : Prop := r = .returned (.int .i64 E) ∧ ∃ S : Nat → Prop, Kept S q q' ∧ (∀ r, S r → B ≤ r ∧ ¬ D r ∧ ∃ e cur, Lies q r e cur ∧ FbTy e) ∧ ∃ z', LwD B F D f' (k + 1) z' q'
section
variable {B F k : Nat} {D D' : Nat → Prop} {f : Fb} {z : Fv} {q q' : World}
theorem lwd_of {e : Ev} {E : Int} {f' : Fb} {r : Ending} (h : LwD B F D f k z q) (hp : DgPost q B F z k E f' r q') : LdD B F D f' k E q r q' := by
 obtain ⟨h1, z', h2, h3, h4, h5⟩ := hp
 refine ⟨h1, FpOf F z, h4, fun r hr => ?_, z', h2, h3, fun r hr => ⟨fun h6 => ?_, Nat.lt_of_lt_of_le (h.out r hr).2 h4.size⟩⟩
 ·obtain ⟨h6, e, cur, h7, h8⟩ := fb_types h.fab hr
  exact ⟨h6, fun hd => (h.out r hd).1 hr, e, cur, h7, h8⟩
 ·have := h.out r hr
  rcases h5 r h6 with h6 | h6
  ·exact this.1 h6
  ·omega
theorem lwdDo {e : Ev} (he : evOk e) (hk : k ≤ 1000000) (h : LwD B F D f k z q) : Calls Tryz.prog 18 #[.pointer (some ⟨F, 0, none⟩), .agg (evC e)] q (LdD B F D (doF f e) k (fdoE f e) q) :=
 (fbDoG he hk h.fab h.good).mono fun _ _ hp => lwd_of (e := e) h hp
theorem LwD.later (h : LwD B F D f k z q) (hb : Below q.heap.size q q') : LwD B F D f k z q' := ⟨h.fab.later hb, h.good, fun r hr => ⟨(h.out r hr).1, Nat.lt_of_lt_of_le (h.out r hr).2 hb.size⟩⟩
theorem LwD.kept {S : Nat → Prop} (h : LwD B F D f k z q) (kp : Kept S q q') (hS : ∀ r e cur, Lies q r e cur → S r → ¬ FpOf F z r ∧ e ≠ 84 ∧ e ≠ 78 ∧ e ≠ 122) (hD : ∀ r, D' r → (D r ∨ q.heap.size ≤ r) ∧ r < q'.heap.size) : LwD B F D' f k z q' := by
 have h0 : LwAt B F q.heap.size q.heap.size f k z q := LwAt.start h.fab h.good
 refine ⟨(h0.kept kp hS).fab, h.good, fun r hr => ⟨fun h6 => ?_, (hD r hr).2⟩⟩
 rcases (hD r hr).1 with h7 | h7
 ·exact (h.out r h7).1 h6
 ·obtain ⟨_, e, cur, hl, _⟩ := fb_types h.fab h6
  have := hl.lt
  omega
end
theorem instrE_in {rs : List Ri} {n : Nat} {x : In} (h : instrE rs n x = 0) (ho : x.op = 18 ∨ x.op = 19 ∨ x.op = 20) : 0 ≤ x.c ∧ x.c < (rs.length : Int) := by
 have hr := (instrE_zero h).1
 unfold instrE at h
 rw [if_neg (by rw [hr]; decide)] at h
 have hj : jumpsB x.op = false := by unfold jumpsB; rcases ho with e | e | e <;> rw [e] <;> rfl
 have hg : onRingB x.op = true := by unfold onRingB; rcases ho with e | e | e <;> rw [e] <;> rfl
 rw [if_neg (by rw [hj]; simp), if_neg (by rw [hg]; decide)] at h
 refine ⟨?_, ?_⟩
 ·exact (right_ring hr hg).1
 ·by_cases hc : (rs.length : Int) ≤ x.c
  ·rw [if_pos hc] at h; cases h
  ·omega
theorem newF_good {p : Pg} (hp : pgOk p) (hr : rightP p = true) : FbGood (newF p) 0 := by
 refine ⟨newL_ok hp (by simp), fun l hl i hi ho => ?_, fun x hx => ?_, fun s hs => ?_⟩
 ·exact instrE_in (((rightP_all hr).2.2 l hl).2.2 i hi) ho
 ·obtain ⟨r, _, rfl⟩ := List.mem_map.1 hx
  exact Nat.le_refl _
 ·have := List.eq_of_mem_replicate hs; subst this; exact Nat.le_refl _
def sumL (ts : List (List In)) : Nat := (ts.map List.length).sum
def fewB (p : Pg) (m : Nat) : Bool := decide (p.rs.length ≤ 10 ∧ p.ts.length ≤ 10 ∧ (∀ l ∈ p.ts, l.length ≤ m) ∧ sumL p.ts ≤ m)
theorem sumL_next {ts : List (List In)} {t : Nat} {l : List In} (h : ts[t]? = some l) : sumL (ts.take (t + 1)) = sumL (ts.take t) + l.length := by
 unfold sumL
 rw [List.take_add_one, h]
 simp
set_option maxHeartbeats 4000000 in
set_option maxRecDepth 100000 in
theorem rfFew (p : Pg) (m : Nat) (A : Option Addr) (c : Nat) (B : Option Addr) (d : Nat) (w : World) (h : PgAt w A c B d p) (hm : m ≤ 1000) :
  Calls Tryz.prog 10 #[.agg (pgC A c B d p), .int .i64 (m : Int)] w fun e w' => e = .returned (.bool (fewB p m)) ∧ Below w.heap.size w w' := by
 obtain ⟨hc1, hc2⟩ := seq_form h.1
 obtain ⟨hd1, hd2⟩ := h.2.form
 have hb0 : Below w.heap.size w (w.alloc (.cells (pgC A c B d p) 25)) := (Below.refl _ _).alloc (Nat.le_refl _) _
 have l0 := Lies.made w 25 (pgC A c B d p)
 have HH := Lib.hid h.2
 have HB0 := Lib.hid hb0
 have HL0 := Lib.hid l0
 have HE : Hid (fewB p m = _) := show fewB p m = _ by unfold fewB; rfl
 clear h hb0 l0
 by_cases h1 : 10 < p.rs.length
 ·have HF : Hid (fewB p m = false) := HE.out.trans (decide_eq_false (fun h => by omega))
  have e1 : decide ((10 : Int) < (p.rs.length : Int)) = true := by simp; omega
  clear HE h1
  go_enter Tryz.func10, Tryz.ntmps10
  go_wp2
  go_ret
  exact ⟨ret_bool (by rw [HF.out]), HB0.out⟩
 have e1 : decide ((10 : Int) < (p.rs.length : Int)) = false := by simp; omega
 by_cases h2 : 10 < p.ts.length
 ·have HF : Hid (fewB p m = false) := HE.out.trans (decide_eq_false (fun h => by omega))
  have e2 : decide ((10 : Int) < (p.ts.length : Int)) = true := by simp; omega
  clear HE h1 h2
  go_enter Tryz.func10, Tryz.ntmps10
  go_wp2
  go_ret
  exact ⟨ret_bool (by rw [HF.out]), HB0.out⟩
 have e2 : decide ((10 : Int) < (p.ts.length : Int)) = false := by simp; omega
 go_enter Tryz.func10, Tryz.ntmps10
 go_wp2_with fail
 generalize w.alloc (.cells (pgC A c B d p) 25) = w1 at *
 have c1 := (HL0.out.cell 1).trans (show _ = some (Value.slice B p.ts.length d) from rfl)
 have hl1 := HL0.out.lt
 go_loopw [5, 6] (fun v u wr => ∃ k s : Nat, k ≤ p.ts.length ∧ u = .int .i64 k ∧ v = .int .i64 s ∧ s ≤ k * m ∧ Hid (s = sumL (p.ts.take k)) ∧ Hid (∀ l ∈ p.ts.take k, l.length ≤ m) ∧ wr = w1) (fun _ u _ => p.ts.length - (intOf u).toNat)
 case atStart => exact ⟨0, 0, by omega, rfl, rfl, by omega, rfl, fun l hl => by simp at hl, rfl⟩
 case round =>
  obtain ⟨k, s, hk, rfl, rfl, hs, hsum, hall, rfl⟩ := hrel
  have hkm : k * m ≤ 10 * m := Nat.mul_le_mul_right m (by omega)
  have hs1 : s ≤ 10000 := by omega
  have HKM := Lib.hid hkm
  have HS := Lib.hid hs
  clear hkm hs
  by_cases hlt : k < p.ts.length
  ·have hki : (k : Int) < (p.ts.length : Int) := by omega
   obtain ⟨l, hl⟩ : ∃ l, p.ts[k]? = some l := ⟨_, List.getElem?_eq_getElem hlt⟩
   obtain ⟨b, off, B2, d2, rfl, g0, hil⟩ := (HH.out.later HB0.out).at_ hl
   obtain ⟨hc3, hc4⟩ := seq_form hil
   have HLM := Lib.hid (List.mem_of_getElem? hl)
   have HSN := Lib.hid (sumL_next hl)
   have HT := Lib.hid (show p.ts.take (k + 1) = p.ts.take k ++ [l] by rw [List.take_add_one, hl]; rfl)
   clear hil hl
   by_cases hlm : m < l.length
   ·have HF : Hid (fewB p m = false) := HE.out.trans (decide_eq_false (fun h => by have := h.2.2.1 l HLM.out; omega))
    have e3 : decide ((m : Int) < (l.length : Int)) = true := by simp; omega
    have e4 : decide (m < l.length) = true := by simpa using hlm
    clear HE hlm
    go_wp2
    go_ret
    exact ⟨ret_bool (by rw [HF.out]), HB0.out⟩
   have e3 : decide ((m : Int) < (l.length : Int)) = false := by simp; omega
   have e4 : decide (m < l.length) = false := by simpa using hlm
   have hll : l.length ≤ 1000 := by omega
   have HSZ : Hid (s + l.length ≤ (k + 1) * m) := by have := HS.out; show _ ≤ _; rw [Nat.add_mul]; omega
   have HS1 : Hid (s + l.length = sumL (p.ts.take (k + 1))) := by show _ = _; rw [HSN.out, hsum.out]
   have HA1 : Hid (∀ q ∈ p.ts.take (k + 1), q.length ≤ m) := fun q hq => by
    rw [HT.out] at hq
    rcases List.mem_append.1 hq with hq | hq
    ·exact hall.out q hq
    ·simp at hq; subst hq; omega
   clear hlm hsum hall
   go_wp2
   go_roundw
   case rel => exact ⟨k + 1, s + l.length, by omega, by go_num, by go_num, HSZ.out, HS1, HA1, trivial⟩
   case measure => simp [intOf]; omega
  ·obtain rfl : k = p.ts.length := by omega
   have hsum := hsum.out
   have hall := hall.out
   rw [List.take_length] at hsum hall
   have HF : Hid (fewB p m = decide (s ≤ m)) := by
    show _ = _
    rw [HE.out, Bool.eq_iff_iff, decide_eq_true_eq, decide_eq_true_eq, hsum]
    exact ⟨fun h => h.2.2.2, fun h => ⟨by omega, by omega, hall, h⟩⟩
   clear HE hsum hall
   go_wp2
   go_ret
   exact ⟨ret_bool (by rw [HF.out]), HB0.out⟩
def formL (op : Int) : List UInt8 :=
 if op = 1 then [114, 48, 48, 48, 110] else if op = 2 ∨ op = 23 then [114, 114, 48, 48, 48] else if 3 ≤ op ∧ op ≤ 14 then [114, 114, 114, 48, 48] else
 if op = 15 then [48, 48, 48, 48, 112] else if op = 16 ∨ op = 17 then [114, 48, 48, 48, 112] else if op = 18 then [114, 114, 103, 109, 48] else if op = 19 then [114, 114, 103, 109, 100] else
 if op = 20 then [48, 48, 103, 48, 48] else if op = 21 ∨ op = 22 ∨ op = 24 then [114, 48, 48, 48, 48] else if op = 25 then [48, 48, 48, 48, 48] else []
def mostN (c : Nat) : Nat := if c = 114 ∨ c = 103 ∨ c = 100 then 7 else if c = 109 then 2 else if c = 112 then 256 else if c = 110 then 18446744073709551615 else 0
theorem form_yes {op : Int} (h : opB op = true) : (formL op).length = 5 ∧ mostN ((formL op).getD 4 0).toNat = gK op ∧ ((mostN ((formL op).getD 0 0).toNat : Nat) : Int) = (gL op).1 ∧ ((mostN ((formL op).getD 1 0).toNat : Nat) : Int) = (gL op).2.1 ∧ ((mostN ((formL op).getD 2 0).toNat : Nat) : Int) = (gL op).2.2.1 ∧ ((mostN ((formL op).getD 3 0).toNat : Nat) : Int) = (gL op).2.2.2 := by
 rcases op_lit h with rfl | rfl | rfl | rfl | rfl | rfl | rfl | rfl | rfl | rfl | rfl | rfl | rfl | rfl | rfl | rfl | rfl | rfl | rfl | rfl | rfl | rfl | rfl | rfl | rfl <;> decide +kernel
set_option maxHeartbeats 8000000 in
theorem form_lit (op : Int) (w : World) (h : op = 1 ∨ op = 2 ∨ op = 3 ∨ op = 4 ∨ op = 5 ∨ op = 6 ∨ op = 7 ∨ op = 8 ∨ op = 9 ∨ op = 10 ∨ op = 11 ∨ op = 12 ∨ op = 13 ∨ op = 14 ∨ op = 15 ∨ op = 16 ∨ op = 17 ∨ op = 18 ∨ op = 19 ∨ op = 20 ∨ op = 21 ∨ op = 22 ∨ op = 23 ∨ op = 24 ∨ op = 25) :
  Calls Tryz.prog 133 #[.int .i64 op] w fun e w' => e = .returned (.string ⟨(formL op).toArray⟩) ∧ w = w' := by
 rcases h with rfl | rfl | rfl | rfl | rfl | rfl | rfl | rfl | rfl | rfl | rfl | rfl | rfl | rfl | rfl | rfl | rfl | rfl | rfl | rfl | rfl | rfl | rfl | rfl | rfl
 all_goals
  go_enter Tryz.func133, Tryz.ntmps133
  go_wp2
  go_ret
  exact ⟨rfl, rfl⟩
set_option maxHeartbeats 4000000 in
theorem form_none (op : Int) (w : World) (h : opB op = false) : Calls Tryz.prog 133 #[.int .i64 op] w fun e w' => e = .returned (.string ⟨#[]⟩) ∧ w = w' := by
 have h := of_decide_eq_false h
 by_cases h1 : op < 1
 ·have a1 : (op == 1) = false := by rw [beq_eq_false_iff_ne]; omega
  have a2 : (op == 2) = false := by rw [beq_eq_false_iff_ne]; omega
  have a23 : (op == 23) = false := by rw [beq_eq_false_iff_ne]; omega
  have a3 : decide (3 ≤ op) = false := by simp; omega
  have a15 : (op == 15) = false := by rw [beq_eq_false_iff_ne]; omega
  have a16 : (op == 16) = false := by rw [beq_eq_false_iff_ne]; omega
  have a17 : (op == 17) = false := by rw [beq_eq_false_iff_ne]; omega
  have a18 : (op == 18) = false := by rw [beq_eq_false_iff_ne]; omega
  have a19 : (op == 19) = false := by rw [beq_eq_false_iff_ne]; omega
  have a20 : (op == 20) = false := by rw [beq_eq_false_iff_ne]; omega
  have a21 : (op == 21) = false := by rw [beq_eq_false_iff_ne]; omega
  have a22 : (op == 22) = false := by rw [beq_eq_false_iff_ne]; omega
  have a24 : (op == 24) = false := by rw [beq_eq_false_iff_ne]; omega
  have a25 : (op == 25) = false := by rw [beq_eq_false_iff_ne]; omega
  clear h
  go_enter Tryz.func133, Tryz.ntmps133
  go_wp2
  go_ret
  exact ⟨rfl, rfl⟩
 ·have h2 : 25 < op := by omega
  have a1 : (op == 1) = false := by rw [beq_eq_false_iff_ne]; omega
  have a2 : (op == 2) = false := by rw [beq_eq_false_iff_ne]; omega
  have a23 : (op == 23) = false := by rw [beq_eq_false_iff_ne]; omega
  have a3 : decide (3 ≤ op) = true := by simp; omega
  have a14 : decide (op ≤ 14) = false := by simp; omega
  have a15 : (op == 15) = false := by rw [beq_eq_false_iff_ne]; omega
  have a16 : (op == 16) = false := by rw [beq_eq_false_iff_ne]; omega
  have a17 : (op == 17) = false := by rw [beq_eq_false_iff_ne]; omega
  have a18 : (op == 18) = false := by rw [beq_eq_false_iff_ne]; omega
  have a19 : (op == 19) = false := by rw [beq_eq_false_iff_ne]; omega
  have a20 : (op == 20) = false := by rw [beq_eq_false_iff_ne]; omega
  have a21 : (op == 21) = false := by rw [beq_eq_false_iff_ne]; omega
  have a22 : (op == 22) = false := by rw [beq_eq_false_iff_ne]; omega
  have a24 : (op == 24) = false := by rw [beq_eq_false_iff_ne]; omega
  have a25 : (op == 25) = false := by rw [beq_eq_false_iff_ne]; omega
  clear h h1
  go_enter Tryz.func133, Tryz.ntmps133
  go_wp2
  go_ret
  exact ⟨rfl, rfl⟩
set_option maxHeartbeats 4000000 in
theorem most_any (c : Nat) (w : World) : Calls Tryz.prog 134 #[.int .u8 (c : Int)] w fun e w' => e = .returned (.int .u64 (mostN c : Nat)) ∧ w = w' := by
 have hm : mostN c = if c = 114 ∨ c = 103 ∨ c = 100 then 7 else if c = 109 then 2 else if c = 112 then 256 else if c = 110 then 18446744073709551615 else 0 := rfl
 have HM := Lib.hid hm
 clear hm
 obtain ⟨b1, h1⟩ : ∃ b, ((c : Int) == 114) = b := ⟨_, rfl⟩
 obtain ⟨b2, h2⟩ : ∃ b, ((c : Int) == 103) = b := ⟨_, rfl⟩
 obtain ⟨b3, h3⟩ : ∃ b, ((c : Int) == 100) = b := ⟨_, rfl⟩
 obtain ⟨b4, h4⟩ : ∃ b, ((c : Int) == 109) = b := ⟨_, rfl⟩
 obtain ⟨b5, h5⟩ : ∃ b, ((c : Int) == 112) = b := ⟨_, rfl⟩
 obtain ⟨b6, h6⟩ : ∃ b, ((c : Int) == 110) = b := ⟨_, rfl⟩
 cases b1
 case true =>
  have : c = 114 := by have := beq_iff_eq.1 h1; omega
  subst this
  clear h1 h2 h3 h4 h5 h6
  go_enter Tryz.func134, Tryz.ntmps134
  go_wp2
  go_ret
  exact ⟨rfl, rfl⟩
 cases b2
 case true =>
  have : c = 103 := by have := beq_iff_eq.1 h2; omega
  subst this
  clear h1 h2 h3 h4 h5 h6
  go_enter Tryz.func134, Tryz.ntmps134
  go_wp2
  go_ret
  exact ⟨rfl, rfl⟩
 cases b3
 case true =>
  have : c = 100 := by have := beq_iff_eq.1 h3; omega
  subst this
  clear h1 h2 h3 h4 h5 h6
  go_enter Tryz.func134, Tryz.ntmps134
  go_wp2
  go_ret
  exact ⟨rfl, rfl⟩
 cases b4
 case true =>
  have : c = 109 := by have := beq_iff_eq.1 h4; omega
  subst this
  clear h1 h2 h3 h4 h5 h6
  go_enter Tryz.func134, Tryz.ntmps134
  go_wp2
  go_ret
  exact ⟨rfl, rfl⟩
 cases b5
 case true =>
  have : c = 112 := by have := beq_iff_eq.1 h5; omega
  subst this
  clear h1 h2 h3 h4 h5 h6
  go_enter Tryz.func134, Tryz.ntmps134
  go_wp2
  go_ret
  exact ⟨rfl, rfl⟩
 cases b6
 case true =>
  have : c = 110 := by have := beq_iff_eq.1 h6; omega
  subst this
  clear h1 h2 h3 h4 h5 h6
  go_enter Tryz.func134, Tryz.ntmps134
  go_wp2
  go_ret
  exact ⟨rfl, rfl⟩
 have HZ : Hid (mostN c = 0) := by
  rw [beq_eq_false_iff_ne] at h1 h2 h3 h4 h5 h6
  show mostN c = 0
  rw [HM.out, if_neg (by omega), if_neg (by omega), if_neg (by omega), if_neg (by omega)]
 go_enter Tryz.func134, Tryz.ntmps134
 go_wp2
 go_ret
 exact ⟨by rw [HZ.out]; rfl, rfl⟩
def lvA (x : In) : Nat → Int := fun j => [x.a, x.b, x.c, x.d].getD j 0
def glA (op : Int) : Nat → Int := fun j => [(gL op).1, (gL op).2.1, (gL op).2.2.1, (gL op).2.2.2].getD j 0
theorem rightB_all (x : In) (h : opB x.op = true) : rightB x = (kB x && (List.range 4).all fun j => wB (lvA x j) (glA x.op j)) := by
 unfold rightB
 rw [h, Bool.true_and]
 have : (List.range 4).all (fun j => wB (lvA x j) (glA x.op j)) = (wB x.a (gL x.op).1 && (wB x.b (gL x.op).2.1 && (wB x.c (gL x.op).2.2.1 && wB x.d (gL x.op).2.2.2))) := by
  show ([0, 1, 2, 3] : List Nat).all _ = _
  simp [lvA, glA]
 rw [this]
 cases wB x.a (gL x.op).1 <;> cases wB x.b (gL x.op).2.1 <;> cases wB x.c (gL x.op).2.2.1 <;> cases wB x.d (gL x.op).2.2.2 <;> cases kB x <;> rfl
theorem rightB_not {x : In} (h : opB x.op = true) {j : Nat} (hj : j < 4) (hw : wB (lvA x j) (glA x.op j) = false) : rightB x = false := by
 rw [rightB_all x h]
 cases hr : (List.range 4).all fun j => wB (lvA x j) (glA x.op j) with
 | false => simp
 | true =>
  have := List.all_eq_true.1 hr j (List.mem_range.2 hj)
  rw [hw] at this; cases this
set_option maxHeartbeats 8000000 in
set_option maxRecDepth 100000 in
theorem rfRight (x : In) (w : World) (hx : inOk x) : Calls Tryz.prog 103 #[.agg (inC x)] w fun e w' => e = .returned (.bool (rightB x)) ∧ Below w.heap.size w w' := by
 have hb0 : Below w.heap.size w (w.alloc (.cells (inC x) 122)) := (Below.refl _ _).alloc (Nat.le_refl _) _
 have l0 := Lies.made w 122 (inC x)
 have HB0 := Lib.hid hb0
 have HL0 := Lib.hid l0
 clear hb0 l0
 by_cases hno : opB x.op = false
 ·have HF := Lib.hid (fun w => form_none x.op w hno)
  have HE : Hid (rightB x = false) := by show rightB x = false; unfold rightB; rw [hno, Bool.false_and]
  clear hno
  go_enter Tryz.func103, Tryz.ntmps103
  go_wp2_with fail
  generalize w.alloc (.cells (inC x) 122) = w1 at *
  refine (HF.out _).mono ?_
  rintro e w2 ⟨rfl, rfl⟩
  go_wp2
  go_quiet (fail)
  go_wp2
  go_ret
  exact ⟨ret_bool (by rw [HE.out]), below_drewN HB0.out _⟩
 have hyes : opB x.op = true := by simpa using hno
 obtain ⟨m5, m4, m0, m1, m2, m3⟩ := form_yes hyes
 have HF := Lib.hid (fun w => form_lit x.op w (op_lit hyes))
 have HYES := Lib.hid hyes
 have HALL := Lib.hid (rightB_all x hyes)
 have hs5 : (⟨(formL x.op).toArray⟩ : ByteArray).size = 5 := by show (formL x.op).toArray.size = 5; simpa using m5
 have hget : ∀ (k : Nat) (h : k < (⟨(formL x.op).toArray⟩ : ByteArray).size), ((⟨(formL x.op).toArray⟩ : ByteArray)[k]'h) = (formL x.op).getD k 0 := fun k h => by
  have h2 : k < (formL x.op).length := by rw [hs5] at h; omega
  rw [List.getD_eq_getElem?_getD, List.getElem?_eq_getElem h2]
  rfl
 have HM4 : Hid (∀ (h : 4 < (⟨(formL x.op).toArray⟩ : ByteArray).size), mostN ((⟨(formL x.op).toArray⟩ : ByteArray)[4]'h).toNat = gK x.op) := fun h => by rw [hget]; exact m4
 have HMK : Hid (∀ (k : Nat) (h : k < (⟨(formL x.op).toArray⟩ : ByteArray).size), k < 4 → ((mostN ((⟨(formL x.op).toArray⟩ : ByteArray)[k]'h).toNat : Nat) : Int) = glA x.op k) := fun k h hk => by
  rw [hget]
  match k, hk with
  | 0, _ => exact m0
  | 1, _ => exact m1
  | 2, _ => exact m2
  | 3, _ => exact m3
 have HLV : Hid (∀ k, k < 4 → i64 (lvA x k)) := fun k hk => by
  match k, hk with
  | 0, _ => exact hx.2.1
  | 1, _ => exact hx.2.2.1
  | 2, _ => exact hx.2.2.2.1
  | 3, _ => exact hx.2.2.2.2.1
 have hkk := hx.2.2.2.2.2
 clear hget m5 m4 m0 m1 m2 m3 hno hyes hx
 generalize (⟨(formL x.op).toArray⟩ : ByteArray) = s at *
 have hse : s.toList.isEmpty = false := by
  have hl : s.toList.length = 5 := by rw [ByteArray.toList_eq]; simpa using hs5
  cases hq : s.toList with
  | nil => rw [hq] at hl; cases hl
  | cons _ _ => rfl
 have hse2 : (s.toList == []) = false := by
  cases hq : s.toList with
  | nil => rw [hq] at hse; cases hse
  | cons _ _ => rfl
 go_enter Tryz.func103, Tryz.ntmps103
 go_wp2_with fail
 generalize w.alloc (.cells (inC x) 122) = w1 at *
 refine (HF.out _).mono ?_
 rintro e w2 ⟨rfl, rfl⟩
 have x1 := (HL0.out.cell 1).trans (show _ = some (Value.int .i64 x.a) from rfl)
 have x2 := (HL0.out.cell 2).trans (show _ = some (Value.int .i64 x.b) from rfl)
 have x3 := (HL0.out.cell 3).trans (show _ = some (Value.int .i64 x.c) from rfl)
 have x4 := (HL0.out.cell 4).trans (show _ = some (Value.int .i64 x.d) from rfl)
 have x5 := (HL0.out.cell 5).trans (show _ = some (Value.int .u64 (x.k : Int)) from rfl)
 have hxl := HL0.out.lt
 have h45 : 4 < s.size := by omega
 have hc4 := Lib.hid (HM4.out h45)
 clear HF HM4
 by_cases hk : kB x = false
 ·have HE : Hid (rightB x = false) := by show rightB x = false; rw [HALL.out, hk, Bool.false_and]
  have hk := of_decide_eq_false hk
  have HC : Hid (decide (((mostN (s[4]'h45).toNat : Nat) : Int) < (x.k : Int)) = true) := by show _ = _; rw [hc4.out]; simp; omega
  have hcc : decide (mostN (s[4]'h45).toNat < x.k) = true := by simpa using HC.out
  clear HALL hk hc4 HC
  go_wp2
  go_quiet ((go_at_call 134; exact quiet_same3 ((most_any _ _)) ⟨_, rfl⟩))
  go_wp2
  go_ret
  exact ⟨ret_bool (by rw [HE.out]), below_drewN HB0.out _⟩
 have hkt : kB x = true := by simpa using hk
 rw [hkt, Bool.true_and] at HALL
 have hkl := of_decide_eq_true hkt
 have HC : Hid (decide (((mostN (s[4]'h45).toNat : Nat) : Int) < (x.k : Int)) = false) := by show _ = _; rw [hc4.out]; simp; omega
 have hcc : decide (mostN (s[4]'h45).toNat < x.k) = false := by simpa using HC.out
 clear hk hkt hkl hc4 HC
 go_wp2
 go_quiet ((go_at_call 134; exact quiet_same3 ((most_any _ _)) ⟨_, rfl⟩))
 go_upto_region 5 with (fail)
 have hbq := below_drewN HB0.out nq
 have HB3 := Lib.hid (hbq.alloc hbq.size (.cells #[.int .i64 x.a, .int .i64 x.b, .int .i64 x.c, .int .i64 x.d] 3))
 have HL3 : Hid (Lies ((w1.drewN nq).alloc (.cells #[.int .i64 x.a, .int .i64 x.b, .int .i64 x.c, .int .i64 x.d] 3)) w1.heap.size 3 #[.int .i64 x.a, .int .i64 x.b, .int .i64 x.c, .int .i64 x.d]) := Lies.made (w1.drewN nq) _ _
 clear hbq HB0 HL0 x1 x2 x3 x4 x5 hxl hcc
 generalize (w1.drewN nq).alloc (.cells #[.int .i64 x.a, .int .i64 x.b, .int .i64 x.c, .int .i64 x.d] 3) = w3 at *
 generalize w1.heap.size = n2 at *
 go_wp2_with fail
 go_loopw [5] (fun u wr => ∃ k : Nat, k ≤ 4 ∧ u = .int .i64 k ∧ Hid (∀ j, j < k → wB (lvA x j) (glA x.op j) = true) ∧ Hid (Below w.heap.size w wr) ∧ Hid (Lies wr n2 3 #[.int .i64 x.a, .int .i64 x.b, .int .i64 x.c, .int .i64 x.d])) (fun u _ => 4 - (intOf u).toNat)
 case atStart => exact ⟨0, by omega, rfl, fun j hj => by omega, HB3, HL3⟩
 case round =>
  clear HB3 HL3
  obtain ⟨k, hk, rfl, hq, hbw, hlw⟩ := hrel
  by_cases hlt : k < 4
  ·have hki : (k : Int) < 4 := by omega
   have hks : k < s.size := by omega
   have hidx : ∀ W : World, (Instr.index 9 (.string s) (.int .i64 (k : Int))).run Tryz.prog W = .ok (.int .u8 ((s[k]'hks).toNat : Int)) W := fun W => by
    rw [run_index_string _ _ _ _ _ Tryz.underlying9, dif_pos ⟨by omega, by omega⟩]
    simp only [Int.toNat_natCast]
   have hcell : wr.cell? ⟨n2, k, none⟩ = some (.int .i64 (lvA x k)) := by
    rw [hlw.out.cell]
    match k, hlt with
    | 0, _ => rfl
    | 1, _ => rfl
    | 2, _ => rfl
    | 3, _ => rfl
   obtain ⟨hv1, hv2⟩ := HLV.out k hlt
   have HMC := Lib.hid (HMK.out k hks hlt)
   have hl2 := hlw.out.lt
   obtain ⟨v, hv⟩ : ∃ v, lvA x k = v := ⟨_, rfl⟩
   obtain ⟨g, hg⟩ : ∃ g, glA x.op k = g := ⟨_, rfl⟩
   have HNO := Lib.hid (rightB_not (j := k) HYES.out hlt)
   rw [hg] at HMC
   rw [hv, hg] at HNO
   rw [hv] at hcell hv1 hv2
   have HV := Lib.hid hv
   have HG := Lib.hid hg
   clear hv hg
   by_cases hneg : v < 0
   ·have e1 : decide (v < 0) = true := by simpa using hneg
    have HE : Hid (rightB x = false) := HNO.out (by unfold wB; rw [decide_eq_false (by omega)]; rfl)
    clear hneg HNO
    go_wp2
    go_quiet (fail)
    go_wp2
    go_ret
    exact ⟨ret_bool (by rw [HE.out]), below_drewN hbw.out _⟩
   have e1 : decide (v < 0) = false := by simpa using hneg
   obtain ⟨vn, rfl⟩ : ∃ vn : Nat, v = vn := ⟨v.toNat, by omega⟩
   have e3 : IntKind.u64.wrap (vn : Int) = (vn : Int) := IntWalk.u64_in _ (by omega)
   by_cases hgr : mostN (s[k]'hks).toNat < vn
   ·have e2 : decide (mostN (s[k]'hks).toNat < vn) = true := by simpa using hgr
    have HE : Hid (rightB x = false) := HNO.out (by have := HMC.out; unfold wB; rw [decide_eq_false (p := (vn : Int) ≤ g) (by omega), Bool.and_false])
    clear hgr HNO hneg
    go_wp2
    go_quiet ((go_at_call 134; exact quiet_same3 ((most_any _ _)) ⟨_, rfl⟩))
    go_wp2
    go_ret
    exact ⟨ret_bool (by rw [HE.out]), below_drewN hbw.out _⟩
   have e2 : decide (mostN (s[k]'hks).toNat < vn) = false := by simpa using hgr
   have HQN : Hid (∀ j, j < k + 1 → wB (lvA x j) (glA x.op j) = true) := fun j hj => by
    by_cases e : j = k
    ·subst e
     rw [HV.out, HG.out]
     have := HMC.out
     unfold wB
     rw [decide_eq_true (by omega), decide_eq_true (by omega)]; rfl
    ·exact hq.out j (by omega)
   have HBN := Lib.hid (fun n => below_drewN hbw.out n)
   have HLN := Lib.hid hlw.out
   clear hq hbw hlw hneg hgr HNO
   go_wp2
   go_quiet ((go_at_call 134; exact quiet_same3 ((most_any _ _)) ⟨_, rfl⟩))
   go_wp2
   go_roundw
   case rel => exact ⟨k + 1, by omega, by go_num, HQN, HBN.out _, Lies.drewN HLN.out _⟩
   case measure => simp [intOf]; omega
  ·obtain rfl : k = 4 := by omega
   have HE : Hid (rightB x = true) := by
    show rightB x = true
    rw [HALL.out, List.all_eq_true]
    exact fun j hj => hq.out j (List.mem_range.1 hj)
   go_wp2
   go_ret
   exact ⟨ret_bool (by rw [HE.out]), hbw.out⟩
set_option maxHeartbeats 4000000 in
set_option maxRecDepth 100000 in
theorem r11Ring (x : Ri) (w : World) : Calls Tryz.prog 102 #[.agg (riC x)] w fun e w' => e = .returned (.bool (rgSpB x)) ∧ Below w.heap.size w w' := by
 have hb : Below w.heap.size w (w.alloc (.cells (riC x) 84)) := (Below.refl _ _).alloc (Nat.le_refl _) _
 have hr : rgSpB x = decide (1 ≤ x.c ∧ x.c ≤ 64 ∧ (x.k = 1 ∧ x.r = 1 ∨ x.k = 2 ∧ 1 ≤ x.r ∧ x.r ≤ 8)) := rfl
 have HR := Lib.hid hr
 clear hr
 obtain ⟨a1, h1⟩ : ∃ a, decide ((1 : Int) ≤ x.c) = a := ⟨_, rfl⟩
 obtain ⟨a2, h2⟩ : ∃ a, decide (x.c ≤ 64) = a := ⟨_, rfl⟩
 obtain ⟨a3, h3⟩ : ∃ a, (x.k == 1) = a := ⟨_, rfl⟩
 obtain ⟨a4, h4⟩ : ∃ a, (x.r == 1) = a := ⟨_, rfl⟩
 obtain ⟨a5, h5⟩ : ∃ a, (x.k == 2) = a := ⟨_, rfl⟩
 obtain ⟨a6, h6⟩ : ∃ a, decide ((1 : Int) ≤ x.r) = a := ⟨_, rfl⟩
 obtain ⟨a7, h7⟩ : ∃ a, decide (x.r ≤ 8) = a := ⟨_, rfl⟩
 have HF : Hid (rgSpB x = (a1 && a2 && ((a3 && a4) || (a5 && a6 && a7)))) := by
  show _ = _
  rw [HR.out, ← h1, ← h2, ← h3, ← h4, ← h5, ← h6, ← h7, Bool.eq_iff_iff]
  simp only [decide_eq_true_eq, Bool.and_eq_true, Bool.or_eq_true, beq_iff_eq]
  omega
 clear HR
 cases a1
 case false =>
  go_enter Tryz.func102, Tryz.ntmps102
  go_wp2
  go_ret
  exact ⟨ret_bool (by rw [HF.out]; rfl), hb⟩
 cases a2
 case false =>
  go_enter Tryz.func102, Tryz.ntmps102
  go_wp2
  go_ret
  exact ⟨ret_bool (by rw [HF.out]; rfl), hb⟩
 cases a3
 case true =>
  cases a4
  case true =>
   go_enter Tryz.func102, Tryz.ntmps102
   go_wp2
   go_ret
   exact ⟨ret_bool (by rw [HF.out]; rfl), hb⟩
  cases a5
  case false =>
   go_enter Tryz.func102, Tryz.ntmps102
   go_wp2
   go_ret
   exact ⟨ret_bool (by rw [HF.out]; rfl), hb⟩
  cases a6
  case false =>
   go_enter Tryz.func102, Tryz.ntmps102
   go_wp2
   go_ret
   exact ⟨ret_bool (by rw [HF.out]; rfl), hb⟩
  cases a7
  all_goals
   go_enter Tryz.func102, Tryz.ntmps102
   go_wp2
   go_ret
   exact ⟨ret_bool (by rw [HF.out]; rfl), hb⟩
 cases a5
 case false =>
  go_enter Tryz.func102, Tryz.ntmps102
  go_wp2
  go_ret
  exact ⟨ret_bool (by rw [HF.out]; rfl), hb⟩
 cases a6
 case false =>
  go_enter Tryz.func102, Tryz.ntmps102
  go_wp2
  go_ret
  exact ⟨ret_bool (by rw [HF.out]; rfl), hb⟩
 cases a7
 all_goals
  go_enter Tryz.func102, Tryz.ntmps102
  go_wp2
  go_ret
  exact ⟨ret_bool (by rw [HF.out]; rfl), hb⟩
theorem instrE_jump {rs : List Ri} {n : Nat} {x : In} (h : rightB x = true) (h1 : 15 ≤ x.op) (h2 : x.op ≤ 17) : instrE rs n x = if n < x.k then 5 else 0 := by
 unfold instrE
 have hj : jumpsB x.op = true := by unfold jumpsB; rw [decide_eq_true h1, decide_eq_true h2]; rfl
 have hn : onRingB x.op = false := by
  unfold onRingB
  rw [Bool.or_eq_false_iff, Bool.or_eq_false_iff, beq_eq_false_iff_ne, beq_eq_false_iff_ne, beq_eq_false_iff_ne]; omega
 rw [if_neg (by rw [h]; decide), hj, hn]
 by_cases hk : n < x.k
 ·rw [if_pos ⟨rfl, hk⟩, if_pos hk]
 ·rw [if_neg (fun h => hk h.2), if_pos rfl, if_neg hk]
theorem instrE_other {rs : List Ri} {n : Nat} {x : In} (h : rightB x = true) (h1 : ¬ (15 ≤ x.op ∧ x.op ≤ 20)) : instrE rs n x = 0 := by
 unfold instrE
 have hj : jumpsB x.op = false := by
  unfold jumpsB
  rw [Bool.and_eq_false_iff, decide_eq_false_iff_not, decide_eq_false_iff_not]; omega
 have hn : onRingB x.op = false := by
  unfold onRingB
  rw [Bool.or_eq_false_iff, Bool.or_eq_false_iff, beq_eq_false_iff_ne, beq_eq_false_iff_ne, beq_eq_false_iff_ne]; omega
 rw [if_neg (by rw [h]; decide), hj, hn, if_neg (fun h => by cases h.1), if_pos rfl]
theorem instrE_ring {rs : List Ri} {n : Nat} {x : In} (h : rightB x = true) (h1 : 18 ≤ x.op) (h2 : x.op ≤ 20) : (0 ≤ x.c ∧ x.c ≤ 7) ∧ instrE rs n x = if (rs.length : Int) ≤ x.c then 7 else if x.op = 19 ∧ (rs.getD x.c.toNat default).r ≤ (x.k : Int) then 7 else 0 := by
 have hj : jumpsB x.op = false := by
  unfold jumpsB
  rw [Bool.and_eq_false_iff, decide_eq_false_iff_not, decide_eq_false_iff_not]; omega
 have hn : onRingB x.op = true := by
  unfold onRingB
  rw [Bool.or_eq_true, Bool.or_eq_true, beq_iff_eq, beq_iff_eq, beq_iff_eq]; omega
 refine ⟨right_ring h hn, ?_⟩
 unfold instrE
 rw [if_neg (by rw [h]; decide), hj, hn, if_neg (fun h => by cases h.1), if_neg (by decide)]
set_option maxHeartbeats 8000000 in
set_option maxRecDepth 100000 in
theorem r11Instr (p : Pg) (A : Option Addr) (c : Nat) (B : Option Addr) (d n : Nat) (x : In) (w : World) (h : RisAt w A c p.rs) (hok : ∀ r ∈ p.rs, rgSpB r = true) (hr : rightB x = true) (hn : n ≤ 1000000) (hk : x.k ≤ 18446744073709551615) :
  Calls Tryz.prog 104 #[.agg (pgC A c B d p), .agg (inC x), .int .i64 (n : Int)] w fun e w' => e = .returned (.int .i64 (instrE p.rs n x : Nat)) ∧ Below w.heap.size w w' := by
 obtain ⟨hc1, hc2⟩ := seq_form h
 have hb0 : Below w.heap.size w ((w.alloc (.cells (pgC A c B d p) 25)).alloc (.cells (inC x) 122)) := ((Below.refl _ _).alloc (Nat.le_refl _) _).alloc (by simp) _
 have l0 := (Lies.made w 25 (pgC A c B d p)).alloc (.cells (inC x) 122)
 have l1 := Lies.made (w.alloc (.cells (pgC A c B d p) 25)) 122 (inC x)
 rw [World.size_alloc] at l1
 have HH := Lib.hid h
 have HO := Lib.hid hok
 have HB0 := Lib.hid hb0
 have HL0 := Lib.hid l0
 have HL1 := Lib.hid l1
 clear h hok hb0 l0 l1
 by_cases h1 : x.op < 15
 ·have HE9 := Lib.hid (instrE_other (rs := p.rs) (n := n) hr (by omega))
  have a15 : decide ((15 : Int) ≤ x.op) = false := by simp; omega
  have a18 : decide ((18 : Int) ≤ x.op) = false := by simp; omega
  have a19 : (x.op == 19) = false := by rw [beq_eq_false_iff_ne]; omega
  clear hr
  go_enter Tryz.func104, Tryz.ntmps104
  go_upto_region 3 with (fail)
  generalize (w.alloc (.cells (pgC A c B d p) 25)).alloc (.cells (inC x) 122) = w2 at *
  have x0 := (HL1.out.cell 0).trans (show _ = some (Value.int .i64 x.op) from rfl)
  have x3 := (HL1.out.cell 3).trans (show _ = some (Value.int .i64 x.c) from rfl)
  have x5 := (HL1.out.cell 5).trans (show _ = some (Value.int .u64 (x.k : Int)) from rfl)
  have hx := HL1.out.lt
  have c0 := (HL0.out.cell 0).trans (show _ = some (Value.slice A p.rs.length c) from rfl)
  have hx2 := HL0.out.lt
  go_wp2
  go_quiet (fail)
  go_wp2
  go_ret
  exact ⟨ret_int (by rw [HE9.out]; rfl), below_drewN HB0.out _⟩
 have a15 : decide ((15 : Int) ≤ x.op) = true := by simp; omega
 by_cases h2 : x.op ≤ 17
 ·have HE8 := Lib.hid (instrE_jump (rs := p.rs) (n := n) hr (by omega) h2)
  have a17 : decide (x.op ≤ 17) = true := by simp; omega
  have a18 : decide ((18 : Int) ≤ x.op) = false := by simp; omega
  have a19 : (x.op == 19) = false := by rw [beq_eq_false_iff_ne]; omega
  clear hr
  by_cases h3 : n < x.k
  ·have HE9 := Lib.hid (HE8.out.trans (if_pos h3))
   have ak : decide ((n : Int) < (x.k : Int)) = true := by simp; omega
   have ak2 : decide (n < x.k) = true := by simpa using h3
   clear HE8 h3
   go_enter Tryz.func104, Tryz.ntmps104
   go_wp2
   go_ret
   exact ⟨ret_int (by rw [HE9.out]; rfl), HB0.out⟩
  ·have HE9 := Lib.hid (HE8.out.trans (if_neg h3))
   have ak : decide ((n : Int) < (x.k : Int)) = false := by simp; omega
   have ak2 : decide (n < x.k) = false := by simpa using h3
   clear HE8 h3
   go_enter Tryz.func104, Tryz.ntmps104
   go_upto_region 3 with (fail)
   generalize (w.alloc (.cells (pgC A c B d p) 25)).alloc (.cells (inC x) 122) = w2 at *
   have x0 := (HL1.out.cell 0).trans (show _ = some (Value.int .i64 x.op) from rfl)
   have x3 := (HL1.out.cell 3).trans (show _ = some (Value.int .i64 x.c) from rfl)
   have x5 := (HL1.out.cell 5).trans (show _ = some (Value.int .u64 (x.k : Int)) from rfl)
   have hx := HL1.out.lt
   have c0 := (HL0.out.cell 0).trans (show _ = some (Value.slice A p.rs.length c) from rfl)
   have hx2 := HL0.out.lt
   go_wp2
   go_quiet (fail)
   go_wp2
   go_ret
   exact ⟨ret_int (by rw [HE9.out]; rfl), below_drewN HB0.out _⟩
 have a17 : decide (x.op ≤ 17) = false := by simp; omega
 have a18 : decide ((18 : Int) ≤ x.op) = true := by simp; omega
 by_cases h3 : 20 < x.op
 ·have HE9 := Lib.hid (instrE_other (rs := p.rs) (n := n) hr (by omega))
  have a20 : decide (x.op ≤ 20) = false := by simp; omega
  have a19 : (x.op == 19) = false := by rw [beq_eq_false_iff_ne]; omega
  clear hr
  go_enter Tryz.func104, Tryz.ntmps104
  go_upto_region 3 with (fail)
  generalize (w.alloc (.cells (pgC A c B d p) 25)).alloc (.cells (inC x) 122) = w2 at *
  have x0 := (HL1.out.cell 0).trans (show _ = some (Value.int .i64 x.op) from rfl)
  have x3 := (HL1.out.cell 3).trans (show _ = some (Value.int .i64 x.c) from rfl)
  have x5 := (HL1.out.cell 5).trans (show _ = some (Value.int .u64 (x.k : Int)) from rfl)
  have hx := HL1.out.lt
  have c0 := (HL0.out.cell 0).trans (show _ = some (Value.slice A p.rs.length c) from rfl)
  have hx2 := HL0.out.lt
  go_wp2
  go_quiet (fail)
  go_wp2
  go_ret
  exact ⟨ret_int (by rw [HE9.out]; rfl), below_drewN HB0.out _⟩
 have a20 : decide (x.op ≤ 20) = true := by simp; omega
 obtain ⟨⟨hc0, hc7⟩, hE⟩ := instrE_ring (rs := p.rs) (n := n) hr (by omega) (by omega)
 have HE8 := Lib.hid hE
 clear hr hE
 by_cases h4 : (p.rs.length : Int) ≤ x.c
 ·have HE9 := Lib.hid (HE8.out.trans (if_pos h4))
  have ac : decide ((p.rs.length : Int) ≤ x.c) = true := by simpa using h4
  clear HE8
  go_enter Tryz.func104, Tryz.ntmps104
  go_upto_region 3 with (fail)
  generalize (w.alloc (.cells (pgC A c B d p) 25)).alloc (.cells (inC x) 122) = w2 at *
  have x0 := (HL1.out.cell 0).trans (show _ = some (Value.int .i64 x.op) from rfl)
  have x3 := (HL1.out.cell 3).trans (show _ = some (Value.int .i64 x.c) from rfl)
  have x5 := (HL1.out.cell 5).trans (show _ = some (Value.int .u64 (x.k : Int)) from rfl)
  have hx := HL1.out.lt
  have c0 := (HL0.out.cell 0).trans (show _ = some (Value.slice A p.rs.length c) from rfl)
  have hx2 := HL0.out.lt
  go_wp2
  go_quiet (fail)
  go_wp2
  go_ret
  exact ⟨ret_int (by rw [HE9.out]; rfl), below_drewN HB0.out _⟩
 have HE7 := Lib.hid (HE8.out.trans (if_neg h4))
 have ac : decide ((p.rs.length : Int) ≤ x.c) = false := by simpa using h4
 clear HE8
 by_cases h5 : x.op = 19
 ·have a19 : (x.op == 19) = true := by simpa using h5
  obtain ⟨r, hr⟩ : ∃ r, p.rs[x.c.toNat]? = some r := ⟨_, List.getElem?_eq_getElem (by omega)⟩
  have hgd : p.rs.getD x.c.toNat default = r := by rw [List.getD_eq_getElem?_getD, hr]; rfl
  have hro := of_decide_eq_true (HO.out r (List.mem_of_getElem? hr))
  obtain ⟨b, off, rfl, hbl, hg⟩ := RisAt.at_ (HH.out.later HB0.out) hr
  have g2 := hg 2 _ (by decide) rfl
  have hr1 : 1 ≤ r.r := by omega
  have hr8 : r.r ≤ 8 := by omega
  have hcl2 : x.c < (p.rs.length : Int) := by omega
  have e6 : IntKind.u64.wrap r.r = r.r := IntWalk.u64_in _ (by omega)
  rw [hgd] at HE7
  clear hg hro hgd hr hbl
  by_cases hrk : r.r ≤ (x.k : Int)
  ·have HE9 := Lib.hid (HE7.out.trans (if_pos ⟨h5, hrk⟩))
   have e5 : decide (r.r ≤ (x.k : Int)) = true := by simpa using hrk
   clear h5 HE7
   go_enter Tryz.func104, Tryz.ntmps104
   go_upto_region 3 with (fail)
   generalize (w.alloc (.cells (pgC (some ⟨b, off, none⟩) c B d p) 25)).alloc (.cells (inC x) 122) = w2 at *
   have x0 := (HL1.out.cell 0).trans (show _ = some (Value.int .i64 x.op) from rfl)
   have x3 := (HL1.out.cell 3).trans (show _ = some (Value.int .i64 x.c) from rfl)
   have x5 := (HL1.out.cell 5).trans (show _ = some (Value.int .u64 (x.k : Int)) from rfl)
   have hx := HL1.out.lt
   have c0 := (HL0.out.cell 0).trans (show _ = some (Value.slice (some ⟨b, off, none⟩) p.rs.length c) from rfl)
   have hx2 := HL0.out.lt
   go_wp2
   go_quiet (fail)
   go_wp2
   go_ret
   exact ⟨ret_int (by rw [HE9.out]; rfl), below_drewN HB0.out _⟩
  ·have HE9 := Lib.hid (HE7.out.trans (if_neg (fun h => hrk h.2)))
   have e5 : decide (r.r ≤ (x.k : Int)) = false := by simpa using hrk
   clear h5 HE7
   go_enter Tryz.func104, Tryz.ntmps104
   go_upto_region 3 with (fail)
   generalize (w.alloc (.cells (pgC (some ⟨b, off, none⟩) c B d p) 25)).alloc (.cells (inC x) 122) = w2 at *
   have x0 := (HL1.out.cell 0).trans (show _ = some (Value.int .i64 x.op) from rfl)
   have x3 := (HL1.out.cell 3).trans (show _ = some (Value.int .i64 x.c) from rfl)
   have x5 := (HL1.out.cell 5).trans (show _ = some (Value.int .u64 (x.k : Int)) from rfl)
   have hx := HL1.out.lt
   have c0 := (HL0.out.cell 0).trans (show _ = some (Value.slice (some ⟨b, off, none⟩) p.rs.length c) from rfl)
   have hx2 := HL0.out.lt
   go_wp2
   go_quiet (fail)
   go_wp2
   go_ret
   exact ⟨ret_int (by rw [HE9.out]; rfl), below_drewN HB0.out _⟩
 ·have HE9 := Lib.hid (HE7.out.trans (if_neg (fun h => h5 h.1)))
  have a19 : (x.op == 19) = false := by simpa using h5
  clear h5 HE7
  go_enter Tryz.func104, Tryz.ntmps104
  go_upto_region 3 with (fail)
  generalize (w.alloc (.cells (pgC A c B d p) 25)).alloc (.cells (inC x) 122) = w2 at *
  have x0 := (HL1.out.cell 0).trans (show _ = some (Value.int .i64 x.op) from rfl)
  have x3 := (HL1.out.cell 3).trans (show _ = some (Value.int .i64 x.c) from rfl)
  have x5 := (HL1.out.cell 5).trans (show _ = some (Value.int .u64 (x.k : Int)) from rfl)
  have hx := HL1.out.lt
  have c0 := (HL0.out.cell 0).trans (show _ = some (Value.slice A p.rs.length c) from rfl)
  have hx2 := HL0.out.lt
  go_wp2
  go_quiet (fail)
  go_wp2
  go_ret
  exact ⟨ret_int (by rw [HE9.out]; rfl), below_drewN HB0.out _⟩
def ckV (vp : Value) (b o n : Nat) (l : Value) (k len : Nat) (x : In) (E : Nat) : Nat → Value → World → Prop
 | 0, v, _ => v = vp
 | 1, v, _ => v = l
 | 2, v, _ => v = .int .i64 (k : Int)
 | 3, v, _ => v = .pointer (some ⟨b, o + k * 6, none⟩)
 | 4, v, _ => v = .agg (inC x)
 | 5, v, _ => v = l
 | 6, v, _ => v = .int .i64 (len : Int)
 | 7, v, _ => v = .int .i64 (E : Int)
 | 8, v, _ => v = .int .i64 (E : Int)
 | _, _, _ => True
theorem ckV_all {vp l : Value} {b o n k len E : Nat} {x : In} {w w' : World} {j : Nat} {u : Value} (h : ckV vp b o n l k len x E j u w) : ckV vp b o n l k len x E j u w' := by
 match j with
 | 0 => exact h
 | 1 => exact h
 | 2 => exact h
 | 3 => exact h
 | 4 => exact h
 | 5 => exact h
 | 6 => exact h
 | 7 => exact h
 | 8 => exact h
 | _ + 9 => trivial
set_option maxHeartbeats 8000000 in
set_option maxRecDepth 100000 in
theorem r11Check (p : Pg) (A : Option Addr) (c : Nat) (B : Option Addr) (d : Nat) (w : World) (h : PgAt w A c B d p) (hok : pgOk p) :
  Calls Tryz.prog 67 #[.agg (pgC A c B d p)] w fun e w' => e = .returned (.tuple #[.int .i64 (checkR p).1, .int .i64 (checkR p).2.1, .int .i64 ((checkR p).2.2 : Nat)]) ∧ Below w.heap.size w w' := by
 obtain ⟨hc1, hc2⟩ := seq_form h.1
 obtain ⟨hd1, hd2⟩ := h.2.form
 have hb0 : Below w.heap.size w (w.alloc (.cells (pgC A c B d p) 25)) := (Below.refl _ _).alloc (Nat.le_refl _) _
 have l0 := Lies.made w 25 (pgC A c B d p)
 have HH := Lib.hid h
 have HO := Lib.hid hok
 have HB0 := Lib.hid hb0
 have HL0 := Lib.hid l0
 have HE : Hid (checkR p = _) := show checkR p = _ by unfold checkR; rfl
 clear h hok hb0 l0
 by_cases h0 : p.ts.length = 0 ∨ 8 < p.ts.length ∨ 8 < p.rs.length
 ·have HE0 : Hid (checkR p = (0, 0, 1)) := HE.out.trans (if_pos h0)
  clear HE
  obtain ⟨a1, ha1⟩ : ∃ a, ((p.ts.length : Int) == 0) = a := ⟨_, rfl⟩
  obtain ⟨a2, ha2⟩ : ∃ a, decide ((8 : Int) < (p.ts.length : Int)) = a := ⟨_, rfl⟩
  obtain ⟨a3, ha3⟩ : ∃ a, decide ((8 : Int) < (p.rs.length : Int)) = a := ⟨_, rfl⟩
  have hsome : a1 = true ∨ a1 = false ∧ a2 = true ∨ a1 = false ∧ a2 = false ∧ a3 = true := by
   rw [← ha1, ← ha2, ← ha3]
   simp only [beq_iff_eq, beq_eq_false_iff_ne, decide_eq_true_eq, decide_eq_false_iff_not]
   omega
  have HA1 := Lib.hid ha1
  have HA2 := Lib.hid ha2
  have HA3 := Lib.hid ha3
  clear ha1 ha2 ha3 h0
  rcases hsome with rfl | ⟨rfl, rfl⟩ | ⟨rfl, rfl, rfl⟩
  all_goals
   have ha1 := HA1.out
   have ha2 := HA2.out
   have ha3 := HA3.out
   go_enter Tryz.func67, Tryz.ntmps67
   go_wp2
   go_ret3
   exact ⟨ret_3 (by rw [HE0.out]) (by rw [HE0.out]) (by rw [HE0.out]; rfl), HB0.out⟩
 have HE1 := Lib.hid (HE.out.trans (if_neg h0))
 have ha1 : ((p.ts.length : Int) == 0) = false := by rw [beq_eq_false_iff_ne]; omega
 have ha2 : decide ((8 : Int) < (p.ts.length : Int)) = false := by simp; omega
 have ha3 : decide ((8 : Int) < (p.rs.length : Int)) = false := by simp; omega
 clear HE
 go_enter Tryz.func67, Tryz.ntmps67
 go_wp2_with fail
 generalize w.alloc (.cells (pgC A c B d p) 25) = w1 at *
 go_loopw [5] (fun u wr => ∃ i : Nat, i ≤ p.rs.length ∧ u = .int .i64 i ∧ Hid (riBad p.rs 0 = riBad (p.rs.drop i) i) ∧ Hid (Below w.heap.size w wr) ∧ Hid (Lies wr w.heap.size 25 (pgC A c B d p))) (fun u _ => p.rs.length - (intOf u).toNat)
 case atStart => exact ⟨0, by omega, rfl, rfl, HB0, HL0⟩
 case round =>
  clear HB0 HL0
  obtain ⟨i, hi, rfl, hq, hbw, hlw⟩ := hrel
  have c0 := (hlw.out.cell 0).trans (show _ = some (Value.slice A p.rs.length c) from rfl)
  have hlw1 := hlw.out.lt
  by_cases hlt : i < p.rs.length
  ·have hii : (i : Int) < (p.rs.length : Int) := by omega
   obtain ⟨r, hr⟩ : ∃ r, p.rs[i]? = some r := ⟨_, List.getElem?_eq_getElem hlt⟩
   obtain ⟨b, off, rfl, hbl, hg⟩ := RisAt.at_ (HH.out.1.later hbw.out) hr
   have g0 := hg 0 _ (by decide) rfl
   have g1 := hg 1 _ (by decide) rfl
   have g2 := hg 2 _ (by decide) rfl
   rw [Nat.add_zero] at g0
   have HN := Lib.hid (hq.out.trans (riBad_next hr))
   clear hg hq hr
   go_wp2_with fail
   refine (r11Ring r _).mono ?_
   rintro e w4 ⟨rfl, hb4⟩
   have HB4 := Lib.hid (hbw.out.trans (hb4.mono hbw.out.size))
   have HL4 := Lib.hid (hlw.out.below hb4 hlw.out.lt)
   clear hb4 g0 g1 g2 c0 hlw1 hbw hlw
   by_cases hrb : rgSpB r = true
   ·have HN2 := Lib.hid (HN.out.trans (if_pos hrb))
    rw [hrb]
    clear HN hrb
    go_wp2_with fail
    go_roundw
    case rel => exact ⟨i + 1, by omega, by go_num, HN2, HB4, HL4⟩
    case measure => simp [intOf]; omega
   ·have HN2 := Lib.hid (HN.out.trans (if_neg hrb))
    have HE2 : Hid (checkR p = (-1, (i : Int), 7)) := HE1.out.trans (by rw [HN2.out])
    have hrb : rgSpB r = false := by simpa using hrb
    rw [hrb]
    clear HN HN2 hrb HE1
    go_wp2
    go_ret3
    exact ⟨ret_3 (by rw [HE2.out]) (by rw [HE2.out]) (by rw [HE2.out]; rfl), HB4.out⟩
  ·obtain rfl : i = p.rs.length := by omega
   have hnone : riBad p.rs 0 = none := by rw [hq.out, List.drop_length]; rfl
   have HR := Lib.hid (riBad_none _ _ hnone)
   have HE2 := Lib.hid (HE1.out.trans (by rw [hnone]))
   clear hq hnone HE1 hlt hi
   go_wp2_with fail
   clear c0 hlw1
   go_loopw [6] (fun u wq => ∃ t : Nat, t ≤ p.ts.length ∧ u = .int .i64 t ∧ Hid (thBad p.rs p.ts 0 = thBad p.rs (p.ts.drop t) t) ∧ Hid (Below w.heap.size w wq) ∧ Hid (Lies wq w.heap.size 25 (pgC A c B d p))) (fun u _ => p.ts.length - (intOf u).toNat)
   case atStart => exact ⟨0, by omega, rfl, rfl, hbw, hlw⟩
   case round =>
    clear hbw hlw
    obtain ⟨t, ht, rfl, hq, hbw, hlw⟩ := hrel
    have c1 := (hlw.out.cell 1).trans (show _ = some (Value.slice B p.ts.length d) from rfl)
    have hlw1 := hlw.out.lt
    by_cases hlt : t < p.ts.length
    ·have hii : (t : Int) < (p.ts.length : Int) := by omega
     obtain ⟨l, hl⟩ : ∃ l, p.ts[t]? = some l := ⟨_, List.getElem?_eq_getElem hlt⟩
     obtain ⟨b, off, B2, d2, rfl, g0, hil⟩ := (HH.out.2.later hbw.out).at_ hl
     obtain ⟨hc3, hc4⟩ := seq_form hil
     have HN := Lib.hid (hq.out.trans (thBad_next hl))
     have HIL := Lib.hid hil
     have HLO := Lib.hid (HO.out.2 l (List.mem_of_getElem? hl))
     clear hq hil hl
     by_cases h256 : 256 < l.length
     ·have HN2 := Lib.hid (HN.out.trans (if_pos h256))
      have HE3 : Hid (checkR p = ((t : Int), 256, 4)) := HE2.out.trans (by rw [HN2.out]; rfl)
      have e1 : decide ((256 : Int) < (l.length : Int)) = true := by simp; omega
      clear HN HN2 HE2 h256
      go_wp2
      go_ret3
      exact ⟨ret_3 (by rw [HE3.out]) (by rw [HE3.out]) (by rw [HE3.out]; rfl), hbw.out⟩
     have HN2 := Lib.hid (HN.out.trans (if_neg h256))
     have e1 : decide ((256 : Int) < (l.length : Int)) = false := by simp; omega
     clear HN
     go_wp2_with fail
     clear c1 hlw1
     obtain ⟨wo, rfl⟩ : ∃ wo : World, wo = wr := ⟨_, rfl⟩
     go_loopw [8] (fun u wk => ∃ k : Nat, k ≤ l.length ∧ u = .int .i64 k ∧ Hid (inBad p.rs l.length l 0 = inBad p.rs l.length (l.drop k) k) ∧ Hid (Below wo.heap.size wo wk)) (fun u _ => l.length - (intOf u).toNat)
     case atStart => exact ⟨0, by omega, rfl, rfl, Below.refl _ _⟩
     case round =>
      obtain ⟨k, hk, rfl, hq, hbk⟩ := hrel
      have hbwk := Lib.hid (hbw.out.trans (hbk.out.mono hbw.out.size))
      have hlwk := Lib.hid (hlw.out.below hbk.out hlw.out.lt)
      by_cases hkl : k < l.length
      ·have hkk : (k : Int) < (l.length : Int) := by omega
       obtain ⟨x, hx⟩ : ∃ x, l[k]? = some x := ⟨_, List.getElem?_eq_getElem hkl⟩
       obtain ⟨b3, off3, rfl, _, hg⟩ := InsAt.at_ (HIL.out.later hbk.out) hx
       have y0 := hg 0 _ (by decide) rfl
       have y1 := hg 1 _ (by decide) rfl
       have y2 := hg 2 _ (by decide) rfl
       have y3 := hg 3 _ (by decide) rfl
       have y4 := hg 4 _ (by decide) rfl
       have y5 := hg 5 _ (by decide) rfl
       rw [Nat.add_zero] at y0
       have HNX := Lib.hid (hq.out.trans (inBad_next hx))
       have HXO := Lib.hid (HLO.out x (List.mem_of_getElem? hx))
       have HX := Lib.hid hx
       clear hg hq hx
       go_wp2_with fail
       refine (rfRight x _ HXO.out).mono ?_
       rintro e w4 ⟨rfl, hb4⟩
       have HB4 := Lib.hid (hbk.out.trans (hb4.mono hbk.out.size))
       clear y0 y1 y2 y3 y4 y5 hb4 hbwk hlwk hbk
       by_cases hxr : rightB x = true
       ·have HXR := Lib.hid hxr
        rw [hxr]
        clear hxr
        have HCB := Lib.hid (fun q (hq : Below wo.heap.size wo q) => (hlw.out.below hq hlw.out.lt))
        have HIN := Lib.hid (fun q (hq : Below wo.heap.size wo q) => InsAt.at_ (HIL.out.later hq) HX.out)
        go_wp2_with fail
        refine wp_region_rely (fun q => Below wo.heap.size wo q) (ckV (.agg (pgC A c (some ⟨b, off, none⟩) d p)) b3 off3 0 (.slice (some ⟨b3, off3, none⟩) l.length d2) k l.length x (instrE p.rs l.length x)) [some 68, some 69, some 70, some 71, some 72, some 73, some 74, some 75, some 9] [[], [], [], [1, 2], [3], [], [5], [0, 4, 6], [7]] [[], [], [], [1, 2], [1, 2, 3], [], [5], [0, 3, 4, 5, 6], [0, 1, 2, 3, 4, 5, 6, 7]] [[1, 2, 3, 4, 5, 6], [0, 2, 4, 5, 6, 7], [0, 1, 4, 5, 6, 7], [0, 5, 6, 7], [0, 5, 6], [0, 1, 2, 3, 4, 7], [0, 1, 2, 3, 4], [], []] [0, 1, 2, 3, 4, 5, 6, 7, 8] 9 (by kernel_rfl) (by kernel_rfl) (by kernel_rfl) (by kernel_rfl) ?rS (fun j h1 h2 => absurd (Nat.lt_of_lt_of_le h1 (Nat.le_trans (by decide) h2)) (Nat.lt_irrefl _)) ?rT ?rE
        case rS => exact below_drewN HB4.out 1
        case rT =>
         refine RelySteps.cons (RelyStep.mk [] [1, 2, 3, 4, 5, 6] rfl rfl rfl (fun xv wS hS hV bq hb K hK => ?_)) ?_
         ·clear hV
          simp only [putsOf, List.foldl_cons, List.foldl_nil, List.getD_cons_zero, List.getD_cons_succ, List.getD_nil, cond_true, cond_false, Act.put, List.setIfInBounds_toArray, List.set_cons_zero, List.set_cons_succ] at hb
          subst hb
          rw [if_pos (by rfl)]
          (have q1 := HCB.out _ hS; have c0 := (q1.cell 0).trans (show _ = some (Value.slice A p.rs.length c) from rfl); have c1 := (q1.cell 1).trans (show _ = some (Value.slice (some ⟨b, off, none⟩) p.ts.length d) from rfl); have c2 := q1.lt; clear q1)
          go_wp2_with fail
          exact hK.out _ _ ⟨_, rfl, hS, rfl, AllP.same _⟩
         refine RelySteps.cons (RelyStep.mk [] [0, 2, 4, 5, 6, 7] rfl rfl rfl (fun xv wS hS hV bq hb K hK => ?_)) ?_
         ·clear hV
          simp only [putsOf, List.foldl_cons, List.foldl_nil, List.getD_cons_zero, List.getD_cons_succ, List.getD_nil, cond_true, cond_false, Act.put, List.setIfInBounds_toArray, List.set_cons_zero, List.set_cons_succ] at hb
          subst hb
          rw [if_pos (by rfl)]
          go_wp2_with fail
          exact hK.out _ _ ⟨_, rfl, hS, rfl, AllP.same _⟩
         refine RelySteps.cons (RelyStep.mk [] [0, 1, 4, 5, 6, 7] rfl rfl rfl (fun xv wS hS hV bq hb K hK => ?_)) ?_
         ·clear hV
          simp only [putsOf, List.foldl_cons, List.foldl_nil, List.getD_cons_zero, List.getD_cons_succ, List.getD_nil, cond_true, cond_false, Act.put, List.setIfInBounds_toArray, List.set_cons_zero, List.set_cons_succ] at hb
          subst hb
          rw [if_pos (by rfl)]
          go_wp2_with fail
          exact hK.out _ _ ⟨_, rfl, hS, rfl, AllP.same _⟩
         refine RelySteps.cons (RelyStep.mk [1, 2] [0, 5, 6, 7] rfl rfl rfl (fun xv wS hS hV bq hb K hK => ?_)) ?_
         ·obtain ⟨h1, h2, _⟩ := hV
          have h1 : xv 1 = _ := h1
          have h2 : xv 2 = _ := h2
          simp only [putsOf, List.foldl_cons, List.foldl_nil, List.getD_cons_zero, List.getD_cons_succ, List.getD_nil, cond_true, cond_false, Act.put, List.setIfInBounds_toArray, List.set_cons_zero, List.set_cons_succ, h1, h2] at hb
          clear h1
          clear h2
          subst hb
          rw [if_pos (by rfl)]
          go_wp2_with fail
          exact hK.out _ _ ⟨_, rfl, hS, rfl, AllP.same _⟩
         refine RelySteps.cons (RelyStep.mk [3] [0, 5, 6] rfl rfl rfl (fun xv wS hS hV bq hb K hK => ?_)) ?_
         ·obtain ⟨h3, _⟩ := hV
          have h3 : xv 3 = _ := h3
          simp only [putsOf, List.foldl_cons, List.foldl_nil, List.getD_cons_zero, List.getD_cons_succ, List.getD_nil, cond_true, cond_false, Act.put, List.setIfInBounds_toArray, List.set_cons_zero, List.set_cons_succ, h3] at hb
          clear h3
          subst hb
          rw [if_pos (by rfl)]
          (obtain ⟨b4, off4, e4, _, hg⟩ := HIN.out _ hS; simp only [Option.some.injEq, Addr.mk.injEq, and_true] at e4; obtain ⟨rfl, rfl⟩ := e4; have y0 := hg 0 _ (by decide) rfl; have y1 := hg 1 _ (by decide) rfl; have y2 := hg 2 _ (by decide) rfl; have y3 := hg 3 _ (by decide) rfl; have y4 := hg 4 _ (by decide) rfl; have y5 := hg 5 _ (by decide) rfl; rw [Nat.add_zero] at y0; clear hg)
          go_wp2_with fail
          exact hK.out _ _ ⟨_, rfl, hS, rfl, AllP.same _⟩
         refine RelySteps.cons (RelyStep.mk [] [0, 1, 2, 3, 4, 7] rfl rfl rfl (fun xv wS hS hV bq hb K hK => ?_)) ?_
         ·clear hV
          simp only [putsOf, List.foldl_cons, List.foldl_nil, List.getD_cons_zero, List.getD_cons_succ, List.getD_nil, cond_true, cond_false, Act.put, List.setIfInBounds_toArray, List.set_cons_zero, List.set_cons_succ] at hb
          subst hb
          rw [if_pos (by rfl)]
          go_wp2_with fail
          exact hK.out _ _ ⟨_, rfl, hS, rfl, AllP.same _⟩
         refine RelySteps.cons (RelyStep.mk [5] [0, 1, 2, 3, 4] rfl rfl rfl (fun xv wS hS hV bq hb K hK => ?_)) ?_
         ·obtain ⟨h5, _⟩ := hV
          have h5 : xv 5 = _ := h5
          simp only [putsOf, List.foldl_cons, List.foldl_nil, List.getD_cons_zero, List.getD_cons_succ, List.getD_nil, cond_true, cond_false, Act.put, List.setIfInBounds_toArray, List.set_cons_zero, List.set_cons_succ, h5] at hb
          clear h5
          subst hb
          rw [if_pos (by rfl)]
          go_wp2_with fail
          exact hK.out _ _ ⟨_, rfl, hS, rfl, AllP.same _⟩
         refine RelySteps.cons (RelyStep.mk [0, 4, 6] [] rfl rfl rfl (fun xv wS hS hV bq hb K hK => ?_)) ?_
         ·obtain ⟨h0, h4, h6, _⟩ := hV
          have h0 : xv 0 = _ := h0
          have h4 : xv 4 = _ := h4
          have h6 : xv 6 = _ := h6
          simp only [putsOf, List.foldl_cons, List.foldl_nil, List.getD_cons_zero, List.getD_cons_succ, List.getD_nil, cond_true, cond_false, Act.put, List.setIfInBounds_toArray, List.set_cons_zero, List.set_cons_succ, h0, h4, h6] at hb
          clear h0
          clear h4
          clear h6
          subst hb
          have HCALL := Lib.hid (r11Instr p A c (some ⟨b, off, none⟩) d l.length x wS (HH.out.1.later (hbw.out.trans (hS.mono hbw.out.size))) HR.out HXR.out (by omega) HXO.out.2.2.2.2.2)
          have HSS := Lib.hid hS
          clear hS
          rw [if_pos (by rfl)]
          go_wp2_with fail
          refine HCALL.out.mono ?_
          rintro e w5 ⟨rfl, hb5⟩
          exact hK.out _ _ ⟨_, rfl, HSS.out.trans (hb5.mono HSS.out.size), rfl, AllP.of _ (fun j _ u h => ckV_all h)⟩
         refine RelySteps.cons (RelyStep.mk [7] [] rfl rfl rfl (fun xv wS hS hV bq hb K hK => ?_)) ?_
         ·obtain ⟨h7, _⟩ := hV
          have h7 : xv 7 = _ := h7
          simp only [putsOf, List.foldl_cons, List.foldl_nil, List.getD_cons_zero, List.getD_cons_succ, List.getD_nil, cond_true, cond_false, Act.put, List.setIfInBounds_toArray, List.set_cons_zero, List.set_cons_succ, h7] at hb
          clear h7
          subst hb
          rw [if_pos (by rfl)]
          go_wp2_with fail
          exact hK.out _ _ ⟨_, rfl, hS, rfl, AllP.same _⟩
         exact RelySteps.nil
        case rE =>
         intro xv wE hS hV
         have h8 := hV 8 (by decide) (by decide)
         clear hV
         simp only [putsOf, List.foldl_cons, List.foldl_nil, List.getD_cons_zero, List.getD_cons_succ, List.getD_nil, cond_true, cond_false, Act.put, List.setIfInBounds_toArray, List.set_cons_zero, List.set_cons_succ]
         have h8 : xv 8 = _ := h8
         rw [h8]; clear h8
         generalize xv 0 = y0 at *
         generalize xv 1 = y1 at *
         generalize xv 2 = y2 at *
         generalize xv 3 = y3 at *
         generalize xv 4 = y4 at *
         generalize xv 5 = y5 at *
         generalize xv 6 = y6 at *
         generalize xv 7 = y7 at *
         have hSS := Lib.hid hS
         clear HCB HIN hS HB4
         by_cases he : instrE p.rs l.length x = 0
         ·have HNY := Lib.hid (HNX.out.trans (if_pos he))
          have HB5 := Lib.hid (hbw.out.trans (hSS.out.mono hbw.out.size))
          rw [he]
          clear HNX he
          go_wp2
          go_roundw
          case rel => exact ⟨k + 1, by omega, by go_num, HNY, hSS⟩
          case measure => simp [intOf]; omega
         ·have HNY := Lib.hid (HNX.out.trans (if_neg he))
          have HE3 : Hid (checkR p = ((t : Int), (k : Int), instrE p.rs l.length x)) := HE2.out.trans (by rw [HN2.out, HNY.out])
          have hbx := Lib.hid (hbw.out.trans (hSS.out.mono hbw.out.size))
          have e5 : (((instrE p.rs l.length x : Nat) : Int) != 0) = true := by rw [bne_iff_ne]; omega
          clear HNX HNY HN2 HE2 he
          generalize instrE p.rs l.length x = ee at *
          go_wp2
          go_ret3
          exact ⟨ret_3 (by rw [HE3.out]) (by rw [HE3.out]) (by rw [HE3.out]), hbx.out⟩
       ·have hxr : rightB x = false := by simpa using hxr
        have he : instrE p.rs l.length x = 6 := by unfold instrE; rw [if_pos hxr]
        have HNY := Lib.hid (HNX.out.trans (if_neg (by omega)))
        have HE3 : Hid (checkR p = ((t : Int), (k : Int), 6)) := HE2.out.trans (by rw [HN2.out, HNY.out, he])
        have hbx := Lib.hid (hbw.out.trans (HB4.out.mono hbw.out.size))
        rw [hxr]
        clear HNX HNY HN2 HE2 he hxr
        go_wp2
        go_ret3
        exact ⟨ret_3 (by rw [HE3.out]) (by rw [HE3.out]) (by rw [HE3.out]; rfl), hbx.out⟩
      ·obtain rfl : k = l.length := by omega
       have hnone : inBad p.rs l.length l 0 = none := by rw [hq.out, List.drop_length]; rfl
       have HN3 := Lib.hid (HN2.out.trans (by rw [hnone]))
       clear hq hnone HN2
       go_wp2
       go_roundw
       case rel => exact ⟨t + 1, by omega, by go_num, HN3, hbwk, hlwk⟩
       case measure => simp [intOf]; omega
    ·obtain rfl : t = p.ts.length := by omega
     have hnone : thBad p.rs p.ts 0 = none := by rw [hq.out, List.drop_length]; rfl
     have HE3 : Hid (checkR p = (0, 0, 0)) := HE2.out.trans (by rw [hnone])
     clear hq hnone HE2
     go_wp2
     go_ret3
     exact ⟨ret_3 (by rw [HE3.out]) (by rw [HE3.out]) (by rw [HE3.out]; rfl), hbw.out⟩
theorem r11Right (p : Pg) (A : Option Addr) (c : Nat) (B : Option Addr) (d : Nat) (w : World) (h : PgAt w A c B d p) (hok : pgOk p) : Calls Tryz.prog 39 #[.agg (pgC A c B d p)] w fun e w' => e = .returned (.bool (rightP p)) ∧ Below w.heap.size w w' := by
 have hb0 : Below w.heap.size w (w.alloc (.cells (pgC A c B d p) 25)) := (Below.refl _ _).alloc (Nat.le_refl _) _
 have HC := Lib.hid (r11Check p A c B d _ (h.later hb0) hok)
 have HB0 := Lib.hid hb0
 have HE : Hid (rightP p = ((checkR p).2.2 == 0)) := rfl
 clear h hok hb0
 go_enter Tryz.func39, Tryz.ntmps39
 go_wp2_with fail
 generalize w.alloc (.cells (pgC A c B d p) 25) = w1 at *
 refine HC.out.mono ?_
 rintro e w2 ⟨rfl, hb2⟩
 have hb2 := HB0.out.trans (hb2.mono HB0.out.size)
 generalize (checkR p).1 = r1 at *
 generalize (checkR p).2.1 = r2 at *
 generalize (checkR p).2.2 = r3 at *
 clear HC
 go_wp2
 go_ret
 exact ⟨ret_bool (by rw [HE.out, Bool.eq_iff_iff, beq_iff_eq, beq_iff_eq]; omega), hb2⟩
def smL : List In := [⟨1, 1, 0, 0, 0, 5⟩, ⟨18, 1, 2, 0, 0, 0⟩, ⟨15, 0, 0, 0, 0, 1⟩]
def smP : Pg := ⟨[⟨1, 1, 1⟩], [smL]⟩
theorem smP_ok : pgOk smP := by
 refine ⟨fun r hr => ?_, fun l hl i hi => ?_⟩
 ·simp only [smP, List.mem_singleton] at hr; subst hr; unfold riOk i64; dsimp only; omega
 ·simp only [smP, List.mem_singleton] at hl; subst hl
  simp only [smL, List.mem_cons, List.not_mem_nil, or_false] at hi
  rcases hi with rfl | rfl | rfl <;> (unfold inOk i64; dsimp only; omega)
theorem smP_right : rightP smP = true := by decide +kernel
theorem seq_lit {w : World} {g sz n : Nat} {T : TypeId} {cs : List Value} (h : Lies w g T cs.toArray) (hs : cs.length = n * sz) (hn : n ≤ 1000) : SeqS w sz (.slice (some ⟨g, 0, none⟩) n n) n cs := by
 refine ⟨hs, _, _, rfl, Nat.le_refl _, by unfold maxLen; omega, (fun h => by cases h), fun k x hx => ⟨g, 0, rfl, ?_⟩⟩
 rw [Nat.zero_add, h.cell, ← hx, List.getElem?_toArray]
set_option maxHeartbeats 2000000 in
set_option maxRecDepth 100000 in
theorem smp17 (w : World) : Calls Tryz.prog 33 #[] w fun e w' => ∃ A Q, e = .returned (.agg (pgC A 1 Q 1 smP)) ∧ PgAt w' A 1 Q 1 smP ∧ Below w.heap.size w w' := by
 have z1 : ∀ (q : World) o, (q.alloc o).heap.size = q.heap.size + 1 := fun q o => World.size_alloc ..
 have l0 := Lies.made w 25 #[.slice (some ⟨w.heap.size + 1, 0, none⟩) 1 1, .slice (some ⟨w.heap.size + 1 + 1 + 1, 0, none⟩) 1 1]
 have b0 : Below w.heap.size w (w.alloc (.cells #[.slice (some ⟨w.heap.size + 1, 0, none⟩) 1 1, .slice (some ⟨w.heap.size + 1 + 1 + 1, 0, none⟩) 1 1] 25)) := (Below.refl _ _).alloc (Nat.le_refl _) _
 have s0 := z1 w (.cells #[.slice (some ⟨w.heap.size + 1, 0, none⟩) 1 1, .slice (some ⟨w.heap.size + 1 + 1 + 1, 0, none⟩) 1 1] 25)
 generalize hw1 : w.alloc (.cells #[.slice (some ⟨w.heap.size + 1, 0, none⟩) 1 1, .slice (some ⟨w.heap.size + 1 + 1 + 1, 0, none⟩) 1 1] 25) = w1 at *
 have l1 := Lies.made w1 84 #[.int .i64 1, .int .i64 1, .int .i64 1]
 have s1 := z1 w1 (.cells #[.int .i64 1, .int .i64 1, .int .i64 1] 84)
 have b1 : Below w1.heap.size w1 (w1.alloc (.cells #[.int .i64 1, .int .i64 1, .int .i64 1] 84)) := (Below.refl _ _).alloc (Nat.le_refl _) _
 generalize hw2 : w1.alloc (.cells #[.int .i64 1, .int .i64 1, .int .i64 1] 84) = w2 at *
 have l2 := Lies.made w2 122 #[.int .i64 1, .int .i64 1, .int .i64 0, .int .i64 0, .int .i64 0, .int .u64 5, .int .i64 18, .int .i64 1, .int .i64 2, .int .i64 0, .int .i64 0, .int .u64 0, .int .i64 15, .int .i64 0, .int .i64 0, .int .i64 0, .int .i64 0, .int .u64 1]
 have s2 := z1 w2 (.cells #[.int .i64 1, .int .i64 1, .int .i64 0, .int .i64 0, .int .i64 0, .int .u64 5, .int .i64 18, .int .i64 1, .int .i64 2, .int .i64 0, .int .i64 0, .int .u64 0, .int .i64 15, .int .i64 0, .int .i64 0, .int .i64 0, .int .i64 0, .int .u64 1] 122)
 have b2 : Below w2.heap.size w2 (w2.alloc (.cells #[.int .i64 1, .int .i64 1, .int .i64 0, .int .i64 0, .int .i64 0, .int .u64 5, .int .i64 18, .int .i64 1, .int .i64 2, .int .i64 0, .int .i64 0, .int .u64 0, .int .i64 15, .int .i64 0, .int .i64 0, .int .i64 0, .int .i64 0, .int .u64 1] 122)) := (Below.refl _ _).alloc (Nat.le_refl _) _
 generalize hw3 : w2.alloc (.cells #[.int .i64 1, .int .i64 1, .int .i64 0, .int .i64 0, .int .i64 0, .int .u64 5, .int .i64 18, .int .i64 1, .int .i64 2, .int .i64 0, .int .i64 0, .int .u64 0, .int .i64 15, .int .i64 0, .int .i64 0, .int .i64 0, .int .i64 0, .int .u64 1] 122) = w3 at *
 have l3 := Lies.made w3 78 #[.slice (some ⟨w.heap.size + 1 + 1, 0, none⟩) 3 3]
 have b3 : Below w3.heap.size w3 (w3.alloc (.cells #[.slice (some ⟨w.heap.size + 1 + 1, 0, none⟩) 3 3] 78)) := (Below.refl _ _).alloc (Nat.le_refl _) _
 generalize hw4 : w3.alloc (.cells #[.slice (some ⟨w.heap.size + 1 + 1, 0, none⟩) 3 3] 78) = w4 at *
 have m0 := ((l0.below b1 l0.lt).below b2 (by have := l0.lt; omega)).below b3 (by have := l0.lt; omega)
 have m1 := (l1.below b2 l1.lt).below b3 (by have := l1.lt; omega)
 have m2 := l2.below b3 l2.lt
 rw [s0] at m1
 rw [s1, s0] at m2
 rw [s2, s1, s0] at l3
 have HP : Hid (PgAt w4 (some ⟨w.heap.size + 1, 0, none⟩) 1 (some ⟨w.heap.size + 1 + 1 + 1, 0, none⟩) 1 smP) := by
  refine ⟨seq_lit (cs := rowsOf riF smP.rs) m1 rfl (by decide), [Value.slice (some ⟨w.heap.size + 1 + 1, 0, none⟩) 3 3], seq_lit (n := 1) (cs := [Value.slice (some ⟨w.heap.size + 1 + 1, 0, none⟩) 3 3]) l3 rfl (by decide), fun i l hl => ?_⟩
  have hi : i = 0 := by have := (List.getElem?_eq_some_iff.1 hl).1; simp only [smP, List.length_singleton] at this; omega
  subst hi
  simp only [smP, List.getElem?_cons_zero, Option.some.injEq] at hl
  subst hl
  exact ⟨_, 3, rfl, seq_lit (cs := rowsOf inF smL) m2 rfl (by decide)⟩
 have HB := Lib.hid (b0.trans ((b1.mono b0.size).trans ((b2.mono (Nat.le_trans b0.size b1.size)).trans (b3.mono (Nat.le_trans b0.size (Nat.le_trans b1.size b2.size))))))
 have q0 := Lib.hid ((m0.cell 0).trans (show _ = some (Value.slice (some ⟨w.heap.size + 1, 0, none⟩) 1 1) from rfl))
 have q1 := Lib.hid ((m0.cell 1).trans (show _ = some (Value.slice (some ⟨w.heap.size + 1 + 1 + 1, 0, none⟩) 1 1) from rfl))
 have HW := Lib.hid (show _ = w4 from by rw [← hw4, ← hw3, ← hw2, ← hw1])
 clear l0 b0 s0 hw1 l1 s1 b1 hw2 l2 s2 b2 hw3 l3 b3 hw4 m0 m1 m2 z1
 go_enter Tryz.func33, Tryz.ntmps33
 go_wp2
 rw [HW.out]
 exact bodyPost_ret (v := .agg (pgC (some ⟨w.heap.size + 1, 0, none⟩) 1 (some ⟨w.heap.size + 1 + 1 + 1, 0, none⟩) 1 smP)) (by simp [results, Tryz.results33, go_sem, q0.out, q1.out]; exact ⟨rfl, rfl⟩) rfl ⟨_, _, rfl, HP.out, HB.out⟩
set_option maxHeartbeats 2000000 in
theorem rf17Right (p : Pg) (A : Option Addr) (c : Nat) (B : Option Addr) (d : Nat) (w : World) (h : PgAt w A c B d p) (hok : pgOk p) : Calls Tryz.prog 13 #[.agg (pgC A c B d p)] w fun e w' => e = .returned (.bool (rightP p)) ∧ Below w.heap.size w w' := by
 have hb0 : Below w.heap.size w (w.alloc (.cells (pgC A c B d p) 25)) := (Below.refl _ _).alloc (Nat.le_refl _) _
 have HC := Lib.hid (r11Right p A c B d _ (h.later hb0) hok)
 have HB0 := Lib.hid hb0
 clear h hok hb0
 go_enter Tryz.func13, Tryz.ntmps13
 go_wp2_with fail
 refine HC.out.mono ?_
 rintro e w2 ⟨rfl, hb2⟩
 have hb2 := HB0.out.trans (hb2.mono HB0.out.size)
 go_wp2
 go_ret
 exact ⟨rfl, hb2⟩
set_option maxHeartbeats 2000000 in
theorem few17 (p : Pg) (A : Option Addr) (c : Nat) (B : Option Addr) (d : Nat) (w : World) (h : PgAt w A c B d p) (hok : pgOk p) : Calls Tryz.prog 22 #[.agg (pgC A c B d p)] w fun e w' => e = .returned (.bool (fewB p 100 && rightP p)) ∧ Below w.heap.size w w' := by
 have hb0 : Below w.heap.size w (w.alloc (.cells (pgC A c B d p) 25)) := (Below.refl _ _).alloc (Nat.le_refl _) _
 have l0 := Lies.made w 25 (pgC A c B d p)
 have HC := Lib.hid (rfFew p 100 A c B d _ (h.later hb0) (by omega))
 have HR := Lib.hid (fun (q : World) (hq : Below w.heap.size w q) => rf17Right p A c B d q (h.later hq) hok)
 have HB0 := Lib.hid hb0
 have HL0 := Lib.hid l0
 clear h hok hb0 l0
 obtain ⟨fb, hfb⟩ : ∃ b, fewB p 100 = b := ⟨_, rfl⟩
 rw [hfb] at HC ⊢
 clear hfb
 obtain ⟨rb, hrb⟩ : ∃ b, rightP p = b := ⟨_, rfl⟩
 rw [hrb] at HR ⊢
 clear hrb
 have c0 := (HL0.out.cell 0).trans (show _ = some (Value.slice A p.rs.length c) from rfl)
 have c1 := (HL0.out.cell 1).trans (show _ = some (Value.slice B p.ts.length d) from rfl)
 go_enter Tryz.func22, Tryz.ntmps22
 go_wp2_with fail
 refine HC.out.mono ?_
 rintro e w2 ⟨rfl, hb2⟩
 have HB2 := Lib.hid (HB0.out.trans (hb2.mono HB0.out.size))
 have l2 := HL0.out.below hb2 HL0.out.lt
 have c0 := (l2.cell 0).trans (show _ = some (Value.slice A p.rs.length c) from rfl)
 have c1 := (l2.cell 1).trans (show _ = some (Value.slice B p.ts.length d) from rfl)
 have c2 := l2.lt
 clear l2 hb2
 cases fb
 ·go_wp2_with fail
  go_ret
  exact ⟨rfl, HB2.out⟩
 ·go_wp2_with fail
  refine (HR.out _ HB2.out).mono ?_
  rintro e w3 ⟨rfl, hb3⟩
  have HB3 := Lib.hid (HB2.out.trans (hb3.mono HB2.out.size))
  clear hb3
  go_wp2_with fail
  go_ret
  exact ⟨rfl, HB3.out⟩
structure SnA (w : World) (B NS : Nat) (vs : List Value) (ss : List (List Nat)) : Prop where
 box : Lies w NS 67 vs.toArray
 len : vs.length = ss.length
 each : ∀ (i : Nat) (s : List Nat), ss[i]? = some s → ∃ A c, vs[i]? = some (Value.slice A s.length c) ∧ w.ownsRow B 37 1 (.slice A s.length c) s.length (cells64 s)
 apart : ∀ (i j : Nat) (a b : Value) (r : Nat), i ≠ j → vs[i]? = some a → vs[j]? = some b → a.ownBlock = some r → b.ownBlock ≠ some r
def InV (vs : List Value) (r : Nat) : Prop := ∃ v ∈ vs, v.ownBlock = some r
section
variable {w w' q1 : World} {B NS i : Nat} {vs : List Value} {ss : List (List Nat)} {u0 v' : Value} {s' : List Nat}
theorem SnA.kept {S : Nat → Prop} (h : SnA w B NS vs ss) (k : Kept S w w') (h1 : ¬ S NS) (h2 : ∀ r, InV vs r → ¬ S r) : SnA w' B NS vs ss := by
 refine ⟨h.box.kept k h1, h.len, fun i s hs => ?_, h.apart⟩
 obtain ⟨A, c, e, ho⟩ := h.each i s hs
 exact ⟨A, c, e, owns_kept ho k (fun r cur hr _ => h2 r ⟨_, List.mem_of_getElem? e, hr⟩)⟩
theorem SnA.old (h : SnA w B NS vs ss) {r : Nat} (hr : InV vs r) : B ≤ r ∧ ∃ cur, Lies w r 37 cur := by
 obtain ⟨v, hv, hr⟩ := hr
 obtain ⟨j, hj⟩ := List.mem_iff_getElem?.1 hv
 have hjl := (List.getElem?_eq_some_iff.1 hj).1
 obtain ⟨A, c, e, ho⟩ := h.each j _ (List.getElem?_eq_getElem (by rw [← h.len]; exact hjl))
 rw [hj] at e
 simp only [Option.some.injEq] at e
 rw [e] at hr
 exact own_lies ho hr
theorem SnA.turn (h : SnA w B NS vs ss) (hi : i < ss.length) (hu : vs[i]? = some u0) (k : Kept (fun k => u0.ownBlock = some k) w q1) {A' : Option Addr} {c' : Nat} (hv : v' = .slice A' s'.length c') (ho : q1.ownsRow B 37 1 v' s'.length (cells64 s'))
  (hb : ∀ g, v'.ownBlock = some g → u0.ownBlock = some g ∨ w.heap.size ≤ g) : SnA (q1.setCell ⟨NS, i, none⟩ v') B NS (vs.set i v') (ss.set i s') := by
 have hlen := h.len
 have hmem : ∀ {r}, u0.ownBlock = some r → InV vs r := fun e => ⟨u0, List.mem_of_getElem? hu, e⟩
 have hn : ¬ u0.ownBlock = some NS := fun e => by
  obtain ⟨_, cur, hl⟩ := h.old (hmem e)
  exact absurd (hl.same h.box).1 (by decide)
 have b1 := h.box.kept k hn
 have kp := Kept.put q1 NS i v'
 have n2 : ∀ {g cur}, Lies q1 g 37 cur → ¬ oneRow NS g := fun {g cur} hl (e : g = NS) => by subst e; exact absurd (hl.same b1).1 (by decide)
 refine ⟨?_, by rw [List.length_set, List.length_set]; exact hlen, fun j s hs => ?_, fun a b x y g hab hx hy hg hg2 => ?_⟩
 ·have := b1.put i v'
  rwa [List.setIfInBounds_toArray] at this
 ·by_cases hji : j = i
  ·subst hji
   rw [List.getElem?_set_self hi] at hs
   simp only [Option.some.injEq] at hs
   subst hs
   refine ⟨A', c', by rw [List.getElem?_set_self (by omega), hv], ?_⟩
   rw [← hv]
   exact owns_kept ho kp (fun g cur hg hl => n2 hl)
  ·rw [List.getElem?_set_ne (Ne.symm hji)] at hs
   obtain ⟨A, c, e, hoj⟩ := h.each j s hs
   refine ⟨A, c, by rw [List.getElem?_set_ne (Ne.symm hji)]; exact e, ?_⟩
   have h1 : q1.ownsRow B 37 1 (.slice A s.length c) s.length (cells64 s) := owns_kept hoj k (fun g cur hg hl he => h.apart j i _ _ g hji e hu hg he)
   exact owns_kept h1 kp (fun g cur hg hl => n2 hl)
 ·have old : ∀ (j : Nat) (u : Value) (g : Nat), vs[j]? = some u → u.ownBlock = some g → g < w.heap.size := fun j u g hj hg => by
   obtain ⟨_, cur, hl⟩ := h.old ⟨u, List.mem_of_getElem? hj, hg⟩
   exact hl.lt
  by_cases hai : a = i
  ·subst hai
   rw [List.getElem?_set_self (by omega)] at hx
   rw [List.getElem?_set_ne hab] at hy
   simp only [Option.some.injEq] at hx
   subst hx
   rcases hb g hg with hb | hb
   ·exact h.apart a b _ _ g hab hu hy hb hg2
   ·have := old b y g hy hg2
    omega
  ·rw [List.getElem?_set_ne (Ne.symm hai)] at hx
   by_cases hbi : b = i
   ·subst hbi
    rw [List.getElem?_set_self (by omega)] at hy
    simp only [Option.some.injEq] at hy
    subst hy
    rcases hb g hg2 with hb | hb
    ·exact h.apart a b _ _ g hab hx hu hg hb
    ·have := old a x g hx hg
     omega
   ·rw [List.getElem?_set_ne (Ne.symm hbi)] at hy
    exact h.apart a b _ _ g hab hx hy hg hg2
end
structure SeAt (w : World) (cp : Array Value) (F NS NO : Nat) (f : Fb) (k : Nat) (z : Fv) (vs : List Value) (ss : List (List Nat)) (ov : List Bool) (q : World) : Prop where
 bel : Below w.heap.size w q
 box : Lies q w.heap.size 25 cp
 seen : SnA q w.heap.size NS vs ss
 over : Lies q NO 61 (ov.map Value.bool).toArray
 lens : ss.length = 8 ∧ ov.length = 8
 ma : LwD w.heap.size F (InV vs) f k z q
 nos : w.heap.size ≤ NS ∧ w.heap.size ≤ NO
section
variable {w q q1 : World} {cp : Array Value} {F NS NO k : Nat} {f f' : Fb} {z : Fv} {vs : List Value} {ss : List (List Nat)} {ov : List Bool}
theorem SeAt.later (h : SeAt w cp F NS NO f k z vs ss ov q) (hb : Below q.heap.size q q1) : SeAt w cp F NS NO f k z vs ss ov q1 :=
 ⟨h.bel.trans (hb.mono h.bel.size), h.box.below hb h.box.lt, h.seen.kept (Kept.of_below hb) (fun e => e) (fun _ _ e => e), h.over.below hb h.over.lt, h.lens, h.ma.later hb, h.nos⟩
theorem SeAt.did {E : Int} {r : Ending} (h : SeAt w cp F NS NO f k z vs ss ov q) (hd : LdD w.heap.size F (InV vs) f' k E q r q1) : r = .returned (.int .i64 E) ∧ ∃ z', SeAt w cp F NS NO f' (k + 1) z' vs ss ov q1 := by
 obtain ⟨h1, S, hk, hS, z', hz⟩ := hd
 have no : ∀ {r e cur}, Lies q r e cur → ¬ FbTy e → ¬ S r := fun {r e cur} hl hn hs => by
  obtain ⟨_, _, e2, c2, h3, h4⟩ := hS r hs
  rw [← (hl.same h3).1] at h4
  exact hn h4
 exact ⟨h1, z', h.bel.trans (hk.below h.bel.size (fun r hr hs => by have := (hS r hs).1; omega)), h.box.kept hk (no h.box (by decide)), h.seen.kept hk (no h.seen.box (by decide)) (fun r hr hs => (hS r hs).2.1 hr), h.over.kept hk (no h.over (by decide)), h.lens, hz, h.nos⟩
theorem SeAt.push (h : SeAt w cp F NS NO f k z vs ss ov q) {i : Nat} (hi : i < ss.length) {u0 v' : Value} {s' : List Nat} (hu : vs[i]? = some u0) (kp : Kept (fun k => u0.ownBlock = some k) q q1) {A' : Option Addr} {c' : Nat} (hv : v' = .slice A' s'.length c') (ho : q1.ownsRow w.heap.size 37 1 v' s'.length (cells64 s'))
  (hb : ∀ g, v'.ownBlock = some g → u0.ownBlock = some g ∨ q.heap.size ≤ g) : SeAt w cp F NS NO f k z (vs.set i v') (ss.set i s') ov (q1.setCell ⟨NS, i, none⟩ v') := by
 have hmem : ∀ {r}, u0.ownBlock = some r → InV vs r := fun e => ⟨u0, List.mem_of_getElem? hu, e⟩
 have hs := h.seen.turn hi hu kp hv ho hb
 have k2 := Kept.put q1 NS i v'
 have n1 : ∀ {r e cur}, Lies q r e cur → e ≠ 37 → ¬ u0.ownBlock = some r := fun {r e cur} hl he e0 => by
  obtain ⟨_, c2, h2⟩ := h.seen.old (hmem e0)
  exact he (hl.same h2).1
 have b1 := h.seen.box.kept kp (n1 h.seen.box (by decide))
 have n2 : ∀ {r e cur}, Lies q1 r e cur → e ≠ 67 → ¬ oneRow NS r := fun {r e cur} hl he (e0 : r = NS) => by subst e0; exact he (hl.same b1).1
 have l1 := h.bel.trans (kp.below h.bel.size (fun r hr e => by have := (h.seen.old (hmem e)).1; omega))
 have kk := (kp.mono (T := fun r => r = NS ∨ u0.ownBlock = some r) (fun _ _ h => .inr h)).trans k2 (fun i _ (e : i = NS) => .inl e)
 refine ⟨l1.trans (k2.below l1.size (fun r hr (e : r = NS) => by have := h.nos.1; omega)), (h.box.kept kp (n1 h.box (by decide))).kept k2 (n2 (h.box.kept kp (n1 h.box (by decide))) (by decide)), hs, (h.over.kept kp (n1 h.over (by decide))).kept k2 (n2 (h.over.kept kp (n1 h.over (by decide))) (by decide)), by rw [List.length_set]; exact h.lens, h.ma.kept kk (fun r e cur hl hs => ?_) (fun r hr => ?_), h.nos⟩
 ·rcases hs with rfl | hs
  ·have e1 := (hl.same h.seen.box).1
   refine ⟨fun hf => ?_, by rw [e1]; decide, by rw [e1]; decide, by rw [e1]; decide⟩
   obtain ⟨_, e2, c2, h3, h4⟩ := fb_types h.ma.fab hf
   rw [(h3.same h.seen.box).1] at h4
   revert h4; decide
  ·obtain ⟨_, c2, h2⟩ := h.seen.old (hmem hs)
   have e1 := (hl.same h2).1
   exact ⟨(h.ma.out r (hmem hs)).1, by rw [e1]; decide, by rw [e1]; decide, by rw [e1]; decide⟩
 ·obtain ⟨v, hv2, hr⟩ := hr
  have hlt : r < (q1.setCell ⟨NS, i, none⟩ v').heap.size := by
   obtain ⟨_, cur, hl⟩ := hs.old ⟨v, hv2, hr⟩
   exact hl.lt
  refine ⟨?_, hlt⟩
  rcases List.mem_or_eq_of_mem_set hv2 with hv2 | hv2
  ·exact .inl ⟨v, hv2, hr⟩
  ·subst hv2
   rcases hb r hr with hb | hb
   ·exact .inl (hmem hb)
   ·exact .inr hb
theorem SeAt.shut (h : SeAt w cp F NS NO f k z vs ss ov q) {i : Nat} : SeAt w cp F NS NO f k z vs ss (ov.set i true) (q.setCell ⟨NO, i, none⟩ (.bool true)) := by
 have k2 := Kept.put q NO i (.bool true)
 have n2 : ∀ {r e cur}, Lies q r e cur → e ≠ 61 → ¬ oneRow NO r := fun {r e cur} hl he (e0 : r = NO) => by subst e0; exact he (hl.same h.over).1
 refine ⟨h.bel.trans (k2.below h.bel.size (fun r hr (e : r = NO) => by have := h.nos.2; omega)), h.box.kept k2 (n2 h.box (by decide)), h.seen.kept k2 (n2 h.seen.box (by decide)) (fun r hr (e : r = NO) => by subst e; obtain ⟨_, cur, hl⟩ := h.seen.old hr; exact absurd (hl.same h.over).1 (by decide)), ?_, by rw [List.length_set]; exact h.lens, h.ma.kept k2 (fun r e cur hl (hs : r = NO) => ?_) (fun r hr => ⟨.inl hr, Nat.lt_of_lt_of_le (h.ma.out r hr).2 k2.size⟩), h.nos⟩
 ·have := h.over.put i (.bool true)
  rwa [List.setIfInBounds_toArray, ← List.map_set] at this
 ·subst hs
  have e1 := (hl.same h.over).1
  refine ⟨fun hf => ?_, by rw [e1]; decide, by rw [e1]; decide, by rw [e1]; decide⟩
  obtain ⟨_, e2, c2, h3, h4⟩ := fb_types h.ma.fab hf
  rw [(h3.same h.over).1] at h4
  revert h4; decide
end
structure Rs where
 tl : Nat
 hs : List Nat
 cl : Bool
 sl : List Sl
structure Sta where
 th : List Th
 rg : List Rs
 now : Nat
 rds : Nat
 en : Bool
def thP (p : Th × Value) : List Value := (thC p.1 p.2).toList
theorem thP_length (p : Th × Value) : (thP p).length = 14 := rfl
def rgP (q : Rs × Value × Value) : List Value := [.int .u64 (q.1.tl : Int), q.2.1, .bool q.1.cl, q.2.2]
theorem rgP_length (q : Rs × Value × Value) : (rgP q).length = 4 := rfl
def OwnL (w : World) (B : Nat) (e : TypeId) (sz n : Nat) (xs : List Value) (v : Value) : Prop := ∃ A c, v = Value.slice A n c ∧ w.ownsRow B e sz v n xs
abbrev OwnTs (w : World) (B : Nat) (v : Value) (l : List Th) : Prop := ∃ ps : List (Th × Value), ps.map (·.1) = l ∧ w.ownsRow B 73 14 v l.length (rowsOf thP ps) ∧ ∀ p ∈ ps, OwnL w B 37 1 p.1.sn.length (cells64 p.1.sn) p.2
abbrev OwnRs (w : World) (B : Nat) (v : Value) (l : List Rs) : Prop := ∃ qs : List (Rs × Value × Value), qs.map (·.1) = l ∧ w.ownsRow B 76 4 v l.length (rowsOf rgP qs) ∧ ∀ q ∈ qs, OwnL w B 37 1 q.1.hs.length (cells64 q.1.hs) q.2.1 ∧ OwnL w B 90 3 q.1.sl.length (rowsOf slF q.1.sl) q.2.2
section
variable {w w' : World} {B n sz : Nat} {e : TypeId} {xs : List Value} {v : Value}
theorem ownL_of (h : w.ownsRow B e sz v n xs) : OwnL w B e sz n xs v := by
 obtain ⟨A, c, e1, _⟩ := owns_form h
 exact ⟨A, c, e1, h⟩
theorem OwnL.kept {S : Nat → Prop} (h : OwnL w B e sz n xs v) (k : Kept S w w') (hS : ∀ r cur, Lies w r e cur → ¬ S r) : OwnL w' B e sz n xs v := by
 obtain ⟨A, c, e1, h⟩ := h
 exact ⟨A, c, e1, owns_kept h k (fun r cur _ hl => hS r cur hl)⟩
theorem ownTs_kept {S : Nat → Prop} {l : List Th} (h : OwnTs w B v l) (k : Kept S w w') (hS : ∀ r e cur, Lies w r e cur → (e = 73 ∨ e = 37) → ¬ S r) : OwnTs w' B v l := by
 obtain ⟨ps, h1, h2, h3⟩ := h
 exact ⟨ps, h1, owns_kept h2 k (fun r cur _ hl => hS r _ cur hl (.inl rfl)), fun p hp => (h3 p hp).kept k (fun r cur hl => hS r _ cur hl (.inr rfl))⟩
theorem ownRs_kept {S : Nat → Prop} {l : List Rs} (h : OwnRs w B v l) (k : Kept S w w') (hS : ∀ r e cur, Lies w r e cur → (e = 76 ∨ e = 37 ∨ e = 90) → ¬ S r) : OwnRs w' B v l := by
 obtain ⟨qs, h1, h2, h3⟩ := h
 exact ⟨qs, h1, owns_kept h2 k (fun r cur _ hl => hS r _ cur hl (.inl rfl)), fun q hq => ⟨(h3 q hq).1.kept k (fun r cur hl => hS r _ cur hl (.inr (.inl rfl))), (h3 q hq).2.kept k (fun r cur hl => hS r _ cur hl (.inr (.inr rfl)))⟩⟩
end
def rsOf (x : La) : Rs := ⟨x.R.tail, x.R.h8.take x.R.rd, x.cl, x.R.L⟩
def thI (f : Fb) (i : Nat) : Th := { thrN f i with sn := f.sn.getD i [] }
def thsF (f : Fb) (n : Nat) : List Th := (List.range n).map (thI f)
def rgsF (f : Fb) (n : Nat) : List Rs := (List.range n).map fun (i : Nat) => rsOf (lnN f (i : Int))
def stF (f : Fb) : Sta := ⟨thsF f f.p.ts.length, rgsF f f.p.rs.length, f.now, f.rds, f.en⟩
theorem thsF_length (f : Fb) (n : Nat) : (thsF f n).length = n := by simp [thsF]
theorem rgsF_length (f : Fb) (n : Nat) : (rgsF f n).length = n := by simp [rgsF]
theorem thsF_succ (f : Fb) (n : Nat) : thsF f (n + 1) = thsF f n ++ [thI f n] := by simp [thsF, List.range_succ]
theorem rgsF_succ (f : Fb) (n : Nat) : rgsF f (n + 1) = rgsF f n ++ [rsOf (lnN f (n : Int))] := by simp [rgsF, List.range_succ]
abbrev stZ : Array Value := #[.slice none 0 0, .slice none 0 0, .int .u64 0, .int .u64 0, .bool false]
abbrev stC (tv rv : Value) (now rds : Nat) (en : Bool) : Array Value := #[tv, rv, .int .u64 (now : Int), .int .u64 (rds : Int), .bool en]
def StPost (w : World) (S : Sta) (q : Ending) (w' : World) : Prop := ∃ A c R d, q = .returned (.agg (stC (.slice A S.th.length c) (.slice R S.rg.length d) S.now S.rds S.en)) ∧ OwnTs w' w.heap.size (.slice A S.th.length c) S.th ∧ OwnRs w' w.heap.size (.slice R S.rg.length d) S.rg ∧ Below w.heap.size w w'
structure StB (w : World) (f : Fb) (g3 i j : Nat) (tv rv : Value) (q : World) : Prop where
 bel : Below w.heap.size w q
 res : Lies q w.heap.size 39 stZ
 box : Lies q g3 39 (stC tv rv f.now f.rds f.en)
 ts : OwnTs q w.heap.size tv (thsF f i)
 rs : OwnRs q w.heap.size rv (rgsF f j)
 g3 : w.heap.size < g3
section
variable {w q q1 : World} {f : Fb} {g3 i j : Nat} {tv rv v : Value}
theorem StB.later (h : StB w f g3 i j tv rv q) (k : Below q.heap.size q q1) : StB w f g3 i j tv rv q1 :=
 ⟨h.bel.trans (k.mono h.bel.size), h.res.below k h.res.lt, h.box.below k h.box.lt, ownTs_kept h.ts (Kept.of_below k) (fun _ _ _ _ _ e => e), ownRs_kept h.rs (Kept.of_below k) (fun _ _ _ _ _ e => e), h.g3⟩
theorem StB.keptS {S : Nat → Prop} (h : StB w f g3 i j tv rv q) (k : Kept S q q1) (hS : ∀ r e cur, Lies q r e cur → S r → e = 73 ∧ tv.ownBlock ≠ some r) (hl : ∀ r, r < w.heap.size → ¬ S r) : StB w f g3 i j tv rv q1 := by
 have no : ∀ r e cur, Lies q r e cur → e ≠ 73 → ¬ S r := fun r e cur h1 h2 h3 => h2 (hS r e cur h1 h3).1
 refine ⟨h.bel.trans (k.below h.bel.size hl), h.res.kept k (no _ _ _ h.res (by decide)), h.box.kept k (no _ _ _ h.box (by decide)), ?_, ownRs_kept h.rs k (fun r e cur h1 he => no r e cur h1 (by rcases he with rfl | rfl | rfl <;> decide)), h.g3⟩
 obtain ⟨ps, h1, h2, h3⟩ := h.ts
 exact ⟨ps, h1, owns_kept h2 k (fun r cur hr hl2 hs => (hS r _ cur hl2 hs).2 hr), fun p hp => (h3 p hp).kept k (fun r cur hl2 => no r _ cur hl2 (by decide))⟩
theorem StB.keptR {S : Nat → Prop} (h : StB w f g3 i j tv rv q) (k : Kept S q q1) (hS : ∀ r e cur, Lies q r e cur → S r → e = 76 ∧ rv.ownBlock ≠ some r) (hl : ∀ r, r < w.heap.size → ¬ S r) : StB w f g3 i j tv rv q1 := by
 have no : ∀ r e cur, Lies q r e cur → e ≠ 76 → ¬ S r := fun r e cur h1 h2 h3 => h2 (hS r e cur h1 h3).1
 refine ⟨h.bel.trans (k.below h.bel.size hl), h.res.kept k (no _ _ _ h.res (by decide)), h.box.kept k (no _ _ _ h.box (by decide)), ownTs_kept h.ts k (fun r e cur h1 he => no r e cur h1 (by rcases he with rfl | rfl <;> decide)), ?_, h.g3⟩
 obtain ⟨qs, h1, h2, h3⟩ := h.rs
 exact ⟨qs, h1, owns_kept h2 k (fun r cur hr hl2 hs => (hS r _ cur hl2 hs).2 hr), fun p hp => ⟨(h3 p hp).1.kept k (fun r cur hl2 => no r _ cur hl2 (by decide)), (h3 p hp).2.kept k (fun r cur hl2 => no r _ cur hl2 (by decide))⟩⟩
theorem StB.pushT (h : StB w f g3 i j tv rv q) (k : Kept (fun k => tv.ownBlock = some k) q q1) (hn : OwnTs q1 w.heap.size v (thsF f (i + 1))) : StB w f g3 (i + 1) j v rv (q1.setCell ⟨g3, 0, none⟩ v) := by
 obtain ⟨ps, h1, h2, h3⟩ := id h.ts
 have no : ∀ {r e cur}, Lies q r e cur → e ≠ 73 → ¬ tv.ownBlock = some r := fun {r e cur} h4 h5 h6 => h5 (own_same h2 h4 h6)
 have b1 := h.box.kept k (no h.box (by decide))
 have r1 := h.res.kept k (no h.res (by decide))
 have s1 := ownRs_kept h.rs k (fun r e cur hl he => no hl (by rcases he with rfl | rfl | rfl <;> decide))
 have k2 := Kept.put q1 g3 0 v
 have n2 : ∀ {r e cur}, Lies q1 r e cur → e ≠ 39 → ¬ oneRow g3 r := fun {r e cur} h4 h5 (h6 : r = g3) => by subst h6; exact h5 (h4.same b1).1
 have l1 : ∀ r, tv.ownBlock = some r → w.heap.size ≤ r := fun r e => (own_lies h2 e).1
 have bl := h.bel.trans (k.below h.bel.size (fun r hr e => by have := l1 r e; omega))
 have hg := h.g3
 exact ⟨bl.trans (k2.below bl.size (fun r hr (e : r = g3) => by omega)), r1.kept k2 (fun (e : w.heap.size = g3) => by omega), b1.put 0 v, ownTs_kept hn k2 (fun r e cur hl he => n2 hl (by rcases he with rfl | rfl <;> decide)), ownRs_kept s1 k2 (fun r e cur hl he => n2 hl (by rcases he with rfl | rfl | rfl <;> decide)), h.g3⟩
theorem StB.pushR (h : StB w f g3 i j tv rv q) (k : Kept (fun k => rv.ownBlock = some k) q q1) (hn : OwnRs q1 w.heap.size v (rgsF f (j + 1))) : StB w f g3 i (j + 1) tv v (q1.setCell ⟨g3, 1, none⟩ v) := by
 obtain ⟨ps, h1, h2, h3⟩ := id h.rs
 have no : ∀ {r e cur}, Lies q r e cur → e ≠ 76 → ¬ rv.ownBlock = some r := fun {r e cur} h4 h5 h6 => h5 (own_same h2 h4 h6)
 have b1 := h.box.kept k (no h.box (by decide))
 have r1 := h.res.kept k (no h.res (by decide))
 have s1 := ownTs_kept h.ts k (fun r e cur hl he => no hl (by rcases he with rfl | rfl <;> decide))
 have k2 := Kept.put q1 g3 1 v
 have n2 : ∀ {r e cur}, Lies q1 r e cur → e ≠ 39 → ¬ oneRow g3 r := fun {r e cur} h4 h5 (h6 : r = g3) => by subst h6; exact h5 (h4.same b1).1
 have l1 : ∀ r, rv.ownBlock = some r → w.heap.size ≤ r := fun r e => (own_lies h2 e).1
 have bl := h.bel.trans (k.below h.bel.size (fun r hr e => by have := l1 r e; omega))
 have hg := h.g3
 exact ⟨bl.trans (k2.below bl.size (fun r hr (e : r = g3) => by omega)), r1.kept k2 (fun (e : w.heap.size = g3) => by omega), b1.put 1 v, ownTs_kept s1 k2 (fun r e cur hl he => n2 hl (by rcases he with rfl | rfl <;> decide)), ownRs_kept hn k2 (fun r e cur hl he => n2 hl (by rcases he with rfl | rfl | rfl <;> decide)), h.g3⟩
end
theorem infoStS : (Tryz.prog.info? 39).map (·.size) = some 5 := by kernel_rfl
theorem stC_one {tv rv : Value} {n r : Nat} {b : Bool} (h1 : tv.oneCell' = true) (h2 : rv.oneCell' = true) : (stC tv rv n r b).all (·.oneCell') = true := by
 rw [Array.all_eq_true_iff_forall_mem]
 intro u hu
 simp at hu
 rcases hu with rfl | rfl | rfl | rfl | rfl <;> first | rfl | assumption
theorem infoRsT : (Tryz.prog.info? 76).map (fun i => (i.zero, i.size, i.bytes)) = some (some (.agg #[.int .u64 0, .slice none 0 0, .bool false, .slice none 0 0]), 4, 64) := by kernel_rfl
theorem thUnder : Tryz.prog.underlying 73 = some (.struct (Tryz.prog.fieldsOf 73)) := by kernel_rfl
theorem thP_one (p : Th × Value) (h : p.2.oneCell' = true) : ∀ u ∈ thP p, u.oneCell' = true := fun u hu => by
 unfold thP at hu
 simp at hu
 rcases hu with rfl | rfl | rfl | rfl | rfl | rfl | rfl | rfl | rfl | rfl | rfl | rfl | rfl | rfl <;> first | rfl | exact h
theorem th_load {q : World} {b off : Nat} {x : Th} {v : Value} (h : ∀ (j : Nat) (u : Value), (thP (x, v))[j]? = some u → q.cell? ⟨b, off + j, none⟩ = some u) : (loadVar 73 ⟨b, off, none⟩).run Tryz.prog q = .ok (.agg (thC x v)) q := by
 exact run_loadVar_mid q b off _ (thP (x, v)) _ h thUnder rfl infoThS
theorem th_load0 {q : World} {b : Nat} {x : Th} {v : Value} (h : Lies q b 73 (thC x v)) : (loadVar 73 ⟨b, 0, none⟩).run Tryz.prog q = .ok (.agg (thC x v)) q :=
 th_load fun j u hu => by rw [Nat.zero_add, h.cell, ← hu]; unfold thP; rw [Array.getElem?_toList]
theorem own_lt17 {w : World} {B : Nat} {e : TypeId} {sz n : Nat} {v : Value} {xs : List Value} (h : w.ownsRow B e sz v n xs) {r : Nat} (hv : v.ownBlock = some r) : B ≤ r ∧ r < w.heap.size := by
 have := h.lt r hv
 exact ⟨this.1, this.2⟩
section
variable {w w' : World} {B F : Nat} {f : Fb} {z : Fv}
set_option maxHeartbeats 8000000 in
set_option maxRecDepth 100000 in
theorem fbState (h : FabAt w B F f z) (ok : FbOk f) (hsn : ∀ t, (f.sn.getD t []).length ≤ 1000000) (hts : f.p.ts.length ≤ 1000) (hrs : f.p.rs.length ≤ 1000) : Calls Tryz.prog 21 #[.pointer (some ⟨F, 0, none⟩)] w (StPost w (stF f)) := by
 have hb0 : Below w.heap.size w (w.alloc (.cells stZ 39)) := (Below.refl _ _).alloc (Nat.le_refl _) _
 have l0 := Lies.made w 39 stZ
 have hlf := h.lt
 have hf0 := h.later hb0
 have HB0 := Lib.hid hb0
 have HL0 := Lib.hid l0
 have HF0 := Lib.hid hf0
 have HF := Lib.hid h
 have OK := Lib.hid ok
 have HSN := Lib.hid hsn
 clear h hb0 l0 hf0 ok hsn
 go_enter Tryz.func21, Tryz.ntmps21
 go_upto_region 3 with (fail)
 generalize w.alloc (.cells stZ 39) = w1 at *
 have HC := Lib.hid (fun (q : World) (hq : Below w1.heap.size w1 q) => (HF0.out.later hq).cells)
 have hF1 := HF0.out.lt
 refine wp_region_relyx (lwS w1 39 43 13 14 12 stZ 1000 1001 1002 #[]) (bfV [.eq (.pointer (some ⟨F, 0, none⟩)), .eq (.pointer (some ⟨F, 0, none⟩)), .eq (.pointer (some ⟨F, 5, none⟩)), .eq (.int .u64 (f.now : Int)), .eq (.pointer (some ⟨F, 0, none⟩)), .eq (.pointer (some ⟨F, 0, none⟩)), .eq (.pointer (some ⟨F, 6, none⟩)), .eq (.int .u64 (f.rds : Int)), .eq (.pointer (some ⟨F, 0, none⟩)), .eq (.pointer (some ⟨F, 0, none⟩)), .eq (.pointer (some ⟨F, 7, none⟩)), .eq (.bool f.en), .eq (.agg (stC (.slice none 0 0) (.slice none 0 0) f.now f.rds f.en)), .any, .any]) [some 11, some 12, some 13, some 14, some 15, some 16, some 17, some 18, some 19, some 20, some 21, some 22, some 23, some 3, none] [[], [0], [1], [2], [], [4], [5], [6], [], [8], [9], [10], [3, 7, 11], [], [13, 12]] [[], [0], [0, 1], [1, 2], [], [4], [4, 5], [5, 6], [], [8], [8, 9], [9, 10], [2, 3, 6, 7, 10, 11], [], [0, 1, 2, 3, 4, 5, 6, 7, 8, 9, 10, 11, 13]] [[2, 3, 4, 5, 6, 7, 8, 9, 10, 11, 12, 13], [3, 4, 5, 6, 7, 8, 9, 10, 11, 12, 13], [4, 5, 6, 7, 8, 9, 10, 11, 12, 13], [4, 5, 6, 7, 8, 9, 10, 11, 13], [0, 1, 2, 3, 6, 7, 8, 9, 10, 11, 12, 13], [0, 1, 2, 3, 7, 8, 9, 10, 11, 12, 13], [0, 1, 2, 3, 8, 9, 10, 11, 12, 13], [0, 1, 2, 3, 8, 9, 10, 11, 13], [0, 1, 2, 3, 4, 5, 6, 7, 10, 11, 12, 13], [0, 1, 2, 3, 4, 5, 6, 7, 11, 12, 13], [0, 1, 2, 3, 4, 5, 6, 7, 12, 13], [0, 1, 2, 3, 4, 5, 6, 7, 13], [0, 4, 8, 13], [0, 1, 2, 3, 4, 5, 6, 7, 8, 9, 10, 11, 12], [12]] [0, 1, 2, 3, 4, 5, 6, 7, 8, 9, 10, 11, 12, 13, 14] 15 (by kernel_rfl) (by kernel_rfl) (by kernel_rfl) (by kernel_rfl) ?rS (fun j h1 h2 => absurd (Nat.lt_of_lt_of_le h1 (Nat.le_trans (by decide) h2)) (Nat.lt_irrefl _)) ?rT ?rE
 case rS => exact lw_start
 case rT =>
  refine RelyStepsX.cons (RelyStepX.mk [] [2, 3, 4, 5, 6, 7, 8, 9, 10, 11, 12, 13] rfl rfl rfl (fun xv Lv wS hS hL hLd hV bq hb K hK => ?_)) ?_
  ·clear hV
   simp only [putsOf, List.foldl_cons, List.foldl_nil, List.getD_cons_zero, List.getD_cons_succ, List.getD_nil, cond_true, cond_false, Act.put, List.setIfInBounds_toArray, List.set_cons_zero, List.set_cons_succ] at hb
   subst hb
   rw [if_pos (by rfl)]
   go_wp2_with fail
   exact hK.out _ _ ⟨_, rfl, lw_op (i := 0) rfl hS, rfl, AllPX.same _⟩
  refine RelyStepsX.cons (RelyStepX.mk [0] [3, 4, 5, 6, 7, 8, 9, 10, 11, 12, 13] rfl rfl rfl (fun xv Lv wS hS hL hLd hV bq hb K hK => ?_)) ?_
  ·obtain ⟨h0, _⟩ := hV
   have h0 : xv 0 = _ := h0
   simp only [putsOf, List.foldl_cons, List.foldl_nil, List.getD_cons_zero, List.getD_cons_succ, List.getD_nil, cond_true, cond_false, Act.put, List.setIfInBounds_toArray, List.set_cons_zero, List.set_cons_succ, h0] at hb
   clear h0
   subst hb
   rw [if_pos (by rfl)]
   (have c9 := Nat.lt_of_lt_of_le hF1 hS.1.size)
   go_wp2_with fail
   exact hK.out _ _ ⟨_, rfl, lw_op (i := 1) rfl hS, rfl, AllPX.same _⟩
  refine RelyStepsX.cons (RelyStepX.mk [1] [4, 5, 6, 7, 8, 9, 10, 11, 12, 13] rfl rfl rfl (fun xv Lv wS hS hL hLd hV bq hb K hK => ?_)) ?_
  ·obtain ⟨h1, _⟩ := hV
   have h1 : xv 1 = _ := h1
   simp only [putsOf, List.foldl_cons, List.foldl_nil, List.getD_cons_zero, List.getD_cons_succ, List.getD_nil, cond_true, cond_false, Act.put, List.setIfInBounds_toArray, List.set_cons_zero, List.set_cons_succ, h1] at hb
   clear h1
   subst hb
   rw [if_pos (by rfl)]
   go_wp2_with fail
   exact hK.out _ _ ⟨_, rfl, lw_op (i := 2) rfl hS, rfl, AllPX.same _⟩
  refine RelyStepsX.cons (RelyStepX.mk [2] [4, 5, 6, 7, 8, 9, 10, 11, 13] rfl rfl rfl (fun xv Lv wS hS hL hLd hV bq hb K hK => ?_)) ?_
  ·obtain ⟨h2, _⟩ := hV
   have h2 : xv 2 = _ := h2
   simp only [putsOf, List.foldl_cons, List.foldl_nil, List.getD_cons_zero, List.getD_cons_succ, List.getD_nil, cond_true, cond_false, Act.put, List.setIfInBounds_toArray, List.set_cons_zero, List.set_cons_succ, h2] at hb
   clear h2
   subst hb
   rw [if_pos (by rfl)]
   (obtain ⟨_, _, _, _, _, c5, _, _⟩ := HC.out _ hS.1; have c9 := Nat.lt_of_lt_of_le hF1 hS.1.size)
   go_wp2_with fail
   exact hK.out _ _ ⟨_, rfl, lw_op (i := 3) rfl hS, rfl, AllPX.same _⟩
  refine RelyStepsX.cons (RelyStepX.mk [] [0, 1, 2, 3, 6, 7, 8, 9, 10, 11, 12, 13] rfl rfl rfl (fun xv Lv wS hS hL hLd hV bq hb K hK => ?_)) ?_
  ·clear hV
   simp only [putsOf, List.foldl_cons, List.foldl_nil, List.getD_cons_zero, List.getD_cons_succ, List.getD_nil, cond_true, cond_false, Act.put, List.setIfInBounds_toArray, List.set_cons_zero, List.set_cons_succ] at hb
   subst hb
   rw [if_pos (by rfl)]
   go_wp2_with fail
   exact hK.out _ _ ⟨_, rfl, lw_op (i := 4) rfl hS, rfl, AllPX.same _⟩
  refine RelyStepsX.cons (RelyStepX.mk [4] [0, 1, 2, 3, 7, 8, 9, 10, 11, 12, 13] rfl rfl rfl (fun xv Lv wS hS hL hLd hV bq hb K hK => ?_)) ?_
  ·obtain ⟨h4, _⟩ := hV
   have h4 : xv 4 = _ := h4
   simp only [putsOf, List.foldl_cons, List.foldl_nil, List.getD_cons_zero, List.getD_cons_succ, List.getD_nil, cond_true, cond_false, Act.put, List.setIfInBounds_toArray, List.set_cons_zero, List.set_cons_succ, h4] at hb
   clear h4
   subst hb
   rw [if_pos (by rfl)]
   (have c9 := Nat.lt_of_lt_of_le hF1 hS.1.size)
   go_wp2_with fail
   exact hK.out _ _ ⟨_, rfl, lw_op (i := 5) rfl hS, rfl, AllPX.same _⟩
  refine RelyStepsX.cons (RelyStepX.mk [5] [0, 1, 2, 3, 8, 9, 10, 11, 12, 13] rfl rfl rfl (fun xv Lv wS hS hL hLd hV bq hb K hK => ?_)) ?_
  ·obtain ⟨h5, _⟩ := hV
   have h5 : xv 5 = _ := h5
   simp only [putsOf, List.foldl_cons, List.foldl_nil, List.getD_cons_zero, List.getD_cons_succ, List.getD_nil, cond_true, cond_false, Act.put, List.setIfInBounds_toArray, List.set_cons_zero, List.set_cons_succ, h5] at hb
   clear h5
   subst hb
   rw [if_pos (by rfl)]
   go_wp2_with fail
   exact hK.out _ _ ⟨_, rfl, lw_op (i := 6) rfl hS, rfl, AllPX.same _⟩
  refine RelyStepsX.cons (RelyStepX.mk [6] [0, 1, 2, 3, 8, 9, 10, 11, 13] rfl rfl rfl (fun xv Lv wS hS hL hLd hV bq hb K hK => ?_)) ?_
  ·obtain ⟨h6, _⟩ := hV
   have h6 : xv 6 = _ := h6
   simp only [putsOf, List.foldl_cons, List.foldl_nil, List.getD_cons_zero, List.getD_cons_succ, List.getD_nil, cond_true, cond_false, Act.put, List.setIfInBounds_toArray, List.set_cons_zero, List.set_cons_succ, h6] at hb
   clear h6
   subst hb
   rw [if_pos (by rfl)]
   (obtain ⟨_, _, _, _, _, _, c5, _⟩ := HC.out _ hS.1; have c9 := Nat.lt_of_lt_of_le hF1 hS.1.size)
   go_wp2_with fail
   exact hK.out _ _ ⟨_, rfl, lw_op (i := 7) rfl hS, rfl, AllPX.same _⟩
  refine RelyStepsX.cons (RelyStepX.mk [] [0, 1, 2, 3, 4, 5, 6, 7, 10, 11, 12, 13] rfl rfl rfl (fun xv Lv wS hS hL hLd hV bq hb K hK => ?_)) ?_
  ·clear hV
   simp only [putsOf, List.foldl_cons, List.foldl_nil, List.getD_cons_zero, List.getD_cons_succ, List.getD_nil, cond_true, cond_false, Act.put, List.setIfInBounds_toArray, List.set_cons_zero, List.set_cons_succ] at hb
   subst hb
   rw [if_pos (by rfl)]
   go_wp2_with fail
   exact hK.out _ _ ⟨_, rfl, lw_op (i := 8) rfl hS, rfl, AllPX.same _⟩
  refine RelyStepsX.cons (RelyStepX.mk [8] [0, 1, 2, 3, 4, 5, 6, 7, 11, 12, 13] rfl rfl rfl (fun xv Lv wS hS hL hLd hV bq hb K hK => ?_)) ?_
  ·obtain ⟨h8, _⟩ := hV
   have h8 : xv 8 = _ := h8
   simp only [putsOf, List.foldl_cons, List.foldl_nil, List.getD_cons_zero, List.getD_cons_succ, List.getD_nil, cond_true, cond_false, Act.put, List.setIfInBounds_toArray, List.set_cons_zero, List.set_cons_succ, h8] at hb
   clear h8
   subst hb
   rw [if_pos (by rfl)]
   (have c9 := Nat.lt_of_lt_of_le hF1 hS.1.size)
   go_wp2_with fail
   exact hK.out _ _ ⟨_, rfl, lw_op (i := 9) rfl hS, rfl, AllPX.same _⟩
  refine RelyStepsX.cons (RelyStepX.mk [9] [0, 1, 2, 3, 4, 5, 6, 7, 12, 13] rfl rfl rfl (fun xv Lv wS hS hL hLd hV bq hb K hK => ?_)) ?_
  ·obtain ⟨h9, _⟩ := hV
   have h9 : xv 9 = _ := h9
   simp only [putsOf, List.foldl_cons, List.foldl_nil, List.getD_cons_zero, List.getD_cons_succ, List.getD_nil, cond_true, cond_false, Act.put, List.setIfInBounds_toArray, List.set_cons_zero, List.set_cons_succ, h9] at hb
   clear h9
   subst hb
   rw [if_pos (by rfl)]
   go_wp2_with fail
   exact hK.out _ _ ⟨_, rfl, lw_op (i := 10) rfl hS, rfl, AllPX.same _⟩
  refine RelyStepsX.cons (RelyStepX.mk [10] [0, 1, 2, 3, 4, 5, 6, 7, 13] rfl rfl rfl (fun xv Lv wS hS hL hLd hV bq hb K hK => ?_)) ?_
  ·obtain ⟨h10, _⟩ := hV
   have h10 : xv 10 = _ := h10
   simp only [putsOf, List.foldl_cons, List.foldl_nil, List.getD_cons_zero, List.getD_cons_succ, List.getD_nil, cond_true, cond_false, Act.put, List.setIfInBounds_toArray, List.set_cons_zero, List.set_cons_succ, h10] at hb
   clear h10
   subst hb
   rw [if_pos (by rfl)]
   (obtain ⟨_, _, _, _, _, _, _, c5⟩ := HC.out _ hS.1; have c9 := Nat.lt_of_lt_of_le hF1 hS.1.size)
   go_wp2_with fail
   exact hK.out _ _ ⟨_, rfl, lw_op (i := 11) rfl hS, rfl, AllPX.same _⟩
  refine RelyStepsX.cons (RelyStepX.mk [3, 7, 11] [0, 4, 8, 13] rfl rfl rfl (fun xv Lv wS hS hL hLd hV bq hb K hK => ?_)) ?_
  ·obtain ⟨h3, h7, h11, _⟩ := hV
   have h3 : xv 3 = _ := h3
   have h7 : xv 7 = _ := h7
   have h11 : xv 11 = _ := h11
   simp only [putsOf, List.foldl_cons, List.foldl_nil, List.getD_cons_zero, List.getD_cons_succ, List.getD_nil, cond_true, cond_false, Act.put, List.setIfInBounds_toArray, List.set_cons_zero, List.set_cons_succ, h3, h7, h11] at hb
   clear h3
   clear h7
   clear h11
   subst hb
   rw [if_pos (by rfl)]
   go_wp2_with fail
   exact hK.out _ _ ⟨_, rfl, lw_op (i := 12) rfl hS, rfl, AllPX.same _⟩
  refine RelyStepsX.cons (RelyStepX.mk [] [0, 1, 2, 3, 4, 5, 6, 7, 8, 9, 10, 11, 12] rfl rfl rfl (fun xv Lv wS hS hL hLd hV bq hb K hK => ?_)) ?_
  ·clear hV
   simp only [putsOf, List.foldl_cons, List.foldl_nil, List.getD_cons_zero, List.getD_cons_succ, List.getD_nil, cond_true, cond_false, Act.put, List.setIfInBounds_toArray, List.set_cons_zero, List.set_cons_succ] at hb
   subst hb
   rw [if_pos (by rfl)]
   have HSS := Lib.hid hS
   clear hS
   go_wp2_with fail
   have hbm := (Below.refl wS.heap.size wS).alloc (Nat.le_refl _) (.cells stZ 39)
   exact hK.out _ _ ⟨_, rfl, lw_made1 rfl HSS.out, trivial, AllPX.of _ (fun j _ _ h => bfV_below hbm h)⟩
  refine RelyStepsX.cons (RelyStepX.mk [13, 12] [12] rfl rfl rfl (fun xv Lv wS hS hL hLd hV bq hb K hK => ?_)) ?_
  ·obtain ⟨h13, h12, _⟩ := hV
   simp only [putsOf, List.foldl_cons, List.foldl_nil, List.getD_cons_zero, List.getD_cons_succ, List.getD_nil, cond_true, cond_false, Act.put, List.setIfInBounds_toArray, List.set_cons_zero, List.set_cons_succ] at hb
   generalize hy13 : xv 13 = y13 at *
   generalize hy12 : xv 12 = y12 at *
   subst hb
   rw [if_pos (by rfl)]
   have HSS := Lib.hid hS
   clear hS
   obtain ⟨g, hg, hN, hl⟩ := bk_open HSS.out.2.1 (hLd 13 (by decide +kernel)) hL
   rw [hy13] at hg
   subst hg
   have e5 : y12 = .agg (stC (.slice none 0 0) (.slice none 0 0) f.now f.rds f.en) := h12
   subst e5
   refine wp_store_row _ _ _ rfl g (stC (.slice none 0 0) (.slice none 0 0) f.now f.rds f.en) rfl rfl 39 stZ hl infoStS rfl (stC_one rfl rfl) ?_
   exact hK.out _ _ ⟨undef, rfl, lw_store1 rfl HSS.out (hLd 13 (by decide +kernel)) (hLd 12 (by decide +kernel)) hy13 hN hl hy12 (by decide), trivial, AllPX.of _ (fun j hj _ h => bfV_lit (by rfl) hj h)⟩
  exact RelyStepsX.nil
 case rE =>
  intro xv Lv wE hS hLall hV
  have h12 := hV 12 (by decide) (by decide)
  have h14 := hV 14 (by decide) (by decide)
  clear hV
  (obtain ⟨g3, a3, hx3, hN3, hl3, hv3⟩ := bk_done hS.2.1 (hLall 13 (by decide +kernel)) (hLall 14 (by decide +kernel)))
  simp only [putsOf, List.foldl_cons, List.foldl_nil, List.getD_cons_zero, List.getD_cons_succ, List.getD_nil, cond_true, cond_false, Act.put, List.setIfInBounds_toArray, List.set_cons_zero, List.set_cons_succ]
  generalize xv 0 = y0 at *
  generalize xv 1 = y1 at *
  generalize xv 2 = y2 at *
  generalize xv 3 = y3 at *
  generalize xv 4 = y4 at *
  generalize xv 5 = y5 at *
  generalize xv 6 = y6 at *
  generalize xv 7 = y7 at *
  generalize xv 8 = y8 at *
  generalize xv 9 = y9 at *
  generalize xv 10 = y10 at *
  generalize xv 11 = y11 at *
  generalize xv 12 = y12 at *
  generalize xv 13 = y13 at *
  generalize xv 14 = y14 at *
  subst hx3
  have e12 : y12 = .agg (stC (.slice none 0 0) (.slice none 0 0) f.now f.rds f.en) := h12
  rw [hv3] at e12
  injection e12 with e12
  subst e12
  have hB3 := hS.1
  have HI : Hid (StB w f g3 0 0 (.slice none 0 0) (.slice none 0 0) wE) := ⟨HB0.out.trans (hB3.mono HB0.out.size), HL0.out.below hB3 HL0.out.lt, hl3, ⟨[], rfl, World.ownsRow_nil _ _ _ _, fun p hp => by cases hp⟩, ⟨[], rfl, World.ownsRow_nil _ _ _ _, fun p hp => by cases hp⟩, Nat.lt_of_lt_of_le HL0.out.lt hN3⟩
  clear hS hB3 hl3 hN3 hLall HC HF0 HL0 HB0 hv3 h12
  generalize wE = w2 at *
  obtain ⟨T, ct, S, cs, L, cl, z1, z2, z3, a1, a2, a3⟩ := HF.out.forms OK.out
  have HFC : Hid (∀ q, Below w.heap.size w q → q.cell? ⟨F, 2, none⟩ = some (.slice T f.p.ts.length ct) ∧ q.cell? ⟨F, 3, none⟩ = some (.slice S f.p.ts.length cs) ∧ q.cell? ⟨F, 4, none⟩ = some (.slice L f.p.rs.length cl) ∧ F < q.heap.size) := fun q hq => by
   obtain ⟨_, _, d2, d3, d4, _⟩ := (HF.out.later hq).cells
   rw [z1] at d2; rw [z2] at d3; rw [z3] at d4
   exact ⟨d2, d3, d4, Nat.lt_of_lt_of_le HF.out.lt hq.size⟩
  obtain ⟨c2, _, _, c9⟩ := HFC.out _ HI.out.bel
  go_wp2_with fail
  clear c2 c9
  go_loopw [29] (fun u wr => ∃ (i : Nat) (tv : Value), i ≤ f.p.ts.length ∧ u = .int .i64 i ∧ Hid (StB w f g3 i 0 tv (.slice none 0 0) wr)) (fun u _ => f.p.ts.length - (intOf u).toNat)
  case atStart => exact ⟨0, _, by omega, rfl, HI⟩
  case round =>
   clear HI
   obtain ⟨i, tv, hi, rfl, HI⟩ := hrel
   by_cases hlt : i < f.p.ts.length
   ·have hii : (i : Int) < (f.p.ts.length : Int) := by omega
    obtain ⟨_, _, _, _, T2, ct2, _, z4, _, _, _, _, hT, _, HTC⟩ := HF.out.thr OK.out hlt
    obtain ⟨S2, cs2, As, csn, sn, z5, _, _, esn, _, hso, hscur, hsc, _⟩ := HF.out.seen OK.out hlt
    rw [z1] at z4
    rw [z2] at z5
    simp only [Value.slice.injEq, true_and] at z4 z5
    obtain ⟨rfl, rfl⟩ := z4
    obtain ⟨rfl, rfl⟩ := z5
    obtain ⟨c2, c3, c4, c9⟩ := HFC.out _ HI.out.bel
    have hTw := Nat.lt_of_lt_of_le hT HI.out.bel.size
    have hSw : S2 < wr.heap.size := by obtain ⟨cur, hc⟩ := hscur; exact Nat.lt_of_lt_of_le hc.lt HI.out.bel.size
    have hsw := HSN.out i
    have hsl : f.sn.getD i [] = sn := by rw [List.getD_eq_getElem?_getD, esn]; rfl
    rw [hsl] at hsw
    have HLX : Hid (thI f i = { thrN f i with sn := sn }) := by show thI f i = _; unfold thI; rw [hsl]
    have HSO := Lib.hid hso
    have s0 := cell_later hsc HI.out.bel
    obtain ⟨x, hx⟩ : ∃ x, thrN f i = x := ⟨_, rfl⟩
    rw [hx] at HLX HTC
    have hld := th_load (q := wr) (b := T2) (off := i * 14) (x := x) (v := .slice none 0 0) (fun j u hu => (HTC wr HI.out.bel).2.2 j u (by have := (List.getElem?_eq_some_iff.1 hu).1; rw [thP_length] at this; exact this) hu)
    clear hscur hsc hso hsl HTC hx
    go_wp2_with (refine wpList_load_known rfl _ _ rfl T2 (i * 14) rfl _ hld ?_)
    have hbx : Below wr.heap.size wr (wr.alloc (.cells (thC x (.slice none 0 0)) 73)) := (Below.refl _ _).alloc (Nat.le_refl _) _
    have lx := Lies.made wr 73 (thC x (.slice none 0 0))
    refine (clone16 sn As csn _ (SeqS.of_owns (owned_below (owned_below HSO.out HI.out.bel) hbx)) hsw).mono ?_
    rintro e w3 ⟨v, rfl, hov, hb3⟩
    obtain ⟨Av, cv, rfl, _⟩ := owns_form hov
    have hl3 := lx.below hb3 lx.lt
    obtain ⟨N5, hN5⟩ : ∃ N, wr.heap.size = N := ⟨_, rfl⟩
    rw [hN5] at hl3
    have hi3 := HI.out.later (then_ hbx hb3)
    have hN0 : w.heap.size ≤ N5 := by rw [← hN5]; exact HI.out.bel.size
    have hg5 : g3 ≠ N5 := by have := HI.out.box.lt; omega
    have hov2 := owns_mono hov (show w.heap.size ≤ (wr.alloc (.cells (thC x (.slice none 0 0)) 73)).heap.size by rw [World.size_alloc]; omega)
    have hl4 := hl3.put 13 (.slice Av sn.length cv)
    have k4 := Kept.put w3 N5 13 (.slice Av sn.length cv)
    have hov4 := owns_put hov2 hl3 (by decide) 13 (.slice Av sn.length cv)
    have f13 := hl3.free 13
    have c13 := (hl3.cell 13).trans (show _ = some (Value.slice none 0 0) from rfl)
    have hlt5 := hl3.lt
    have HI3 := Lib.hid hi3
    have HL4 : Hid (Lies (w3.setCell ⟨N5, 13, none⟩ (.slice Av sn.length cv)) N5 73 (thC x (.slice Av sn.length cv))) := hl4
    have HOV := Lib.hid hov4
    have HTV : Hid (∀ r, tv.ownBlock = some r → r < N5) := fun r e => by
     obtain ⟨ps, _, h2, _⟩ := HI.out.ts
     have := (own_lt17 h2 e).2
     omega
    have HL3 := Lib.hid hl3
    clear hbx lx hov hb3 hi3 hov2 hl4 hov4 hl3 HI HSO hld s0 c2 c3 c4 c9 hTw hSw
    rw [hN5]
    go_upto_region 8 with (fail)
    have HI5 : Hid (StB w f g3 i 0 tv (.slice none 0 0) (w3.setCell ⟨N5, 13, none⟩ (.slice Av sn.length cv))) := HI3.out.keptS k4 (fun r e cur h1 (h2 : r = N5) => by
     subst h2
     exact ⟨(h1.same HL3.out).1, fun e3 => Nat.lt_irrefl _ (HTV.out _ e3)⟩) (fun r hr (e : r = N5) => by omega)
    clear HI3 HL3 HTV k4 f13 c13 hlt5
    generalize w3.setCell ⟨N5, 13, none⟩ (.slice Av sn.length cv) = w5 at *
    have hbx := (HI5.out.box.cell 0).trans (show _ = some tv from rfl)
    have hgl := HI5.out.box.lt
    obtain ⟨ps, hps, hto, hte⟩ := id HI5.out.ts
    rw [thsF_length] at hto
    obtain ⟨At, ct9, rfl, _⟩ := owns_form hto
    have hld := th_load0 HL4.out
    have hb6 : Below w5.heap.size w5 (w5.alloc (.cells (thP (x, Value.slice Av sn.length cv)).toArray 73)) := (Below.refl _ _).alloc (Nat.le_refl _) _
    have HTO := Lib.hid (owned_below hto hb6)
    have HSQ := Lib.hid (seq_oneL (sz := 14) (Lies.made w5 73 (thP (x, Value.slice Av sn.length cv)).toArray) (thP_length _))
    have HON := Lib.hid (thP_one (x, Value.slice Av sn.length cv) rfl)
    have hb9 := hb6.size
    have hw9 := HI5.out.bel.size
    clear hto hb6
    go_wp2_with (first | refine wpList_load_known rfl _ _ rfl N5 0 rfl _ hld ?_ | refine wpList_lit1_known rfl _ 73 _ rfl (thP (x, Value.slice Av sn.length cv)) 14 _ _ rfl Tryz.underlying35 infoThT (by decide) (by decide) (thP_length _) ?_ | (at_builtin; refine append_argS (w5.alloc (.cells (thP (x, Value.slice Av sn.length cv)).toArray 73)) 14 rfl (.tmp 44) (.tmp 46) 35 rfl w.heap.size 73 _ 128 Tryz.underlying35 infoThT rfl (by decide) _ i _ rfl HTO.out (some ⟨w5.heap.size, 0, none⟩) 1 1 rfl _ HSQ.out HON.out (by unfold maxLen; omega) (by omega) (Nat.le_trans hw9 hb9) ?_))
    intro v7 w7 ho7 _ hg7
    obtain ⟨A7, c7, rfl, _⟩ := owns_form ho7
    have k7 := (Kept.alloc (fun k => (Value.slice At i ct9).ownBlock = some k) w5 (.cells (thP (x, Value.slice Av sn.length cv)).toArray 73)).trans (Kept.of_grown hg7) (fun _ _ h => h)
    have no7 : ∀ {r e cur}, Lies w5 r e cur → e ≠ 73 → ¬ (Value.slice At i ct9).ownBlock = some r := fun {r e cur} h4 h5 h6 => by
     obtain ⟨ps, _, h2, _⟩ := HI5.out.ts
     exact h5 (own_same h2 h4 h6)
    have hb7 := HI5.out.box.kept k7 (no7 HI5.out.box (by decide))
    have q0 := (hb7.cell 0).trans (show _ = some (Value.slice At i ct9) from rfl)
    have q1 := hb7.free 0
    have q2 := hb7.lt
    have hn7 : OwnTs w7 w.heap.size (.slice A7 (i + 1) c7) (thsF f (i + 1)) := by
     refine ⟨ps ++ [({ x with sn := sn }, .slice Av sn.length cv)], by rw [List.map_append, hps, thsF_succ, HLX.out]; rfl, ?_, fun p hp => ?_⟩
     ·rw [thsF_length, rowsOf_append, show rowsOf thP [(({ x with sn := sn } : Th), Value.slice Av sn.length cv)] = thP (x, .slice Av sn.length cv) by unfold rowsOf; simp; rfl]; exact ho7
     ·rcases List.mem_append.1 hp with hp | hp
      ·exact (hte p hp).kept k7 (fun r cur hl => no7 hl (by decide))
      ·simp only [List.mem_singleton] at hp
       subst hp
       exact (ownL_of HOV.out).kept k7 (fun r cur hl => no7 hl (by decide))
    have HI9 := Lib.hid (HI5.out.pushT k7 hn7)
    clear ho7 hg7 k7 no7 hb7 hn7 hbx hgl hte HTO HSQ HON HL4 HOV HI5 hld hps HLX
    go_wp2
    go_roundw
    case rel => exact ⟨i + 1, _, by omega, by go_num, HI9⟩
    case measure => simp [intOf]; omega
   ·obtain rfl : i = f.p.ts.length := by omega
    obtain ⟨_, _, c4, c9⟩ := HFC.out _ HI.out.bel
    go_wp2_with fail
    clear c4 c9
    go_loopw [55] (fun u wr => ∃ (j : Nat) (rv : Value), j ≤ f.p.rs.length ∧ u = .int .i64 j ∧ Hid (StB w f g3 f.p.ts.length j tv rv wr)) (fun u _ => f.p.rs.length - (intOf u).toNat)
    case atStart => exact ⟨0, _, by omega, rfl, HI⟩
    case round =>
     clear HI hi hlt
     obtain ⟨j, rv, hj, rfl, HI⟩ := hrel
     by_cases hlt : j < f.p.rs.length
     ·have hjj : (j : Int) < (f.p.rs.length : Int) := by omega
      obtain ⟨r, cap, pre, post, z6, _, _, _, hpl, hrg, hcc⟩ := HF.out.lane OK.out (i := (j : Int)) (by omega) (by omega)
      rw [z3] at z6
      simp only [Value.slice.injEq, true_and] at z6
      obtain ⟨rfl, rfl⟩ := z6
      rw [Int.toNat_natCast] at hpl hcc
      obtain ⟨_, _, c4, c9⟩ := HFC.out _ HI.out.bel
      have hrw := Nat.lt_of_lt_of_le hrg.lt HI.out.bel.size
      have HSTA := Lib.hid (rgState (hrg.later HI.out.bel) hpl)
      have HCC := Lib.hid (fun (q : World) (hq : Below w.heap.size w q) => cell_later hcc hq)
      have hrk := hrg.1
      obtain ⟨x, hx⟩ : ∃ x, lnN f (j : Int) = x := ⟨_, rfl⟩
      rw [hx] at HSTA HCC hrk
      have HX : Hid (rsOf (lnN f (j : Int)) = rsOf x ∧ (x.R.h8.take x.R.rd).length = x.R.rd) := ⟨by rw [hx], by rw [List.length_take, hrk.1]; have := hrk.2.1.2.2.2.1; omega⟩
      clear hrg hcc hrk hx hpl
      go_wp2_with fail
      refine HSTA.out.mono ?_
      rintro e w3 ⟨A1, k1, A2, k2, rfl, ho1, ho2, hb3⟩
      have HI3 := Lib.hid (HI.out.later hb3)
      have hwr := HI.out.bel.size
      have HO1 := Lib.hid (owns_mono ho1 hwr)
      have HO2 := Lib.hid (owns_mono ho2 hwr)
      clear ho1 ho2 hb3 HI HSTA c4 c9 hrw
      go_upto_region 14 with (fail)
      have hb4 : Below w3.heap.size w3 (w3.alloc (.cells #[.int .u64 (x.R.tail : Int), .slice A1 x.R.rd k1, .bool x.R.cl, .slice A2 x.R.L.length k2] 76)) := (Below.refl _ _).alloc (Nat.le_refl _) _
      have l4 := Lies.made w3 76 #[.int .u64 (x.R.tail : Int), .slice A1 x.R.rd k1, .bool x.R.cl, .slice A2 x.R.L.length k2]
      have HI4 := Lib.hid (HI3.out.later hb4)
      have HO14 := Lib.hid (owned_below HO1.out hb4)
      have HO24 := Lib.hid (owned_below HO2.out hb4)
      have HRV : Hid (∀ r, rv.ownBlock = some r → r < w3.heap.size) := fun r e => by
       obtain ⟨qs, _, h2, _⟩ := HI3.out.rs
       exact (own_lt17 h2 e).2
      have HN0 := Lib.hid HI3.out.bel.size
      obtain ⟨_, _, c4, c9⟩ := HFC.out _ HI4.out.bel
      have cc := HCC.out _ HI4.out.bel
      have crl := World.block_lt_of_cell? _ _ cc
      have c2 := (l4.cell 2).trans (show _ = some (Value.bool x.R.cl) from rfl)
      have f2 := l4.free 2
      have n2 := l4.lt
      have L4 := Lib.hid l4
      clear hb4 l4 HI3 HO1 HO2 HCC
      generalize w3.alloc (.cells #[.int .u64 (x.R.tail : Int), .slice A1 x.R.rd k1, .bool x.R.cl, .slice A2 x.R.L.length k2] 76) = w4 at *
      generalize w3.heap.size = N7 at *
      go_upto_region 15 with (fail)
      have hl5 := L4.out.put 2 (.bool x.cl)
      have k5 := Kept.put w4 N7 2 (.bool x.cl)
      have n7 : ∀ {r e cur}, Lies w4 r e cur → e ≠ 76 → ¬ oneRow N7 r := fun {r e cur} h4 h5 (h6 : r = N7) => by subst h6; exact h5 (h4.same L4.out).1
      have HI5 := Lib.hid (HI4.out.keptR k5 (fun r e cur h1 (h2 : r = N7) => by
       subst h2
       exact ⟨(h1.same L4.out).1, fun e3 => Nat.lt_irrefl _ (HRV.out _ e3)⟩) (fun r hr (e : r = N7) => by have := HN0.out; omega))
      have HO15 := Lib.hid (owns_kept HO14.out k5 (fun r cur _ hl => n7 hl (by decide)))
      have HO25 := Lib.hid (owns_kept HO24.out k5 (fun r cur _ hl => n7 hl (by decide)))
      have HL5 : Hid (Lies (w4.setCell ⟨N7, 2, none⟩ (.bool x.cl)) N7 76 (rgP (rsOf x, .slice A1 x.R.rd k1, .slice A2 x.R.L.length k2)).toArray) := hl5
      clear hl5 k5 n7 HI4 HRV L4 HO14 HO24 c4 c9 cc crl c2 f2 n2 HN0
      generalize w4.setCell ⟨N7, 2, none⟩ (.bool x.cl) = w5 at *
      have hbx := (HI5.out.box.cell 1).trans (show _ = some rv from rfl)
      have hgl := HI5.out.box.lt
      obtain ⟨qs, hqs, hto, hte⟩ := id HI5.out.rs
      rw [rgsF_length] at hto
      obtain ⟨At, ct9, rfl, _⟩ := owns_form hto
      have r0 := (HL5.out.cell 0).trans (show _ = some (Value.int .u64 (x.R.tail : Int)) from rfl)
      have r1 := (HL5.out.cell 1).trans (show _ = some (Value.slice A1 x.R.rd k1) from rfl)
      have r2 := (HL5.out.cell 2).trans (show _ = some (Value.bool x.cl) from rfl)
      have r3 := (HL5.out.cell 3).trans (show _ = some (Value.slice A2 x.R.L.length k2) from rfl)
      have rl := HL5.out.lt
      have hb6 : Below w5.heap.size w5 (w5.alloc (.cells (rgP (rsOf x, .slice A1 x.R.rd k1, .slice A2 x.R.L.length k2)).toArray 76)) := (Below.refl _ _).alloc (Nat.le_refl _) _
      have HTO := Lib.hid (owned_below hto hb6)
      have HSQ := Lib.hid (seq_oneL (sz := 4) (Lies.made w5 76 (rgP (rsOf x, .slice A1 x.R.rd k1, .slice A2 x.R.L.length k2)).toArray) (rgP_length _))
      have HON : Hid (∀ u ∈ rgP (rsOf x, Value.slice A1 x.R.rd k1, Value.slice A2 x.R.L.length k2), u.oneCell' = true) := fun u hu => by
       unfold rgP at hu
       simp at hu
       rcases hu with rfl | rfl | rfl | rfl <;> rfl
      have hb9 := hb6.size
      have hw9 := HI5.out.bel.size
      clear hto hb6
      go_wp2_with (first | refine wpList_lit1_known rfl _ 76 _ rfl (rgP (rsOf x, Value.slice A1 x.R.rd k1, Value.slice A2 x.R.L.length k2)) 4 _ _ rfl Tryz.underlying36 infoRsT (by decide) (by decide) (rgP_length _) ?_ | (at_builtin; refine append_argS (w5.alloc (.cells (rgP (rsOf x, .slice A1 x.R.rd k1, .slice A2 x.R.L.length k2)).toArray 76)) 4 rfl (.tmp 76) (.tmp 78) 36 rfl w.heap.size 76 _ 64 Tryz.underlying36 infoRsT rfl (by decide) _ j _ rfl HTO.out (some ⟨w5.heap.size, 0, none⟩) 1 1 rfl _ HSQ.out HON.out (by unfold maxLen; omega) (by omega) (Nat.le_trans hw9 hb9) ?_))
      intro v7 w7 ho7 _ hg7
      obtain ⟨A7, c7, rfl, _⟩ := owns_form ho7
      have k7 := (Kept.alloc (fun k => (Value.slice At j ct9).ownBlock = some k) w5 (.cells (rgP (rsOf x, .slice A1 x.R.rd k1, .slice A2 x.R.L.length k2)).toArray 76)).trans (Kept.of_grown hg7) (fun _ _ h => h)
      have no7 : ∀ {r e cur}, Lies w5 r e cur → e ≠ 76 → ¬ (Value.slice At j ct9).ownBlock = some r := fun {r e cur} h4 h5 h6 => by
       obtain ⟨ps, _, h2, _⟩ := HI5.out.rs
       exact h5 (own_same h2 h4 h6)
      have hb7 := HI5.out.box.kept k7 (no7 HI5.out.box (by decide))
      have q0 := (hb7.cell 1).trans (show _ = some (Value.slice At j ct9) from rfl)
      have q1 := hb7.free 1
      have q2 := hb7.lt
      have hn7 : OwnRs w7 w.heap.size (.slice A7 (j + 1) c7) (rgsF f (j + 1)) := by
       refine ⟨qs ++ [(rsOf x, .slice A1 x.R.rd k1, .slice A2 x.R.L.length k2)], by rw [List.map_append, hqs, rgsF_succ, HX.out.1]; rfl, ?_, fun p hp => ?_⟩
       ·rw [rgsF_length, rowsOf_append, show rowsOf rgP [(rsOf x, Value.slice A1 x.R.rd k1, Value.slice A2 x.R.L.length k2)] = rgP (rsOf x, .slice A1 x.R.rd k1, .slice A2 x.R.L.length k2) by unfold rowsOf; simp]; exact ho7
       ·rcases List.mem_append.1 hp with hp | hp
        ·exact ⟨(hte p hp).1.kept k7 (fun r cur hl => no7 hl (by decide)), (hte p hp).2.kept k7 (fun r cur hl => no7 hl (by decide))⟩
        ·simp only [List.mem_singleton] at hp
         subst hp
         refine ⟨?_, (ownL_of HO25.out).kept k7 (fun r cur hl => no7 hl (by decide))⟩
         have h1 := (ownL_of HO15.out).kept k7 (fun r cur hl => no7 hl (by decide))
         show OwnL w7 w.heap.size _ 1 (x.R.h8.take x.R.rd).length _ _
         rw [HX.out.2]; exact h1
      have HI9 := Lib.hid (HI5.out.pushR k7 hn7)
      clear ho7 hg7 k7 no7 hb7 hn7 hbx hgl hte HTO HSQ HON HL5 HO15 HO25 HI5 hqs HX r0 r1 r2 r3 rl
      go_wp2
      go_roundw
      case rel => exact ⟨j + 1, _, by omega, by go_num, HI9⟩
      case measure => simp [intOf]; omega
     ·obtain rfl : j = f.p.rs.length := by omega
      have hq := HI.out
      obtain ⟨ps, _, h2, _⟩ := id hq.ts
      rw [thsF_length] at h2
      obtain ⟨At, ct9, rfl, _⟩ := owns_form h2
      obtain ⟨qs, _, h3, _⟩ := id hq.rs
      rw [rgsF_length] at h3
      obtain ⟨Ar, cr9, rfl, _⟩ := owns_form h3
      have b0 := (hq.box.cell 0).trans (show _ = some (Value.slice At f.p.ts.length ct9) from rfl)
      have b1 := (hq.box.cell 1).trans (show _ = some (Value.slice Ar f.p.rs.length cr9) from rfl)
      have b2 := (hq.box.cell 2).trans (show _ = some (Value.int .u64 (f.now : Int)) from rfl)
      have b3 := (hq.box.cell 3).trans (show _ = some (Value.int .u64 (f.rds : Int)) from rfl)
      have b4 := (hq.box.cell 4).trans (show _ = some (Value.bool f.en) from rfl)
      have bl := hq.box.lt
      have e0 := (hq.res.cell 0).trans (show _ = some (Value.slice none 0 0) from rfl)
      have e1 := (hq.res.cell 1).trans (show _ = some (Value.slice none 0 0) from rfl)
      have e2 := (hq.res.cell 2).trans (show _ = some (Value.int .u64 0) from rfl)
      have e3 := (hq.res.cell 3).trans (show _ = some (Value.int .u64 0) from rfl)
      have e4 := (hq.res.cell 4).trans (show _ = some (Value.bool false) from rfl)
      have f0 := hq.res.free 0
      have f1 := hq.res.free 1
      have f2 := hq.res.free 2
      have f3 := hq.res.free 3
      have f4 := hq.res.free 4
      have el := hq.res.lt
      have HQ := Lib.hid hq
      clear hq h2 h3
      have hr5 := ((((HQ.out.res.put 0 (.slice At f.p.ts.length ct9)).put 1 (.slice Ar f.p.rs.length cr9)).put 2 (.int .u64 (f.now : Int))).put 3 (.int .u64 (f.rds : Int))).put 4 (.bool f.en)
      have hk5 := ((((Kept.put wr w.heap.size 0 (.slice At f.p.ts.length ct9)).trans (Kept.put _ w.heap.size 1 (.slice Ar f.p.rs.length cr9)) (fun _ _ h => h)).trans (Kept.put _ w.heap.size 2 (.int .u64 (f.now : Int))) (fun _ _ h => h)).trans (Kept.put _ w.heap.size 3 (.int .u64 (f.rds : Int))) (fun _ _ h => h)).trans (Kept.put _ w.heap.size 4 (.bool f.en)) (fun _ _ h => h)
      have HK := Lib.hid hk5
      have g0 := Lib.hid ((hr5.cell 0).trans (show _ = some (Value.slice At f.p.ts.length ct9) from rfl))
      have g1 := Lib.hid ((hr5.cell 1).trans (show _ = some (Value.slice Ar f.p.rs.length cr9) from rfl))
      have g2 := Lib.hid ((hr5.cell 2).trans (show _ = some (Value.int .u64 (f.now : Int)) from rfl))
      have g4 := Lib.hid ((hr5.cell 3).trans (show _ = some (Value.int .u64 (f.rds : Int)) from rfl))
      have g5 := Lib.hid ((hr5.cell 4).trans (show _ = some (Value.bool f.en) from rfl))
      clear hr5 hk5
      go_wp2
      refine bodyPost_ret (v := .agg (stC (.slice At f.p.ts.length ct9) (.slice Ar f.p.rs.length cr9) f.now f.rds f.en)) (by simp [results, Tryz.results21, go_sem, g0.out, g1.out, g2.out, g4.out, g5.out]) rfl ?_
      have no : ∀ r e cur, Lies wr r e cur → e ≠ 39 → ¬ oneRow w.heap.size r := fun r e cur h1 h2 (h3 : r = w.heap.size) => by subst h3; exact h2 (h1.same HQ.out.res).1
      have r1 := ownTs_kept HQ.out.ts HK.out (fun r e cur hl he => no r e cur hl (by rcases he with rfl | rfl <;> decide))
      have r2 := ownRs_kept HQ.out.rs HK.out (fun r e cur hl he => no r e cur hl (by rcases he with rfl | rfl | rfl <;> decide))
      refine ⟨At, ct9, Ar, cr9, ?_, ?_, ?_, HQ.out.bel.trans (HK.out.below HQ.out.bel.size (fun k hk (e : k = w.heap.size) => by omega))⟩
      ·show _ = Ending.returned (.agg (stC (.slice At (thsF f f.p.ts.length).length ct9) (.slice Ar (rgsF f f.p.rs.length).length cr9) f.now f.rds f.en))
       rw [thsF_length, rgsF_length]
      ·show OwnTs _ _ (.slice At (thsF f f.p.ts.length).length ct9) (thsF f f.p.ts.length)
       rw [show Value.slice At (thsF f f.p.ts.length).length ct9 = Value.slice At f.p.ts.length ct9 by rw [thsF_length]]; exact r1
      ·show OwnRs _ _ (.slice Ar (rgsF f f.p.rs.length).length cr9) (rgsF f f.p.rs.length)
       rw [show Value.slice Ar (rgsF f f.p.rs.length).length cr9 = Value.slice Ar f.p.rs.length cr9 by rw [rgsF_length]]; exact r2
end
def askX (l : List In) (x : Th) : Ak := (nxZ l { x with sn := [] }).2.1
def gaveB (f : Fb) (a : Ak) : Bool := if a.kd = 10 then decide (a.tk < (lnN f a.rg).R.tail) else if a.kd = 11 then decide (a.tk < headV (lnN f a.rg).R a.rd) else true
section
variable {w w' : World} {B F : Nat} {f : Fb} {z : Fv}
set_option maxHeartbeats 8000000 in
set_option maxRecDepth 100000 in
theorem fbGave (t : Nat) (ht : t < f.p.ts.length) (x : Th) (v : Value) (hx : thOk x) (hp : pgOk f.p) (ll : f.ln.length = f.p.rs.length) (h : FabAt w B F f z) (hr : (askX (codeN f t) x).kd = 10 ∨ (askX (codeN f t) x).kd = 11 → 0 ≤ (askX (codeN f t) x).rg ∧ (askX (codeN f t) x).rg < (f.p.rs.length : Int)) :
  Calls Tryz.prog 61 #[.pointer (some ⟨F, 0, none⟩), .int .i64 (t : Int), .agg (thC x v)] w fun q w' => q = .returned (.bool (gaveB f (askX (codeN f t) x))) ∧ Below w.heap.size w w' := by
 have hb := (Below.refl w.heap.size w).alloc (Nat.le_refl _) (.cells (thC x v) 73)
 have lb := Lies.made w 73 (thC x v)
 have c13 := (lb.cell 13).trans (show _ = some v from rfl)
 have f13 := lb.free 13
 have hb2 : Below w.heap.size w (w.alloc (.cells (thC x (.slice none 0 0)) 73)) := (Below.refl _ _).alloc (Nat.le_refl _) _
 have lb2 := Lies.made w 73 (thC x (.slice none 0 0))
 have hq := h.pg.pg
 have HB := Lib.hid hb2
 have HL := Lib.hid lb2
 have HF := Lib.hid (h.later hb2)
 have hlf := h.lt
 obtain ⟨l, hl⟩ : ∃ l, codeN f t = l := ⟨_, rfl⟩
 have hgl : f.p.ts[t]? = some l := by
  rw [← hl]; unfold codeN
  rw [List.getD_eq_getElem?_getD, List.getElem?_eq_getElem ht]; rfl
 obtain ⟨qb, qo, A, c, eQ, hcq, hin⟩ := hq.2.at_ hgl
 obtain ⟨hd1, hd2⟩ := hq.2.form
 have hin0 : ∀ i ∈ l, inOk i := hp.2 _ (List.mem_of_getElem? hgl)
 rw [hl] at hr
 rw [hl]
 have HR := Lib.hid hr
 have HC : Hid (∀ q, Below w.heap.size w q → q.cell? ⟨F, 1, none⟩ = some (.slice (some ⟨qb, qo, none⟩) f.p.ts.length z.d) ∧ q.cell? ⟨qb, qo + t, none⟩ = some (.slice A l.length c) ∧ InsAt q A c l) := fun q hq => by
  obtain ⟨_, c1, _⟩ := (h.later hq).cells
  rw [eQ] at c1
  exact ⟨c1, cell_later hcq hq, hin.later hq⟩
 obtain ⟨y, hy⟩ : ∃ y, ({ x with sn := [] } : Th) = y := ⟨_, rfl⟩
 have hyok : thOk y ∧ y.sn = [] := by
  subst hy
  obtain ⟨a1, a2, a3, a4, a5, a6, _⟩ := hx
  exact ⟨⟨a1, a2, a3, a4, a5, a6, fun n hn => by cases hn⟩, rfl⟩
 have HYC : Hid (thC x (.slice none 0 0) = thC y (.slice none 0 0)) := by subst hy; exact Lib.hid rfl
 have HAX : Hid (askX l x = (nxZ l y).2.1) := by show (nxZ l { x with sn := [] }).2.1 = _; rw [hy]
 have KX := Lib.hid hyok
 have KI := Lib.hid hin0
 have hlz : f.p.ts.length ≤ z.d := hd1
 have hti : (t : Int) < (f.p.ts.length : Int) := by omega
 clear hb lb hb2 lb2 h hq hgl hcq hin hin0 hr hl hyok hx hp
 obtain ⟨gb, hgb⟩ : ∃ b, gaveB f (askX l x) = b := ⟨_, rfl⟩
 rw [hgb]
 have HGB := Lib.hid hgb
 clear hgb
 go_enter Tryz.func61, Tryz.ntmps61
 go_upto_region 2 with (fail)
 replace HL : Hid (Lies (w.alloc (.cells (thC x (.slice none 0 0)) 73)) w.heap.size 73 (thC y (.slice none 0 0))) := by show Lies _ _ _ _; rw [← HYC.out]; exact HL.out
 generalize w.alloc (.cells (thC x (.slice none 0 0)) 73) = w1 at *
 clear c13 f13 hy HYC
 obtain ⟨zt, hzt⟩ : ∃ u, (nxZ l y).1 = u := ⟨_, rfl⟩
 obtain ⟨za, hza⟩ : ∃ u, (nxZ l y).2.1 = u := ⟨_, rfl⟩
 obtain ⟨er, her⟩ : ∃ u, (nxZ l y).2.2 = u := ⟨_, rfl⟩
 have hnz : nxZ l y = (zt, za, er) := by rw [← hzt, ← hza, ← her]
 have DOC : Hid (∀ q, Below w1.heap.size w1 q → Calls Tryz.prog 76 #[.slice A l.length c, .agg (thC y (.slice none 0 0))] q (NxPost (zt, za, er) q)) := fun q hq => by
  rw [← hnz]
  have := nextU l A c y none 0 q (HC.out q (HB.out.trans (hq.mono HB.out.size))).2.2 KI.out KX.out.1 (seqS_nil q y KX.out.2) (by rw [KX.out.2]; decide)
  rw [KX.out.2] at this
  exact this
 rw [hza] at HAX
 clear hzt hza her hnz
 have hF1 := HF.out.lt
 have hNl := HL.out.lt
 have HCW := Lib.hid (fun (q : World) (hq : Below w1.heap.size w1 q) => And.intro (HC.out q (HB.out.trans (hq.mono HB.out.size))) (HL.out.below hq HL.out.lt))
 refine wp_region_relyx (lwS w1 73 63 14 16 11 thZ 15 17 12 akZ) (fkV w1.heap.size [.eq (.pointer (some ⟨F, 0, none⟩)), .eq (.pointer (some ⟨F, 0, none⟩)), .eq (.pointer (some ⟨F, 0, none⟩)), .eq (.pointer (some ⟨F, 1, none⟩)), .eq (.slice (some ⟨qb, qo, none⟩) f.p.ts.length z.d), .eq (.int .i64 (t : Int)), .eq (.pointer (some ⟨qb, qo + t, none⟩)), .eq (.slice A l.length c), .eq (.agg (thC y (.slice none 0 0))), .tup zt [.agg (akC za), .int .i64 er], .tup zt [.agg (akC za), .int .i64 er], .st zt, .eq (.agg (akC za)), .eq (.int .i64 er), .any, .any, .any, .any, .any]) [some 12, some 13, some 14, some 15, some 16, some 17, some 18, some 19, some 20, some 21, some 11, some 22, some 23, some 24, some 7, some 8, none, none, some 9] [[], [0], [1], [2], [3], [], [4, 5], [6], [], [7, 8], [9], [10], [10], [10], [], [], [14, 11], [15, 12], [13]] [[], [0], [0, 1], [1, 2], [2, 3], [], [3, 4, 5], [4, 5, 6], [], [6, 7, 8], [7, 8, 9], [9], [9, 16], [9, 16, 17], [], [], [0, 1, 2, 3, 4, 5, 6, 7, 8, 9, 14], [0, 1, 2, 3, 4, 5, 6, 7, 8, 9, 14, 15, 16], [0, 1, 2, 3, 4, 5, 6, 7, 8, 9, 10, 13, 14, 15, 16, 17]] [[2, 3, 4, 5, 6, 7, 8, 9, 10, 11, 12, 13, 14, 15], [3, 4, 5, 6, 7, 8, 9, 10, 11, 12, 13, 14, 15], [4, 5, 6, 7, 8, 9, 10, 11, 12, 13, 14, 15], [5, 6, 7, 8, 9, 10, 11, 12, 13, 14, 15], [0, 5, 7, 8, 9, 10, 11, 12, 13, 14, 15], [0, 1, 2, 3, 4, 7, 8, 9, 10, 11, 12, 13, 14, 15], [0, 1, 8, 9, 10, 11, 12, 13, 14, 15], [0, 1, 2, 8, 10, 11, 12, 13, 14, 15], [0, 1, 2, 3, 4, 5, 6, 7, 10, 11, 12, 13, 14, 15], [0, 1, 2, 3, 11, 12, 13, 14, 15], [0, 1, 2, 3, 4, 5, 14, 15], [0, 1, 2, 3, 4, 5, 6, 10, 12, 13, 14, 15], [0, 1, 2, 3, 4, 5, 6, 10, 11, 13, 14, 15], [0, 1, 2, 3, 4, 5, 6, 10, 11, 12, 14, 15], [0, 1, 2, 3, 4, 5, 6, 7, 8, 9, 10, 11, 12, 13, 15], [0, 1, 2, 3, 4, 5, 6, 7, 8, 9, 10, 11, 12, 13, 14], [10, 11, 12, 13, 15], [10, 11, 12, 13], [11, 12]] [0, 1, 2, 3, 4, 5, 6, 7, 8, 9, 10, 11, 12, 13, 14, 15, 16, 17, 18] 19 (by kernel_rfl) (by kernel_rfl) (by kernel_rfl) (by kernel_rfl) ?rS (fun j h1 h2 => absurd (Nat.lt_of_lt_of_le h1 (Nat.le_trans (by decide) h2)) (Nat.lt_irrefl _)) ?rT ?rE
 case rS => exact lw_start
 case rT =>
  refine RelyStepsX.cons (RelyStepX.mk [] [2, 3, 4, 5, 6, 7, 8, 9, 10, 11, 12, 13, 14, 15] rfl rfl rfl (fun xv Lv wS hS hL hLd hV bq hb K hK => ?_)) ?_
  ·clear hV
   simp only [putsOf, List.foldl_cons, List.foldl_nil, List.getD_cons_zero, List.getD_cons_succ, List.getD_nil, cond_true, cond_false, Act.put, List.setIfInBounds_toArray, List.set_cons_zero, List.set_cons_succ] at hb
   subst hb
   rw [if_pos (by rfl)]
   go_wp2_with fail
   exact hK.out _ _ ⟨_, rfl, lw_op (i := 0) rfl hS, rfl, AllPX.same _⟩
  refine RelyStepsX.cons (RelyStepX.mk [0] [3, 4, 5, 6, 7, 8, 9, 10, 11, 12, 13, 14, 15] rfl rfl rfl (fun xv Lv wS hS hL hLd hV bq hb K hK => ?_)) ?_
  ·obtain ⟨h0, _⟩ := hV
   have h0 : xv 0 = _ := h0
   simp only [putsOf, List.foldl_cons, List.foldl_nil, List.getD_cons_zero, List.getD_cons_succ, List.getD_nil, cond_true, cond_false, Act.put, List.setIfInBounds_toArray, List.set_cons_zero, List.set_cons_succ, h0] at hb
   clear h0
   subst hb
   rw [if_pos (by rfl)]
   (have X9 := Nat.lt_of_lt_of_le hF1 hS.1.size)
   go_wp2_with fail
   exact hK.out _ _ ⟨_, rfl, lw_op (i := 1) rfl hS, rfl, AllPX.same _⟩
  refine RelyStepsX.cons (RelyStepX.mk [1] [4, 5, 6, 7, 8, 9, 10, 11, 12, 13, 14, 15] rfl rfl rfl (fun xv Lv wS hS hL hLd hV bq hb K hK => ?_)) ?_
  ·obtain ⟨h1, _⟩ := hV
   have h1 : xv 1 = _ := h1
   simp only [putsOf, List.foldl_cons, List.foldl_nil, List.getD_cons_zero, List.getD_cons_succ, List.getD_nil, cond_true, cond_false, Act.put, List.setIfInBounds_toArray, List.set_cons_zero, List.set_cons_succ, h1] at hb
   clear h1
   subst hb
   rw [if_pos (by rfl)]
   go_wp2_with fail
   exact hK.out _ _ ⟨_, rfl, lw_op (i := 2) rfl hS, rfl, AllPX.same _⟩
  refine RelyStepsX.cons (RelyStepX.mk [2] [5, 6, 7, 8, 9, 10, 11, 12, 13, 14, 15] rfl rfl rfl (fun xv Lv wS hS hL hLd hV bq hb K hK => ?_)) ?_
  ·obtain ⟨h2, _⟩ := hV
   have h2 : xv 2 = _ := h2
   simp only [putsOf, List.foldl_cons, List.foldl_nil, List.getD_cons_zero, List.getD_cons_succ, List.getD_nil, cond_true, cond_false, Act.put, List.setIfInBounds_toArray, List.set_cons_zero, List.set_cons_succ, h2] at hb
   clear h2
   subst hb
   rw [if_pos (by rfl)]
   go_wp2_with fail
   exact hK.out _ _ ⟨_, rfl, lw_op (i := 3) rfl hS, rfl, AllPX.same _⟩
  refine RelyStepsX.cons (RelyStepX.mk [3] [0, 5, 7, 8, 9, 10, 11, 12, 13, 14, 15] rfl rfl rfl (fun xv Lv wS hS hL hLd hV bq hb K hK => ?_)) ?_
  ·obtain ⟨h3, _⟩ := hV
   have h3 : xv 3 = _ := h3
   simp only [putsOf, List.foldl_cons, List.foldl_nil, List.getD_cons_zero, List.getD_cons_succ, List.getD_nil, cond_true, cond_false, Act.put, List.setIfInBounds_toArray, List.set_cons_zero, List.set_cons_succ, h3] at hb
   clear h3
   subst hb
   rw [if_pos (by rfl)]
   (have X4 := (HCW.out _ hS.1).1.1; have X9 := Nat.lt_of_lt_of_le hF1 hS.1.size)
   go_wp2_with fail
   exact hK.out _ _ ⟨_, rfl, lw_op (i := 4) rfl hS, rfl, AllPX.same _⟩
  refine RelyStepsX.cons (RelyStepX.mk [] [0, 1, 2, 3, 4, 7, 8, 9, 10, 11, 12, 13, 14, 15] rfl rfl rfl (fun xv Lv wS hS hL hLd hV bq hb K hK => ?_)) ?_
  ·clear hV
   simp only [putsOf, List.foldl_cons, List.foldl_nil, List.getD_cons_zero, List.getD_cons_succ, List.getD_nil, cond_true, cond_false, Act.put, List.setIfInBounds_toArray, List.set_cons_zero, List.set_cons_succ] at hb
   subst hb
   rw [if_pos (by rfl)]
   go_wp2_with fail
   exact hK.out _ _ ⟨_, rfl, lw_op (i := 5) rfl hS, rfl, AllPX.same _⟩
  refine RelyStepsX.cons (RelyStepX.mk [4, 5] [0, 1, 8, 9, 10, 11, 12, 13, 14, 15] rfl rfl rfl (fun xv Lv wS hS hL hLd hV bq hb K hK => ?_)) ?_
  ·obtain ⟨h4, h5, _⟩ := hV
   have h4 : xv 4 = _ := h4
   have h5 : xv 5 = _ := h5
   simp only [putsOf, List.foldl_cons, List.foldl_nil, List.getD_cons_zero, List.getD_cons_succ, List.getD_nil, cond_true, cond_false, Act.put, List.setIfInBounds_toArray, List.set_cons_zero, List.set_cons_succ, h4, h5] at hb
   clear h4
   clear h5
   subst hb
   rw [if_pos (by rfl)]
   go_wp2_with fail
   exact hK.out _ _ ⟨_, rfl, lw_op (i := 6) rfl hS, rfl, AllPX.same _⟩
  refine RelyStepsX.cons (RelyStepX.mk [6] [0, 1, 2, 8, 10, 11, 12, 13, 14, 15] rfl rfl rfl (fun xv Lv wS hS hL hLd hV bq hb K hK => ?_)) ?_
  ·obtain ⟨h6, _⟩ := hV
   have h6 : xv 6 = _ := h6
   simp only [putsOf, List.foldl_cons, List.foldl_nil, List.getD_cons_zero, List.getD_cons_succ, List.getD_nil, cond_true, cond_false, Act.put, List.setIfInBounds_toArray, List.set_cons_zero, List.set_cons_succ, h6] at hb
   clear h6
   subst hb
   rw [if_pos (by rfl)]
   (have X7 := (HCW.out _ hS.1).1.2.1; have X8 := World.block_lt_of_cell? _ _ X7)
   go_wp2_with fail
   exact hK.out _ _ ⟨_, rfl, lw_op (i := 7) rfl hS, rfl, AllPX.same _⟩
  refine RelyStepsX.cons (RelyStepX.mk [] [0, 1, 2, 3, 4, 5, 6, 7, 10, 11, 12, 13, 14, 15] rfl rfl rfl (fun xv Lv wS hS hL hLd hV bq hb K hK => ?_)) ?_
  ·clear hV
   simp only [putsOf, List.foldl_cons, List.foldl_nil, List.getD_cons_zero, List.getD_cons_succ, List.getD_nil, cond_true, cond_false, Act.put, List.setIfInBounds_toArray, List.set_cons_zero, List.set_cons_succ] at hb
   subst hb
   rw [if_pos (by rfl)]
   have HSS := Lib.hid hS
   clear hS
   refine wp_load_known _ _ rfl w.heap.size 0 rfl _ (th_load0 (HCW.out _ HSS.out.1).2) ?_
   exact hK.out _ _ ⟨_, rfl, lw_pure rfl HSS.out, rfl, AllPX.same _⟩
  refine RelyStepsX.cons (RelyStepX.mk [7, 8] [0, 1, 2, 3, 11, 12, 13, 14, 15] rfl rfl rfl (fun xv Lv wS hS hL hLd hV bq hb K hK => ?_)) ?_
  ·obtain ⟨h7, h8, _⟩ := hV
   have h7 : xv 7 = _ := h7
   have h8 : xv 8 = _ := h8
   simp only [putsOf, List.foldl_cons, List.foldl_nil, List.getD_cons_zero, List.getD_cons_succ, List.getD_nil, cond_true, cond_false, Act.put, List.setIfInBounds_toArray, List.set_cons_zero, List.set_cons_succ, h7, h8] at hb
   clear h7
   clear h8
   subst hb
   rw [if_pos (by rfl)]
   have HSS := Lib.hid hS
   clear hS
   go_wp2_with fail
   refine (DOC.out wS HSS.out.1).mono ?_
   rintro e w' ⟨u, rfl, ho, hbm⟩
   exact hK.out _ _ ⟨_, rfl, lw_below rfl HSS.out hbm, ⟨u, rfl, ownTh_mono ho (lw_le HSS.out)⟩, AllPX.of _ (fun j _ _ h => fkV_below hbm h)⟩
  refine RelyStepsX.cons (RelyStepX.mk [9] [0, 1, 2, 3, 4, 5, 14, 15] rfl rfl rfl (fun xv Lv wS hS hL hLd hV bq hb K hK => ?_)) ?_
  ·obtain ⟨h9, _⟩ := hV
   simp only [putsOf, List.foldl_cons, List.foldl_nil, List.getD_cons_zero, List.getD_cons_succ, List.getD_nil, cond_true, cond_false, Act.put, List.setIfInBounds_toArray, List.set_cons_zero, List.set_cons_succ] at hb
   generalize hy9 : xv 9 = y9 at *
   subst hb
   rw [if_pos (by rfl)]
   have HSS := Lib.hid hS
   clear hS
   obtain ⟨u1, rfl, ho⟩ := h9
   go_wp2_with fail
   exact hK.out _ _ ⟨_, rfl, lw_pure rfl HSS.out, ⟨u1, rfl, ho⟩, AllPX.same _⟩
  refine RelyStepsX.cons (RelyStepX.mk [10] [0, 1, 2, 3, 4, 5, 6, 10, 12, 13, 14, 15] rfl rfl rfl (fun xv Lv wS hS hL hLd hV bq hb K hK => ?_)) ?_
  ·obtain ⟨h10, _⟩ := hV
   simp only [putsOf, List.foldl_cons, List.foldl_nil, List.getD_cons_zero, List.getD_cons_succ, List.getD_nil, cond_true, cond_false, Act.put, List.setIfInBounds_toArray, List.set_cons_zero, List.set_cons_succ] at hb
   generalize hy10 : xv 10 = y10 at *
   subst hb
   rw [if_pos (by rfl)]
   have HSS := Lib.hid hS
   clear hS
   obtain ⟨u1, rfl, ho⟩ := h10
   go_wp2_with fail
   exact hK.out _ _ ⟨_, rfl, lw_pure rfl HSS.out, ho, AllPX.same _⟩
  refine RelyStepsX.cons (RelyStepX.mk [10] [0, 1, 2, 3, 4, 5, 6, 10, 11, 13, 14, 15] rfl rfl rfl (fun xv Lv wS hS hL hLd hV bq hb K hK => ?_)) ?_
  ·obtain ⟨h10, _⟩ := hV
   simp only [putsOf, List.foldl_cons, List.foldl_nil, List.getD_cons_zero, List.getD_cons_succ, List.getD_nil, cond_true, cond_false, Act.put, List.setIfInBounds_toArray, List.set_cons_zero, List.set_cons_succ] at hb
   generalize hy10 : xv 10 = y10 at *
   subst hb
   rw [if_pos (by rfl)]
   have HSS := Lib.hid hS
   clear hS
   obtain ⟨u1, rfl, ho⟩ := h10
   go_wp2_with fail
   exact hK.out _ _ ⟨_, rfl, lw_pure rfl HSS.out, rfl, AllPX.same _⟩
  refine RelyStepsX.cons (RelyStepX.mk [10] [0, 1, 2, 3, 4, 5, 6, 10, 11, 12, 14, 15] rfl rfl rfl (fun xv Lv wS hS hL hLd hV bq hb K hK => ?_)) ?_
  ·obtain ⟨h10, _⟩ := hV
   simp only [putsOf, List.foldl_cons, List.foldl_nil, List.getD_cons_zero, List.getD_cons_succ, List.getD_nil, cond_true, cond_false, Act.put, List.setIfInBounds_toArray, List.set_cons_zero, List.set_cons_succ] at hb
   generalize hy10 : xv 10 = y10 at *
   subst hb
   rw [if_pos (by rfl)]
   have HSS := Lib.hid hS
   clear hS
   obtain ⟨u1, rfl, ho⟩ := h10
   go_wp2_with fail
   exact hK.out _ _ ⟨_, rfl, lw_pure rfl HSS.out, rfl, AllPX.same _⟩
  refine RelyStepsX.cons (RelyStepX.mk [] [0, 1, 2, 3, 4, 5, 6, 7, 8, 9, 10, 11, 12, 13, 15] rfl rfl rfl (fun xv Lv wS hS hL hLd hV bq hb K hK => ?_)) ?_
  ·clear hV
   simp only [putsOf, List.foldl_cons, List.foldl_nil, List.getD_cons_zero, List.getD_cons_succ, List.getD_nil, cond_true, cond_false, Act.put, List.setIfInBounds_toArray, List.set_cons_zero, List.set_cons_succ] at hb
   subst hb
   rw [if_pos (by rfl)]
   have HSS := Lib.hid hS
   clear hS
   go_wp2_with fail
   have hbm := (Below.refl wS.heap.size wS).alloc (Nat.le_refl _) (.cells thZ 73)
   exact hK.out _ _ ⟨_, rfl, lw_made1 rfl HSS.out, trivial, AllPX.of _ (fun j _ _ h => fkV_below hbm h)⟩
  refine RelyStepsX.cons (RelyStepX.mk [] [0, 1, 2, 3, 4, 5, 6, 7, 8, 9, 10, 11, 12, 13, 14] rfl rfl rfl (fun xv Lv wS hS hL hLd hV bq hb K hK => ?_)) ?_
  ·clear hV
   simp only [putsOf, List.foldl_cons, List.foldl_nil, List.getD_cons_zero, List.getD_cons_succ, List.getD_nil, cond_true, cond_false, Act.put, List.setIfInBounds_toArray, List.set_cons_zero, List.set_cons_succ] at hb
   subst hb
   rw [if_pos (by rfl)]
   have HSS := Lib.hid hS
   clear hS
   go_wp2_with fail
   have hbm := (Below.refl wS.heap.size wS).alloc (Nat.le_refl _) (.cells akZ 63)
   exact hK.out _ _ ⟨_, rfl, lw_made2 rfl HSS.out, trivial, AllPX.of _ (fun j _ _ h => fkV_below hbm h)⟩
  refine RelyStepsX.cons (RelyStepX.mk [14, 11] [10, 11, 12, 13, 15] rfl rfl rfl (fun xv Lv wS hS hL hLd hV bq hb K hK => ?_)) ?_
  ·obtain ⟨h14, h11, _⟩ := hV
   simp only [putsOf, List.foldl_cons, List.foldl_nil, List.getD_cons_zero, List.getD_cons_succ, List.getD_nil, cond_true, cond_false, Act.put, List.setIfInBounds_toArray, List.set_cons_zero, List.set_cons_succ] at hb
   generalize hy14 : xv 14 = y14 at *
   generalize hy11 : xv 11 = y11 at *
   subst hb
   rw [if_pos (by rfl)]
   have HSS := Lib.hid hS
   clear hS
   obtain ⟨g, hg, hN, hl⟩ := bk_open HSS.out.2.1 (hLd 14 (by decide +kernel)) hL
   rw [hy14] at hg
   subst hg
   obtain ⟨A5, k5, e5, ho5⟩ := h11
   subst e5
   refine wp_store_row _ _ _ rfl g (thC zt (.slice A5 (zt).sn.length k5)) rfl rfl 73 thZ hl infoTh rfl (thC_one _ rfl) ?_
   exact hK.out _ _ ⟨undef, rfl, lw_store1 rfl HSS.out (hLd 14 (by decide +kernel)) (hLd 11 (by decide +kernel)) hy14 hN hl hy11 (by decide), trivial, AllPX.of _ (fun j hj _ h => fkV_row _ hl (all_typ rfl hj) h)⟩
  refine RelyStepsX.cons (RelyStepX.mk [15, 12] [10, 11, 12, 13] rfl rfl rfl (fun xv Lv wS hS hL hLd hV bq hb K hK => ?_)) ?_
  ·obtain ⟨h15, h12, _⟩ := hV
   simp only [putsOf, List.foldl_cons, List.foldl_nil, List.getD_cons_zero, List.getD_cons_succ, List.getD_nil, cond_true, cond_false, Act.put, List.setIfInBounds_toArray, List.set_cons_zero, List.set_cons_succ] at hb
   generalize hy15 : xv 15 = y15 at *
   generalize hy12 : xv 12 = y12 at *
   subst hb
   rw [if_pos (by rfl)]
   have HSS := Lib.hid hS
   clear hS
   obtain ⟨g, hg, hN, hl⟩ := bk_open HSS.out.2.2 (hLd 15 (by decide +kernel)) hL
   rw [hy15] at hg
   subst hg
   have e7 : y12 = .agg (akC za) := h12
   subst e7
   refine wp_store_row _ _ _ rfl g (akC za) rfl rfl 63 akZ hl infoAk rfl (akC_one _) ?_
   exact hK.out _ _ ⟨undef, rfl, lw_store2 rfl HSS.out (hLd 15 (by decide +kernel)) (hLd 12 (by decide +kernel)) hy15 hN hl hy12 (by decide), trivial, AllPX.of _ (fun j hj _ h => fkV_row _ hl (all_typ rfl hj) h)⟩
  refine RelyStepsX.cons (RelyStepX.mk [13] [11, 12] rfl rfl rfl (fun xv Lv wS hS hL hLd hV bq hb K hK => ?_)) ?_
  ·obtain ⟨h13, _⟩ := hV
   have h13 : xv 13 = _ := h13
   simp only [putsOf, List.foldl_cons, List.foldl_nil, List.getD_cons_zero, List.getD_cons_succ, List.getD_nil, cond_true, cond_false, Act.put, List.setIfInBounds_toArray, List.set_cons_zero, List.set_cons_succ, h13] at hb
   clear h13
   subst hb
   rw [if_pos (by rfl)]
   have HSS := Lib.hid hS
   clear hS
   go_wp2_with fail
   exact hK.out _ _ ⟨_, rfl, lw_pure rfl HSS.out, trivial, AllPX.same _⟩
  exact RelyStepsX.nil
 case rE =>
  intro xv Lv wE hS hLall hV
  have h11 := hV 11 (by decide) (by decide)
  have h12 := hV 12 (by decide) (by decide)
  have h18 := hV 18 (by decide) (by decide)
  clear hV
  obtain ⟨g2, a2, hx2, hN2, hl2, hv2⟩ := bk_done hS.2.2 (hLall 15 (by decide +kernel)) (hLall 17 (by decide +kernel))
  simp only [putsOf, List.foldl_cons, List.foldl_nil, List.getD_cons_zero, List.getD_cons_succ, List.getD_nil, cond_true, cond_false, Act.put, List.setIfInBounds_toArray, List.set_cons_zero, List.set_cons_succ]
  generalize xv 0 = y0 at *
  generalize xv 1 = y1 at *
  generalize xv 2 = y2 at *
  generalize xv 3 = y3 at *
  generalize xv 4 = y4 at *
  generalize xv 5 = y5 at *
  generalize xv 6 = y6 at *
  generalize xv 7 = y7 at *
  generalize xv 8 = y8 at *
  generalize xv 9 = y9 at *
  generalize xv 10 = y10 at *
  generalize xv 11 = y11 at *
  generalize xv 12 = y12 at *
  generalize xv 13 = y13 at *
  generalize xv 14 = y14 at *
  generalize xv 15 = y15 at *
  generalize xv 16 = y16 at *
  generalize xv 17 = y17 at *
  generalize xv 18 = y18 at *
  have hbm := hS.1
  subst hx2
  have e7 : y12 = .agg (akC za) := h12
  rw [hv2] at e7
  injection e7 with e7
  subst e7
  have HL2 := Lib.hid hl2
  have HF2 := Lib.hid (HF.out.later hbm)
  replace HB := Lib.hid (HB.out.trans (hbm.mono HB.out.size))
  clear hS hbm hLall DOC hv2 hl2 h11 h12 HCW HL HF KX KI HC
  generalize wE = w4 at *
  have z0 := (HL2.out.cell 0).trans (show _ = some (.int .i64 za.kd) from rfl)
  have z1 := (HL2.out.cell 1).trans (show _ = some (.int .i64 za.rg) from rfl)
  have z3 := (HL2.out.cell 3).trans (show _ = some (.int .i64 za.rd) from rfl)
  have z4 := (HL2.out.cell 4).trans (show _ = some (.int .u64 (za.tk : Int)) from rfl)
  have zl := HL2.out.lt
  rw [HAX.out] at HR HGB
  clear HL2 HAX
  by_cases k10 : za.kd = 10
  ·obtain ⟨g0, g1⟩ := HR.out (.inl k10)
   obtain ⟨i, hi⟩ : ∃ i : Nat, za.rg = (i : Int) := ⟨za.rg.toNat, by omega⟩
   have hx : f.ln[i]? = some (lnN f za.rg) := by
    rw [hi]; unfold lnN
    rw [Int.toNat_natCast, List.getD_eq_getElem?_getD, List.getElem?_eq_getElem (by omega)]; rfl
   obtain ⟨r, cap, pre, post, ez, q1, q2, q3, q4, q5, q6, _⟩ := HF2.out.lr.at_ hx
   obtain ⟨_, _, _, _, cl4, _⟩ := HF2.out.cells
   rw [ez, ll] at cl4
   rw [ll] at q1
   unfold maxLen at q2
   have HTA := Lib.hid (fun k => rgTail (show RgAt (w4.drewN k) r 97 pre (.bool (lnN f za.rg).cl :: post) (lnN f za.rg).R from q6) q5)
   have hgv : gb = decide (za.tk < (lnN f za.rg).R.tail) := by rw [← HGB.out]; unfold gaveB; rw [if_pos k10]
   rw [hi] at z1 g1
   rw [k10] at z0
   have hFl := HF2.out.lt
   have hrl := q6.lt
   have HGV := Lib.hid hgv
   generalize (lnN f za.rg).R.tail = tl at *
   clear hgv hi hx q6 q5 q4 q3 ez HF2 HR HGB k10 g0
   go_wp2_with fail
   go_quiet ((go_at_call 88; exact quiet_eq (HTA.out _)))
   all_goals
    go_wp2_with fail
    go_ret
    exact ⟨ret_bool (by rw [HGV.out, Bool.eq_iff_iff]), below_drewN HB.out _⟩
  ·by_cases k11 : za.kd = 11
   ·obtain ⟨g0, g1⟩ := HR.out (.inr k11)
    obtain ⟨i, hi⟩ : ∃ i : Nat, za.rg = (i : Int) := ⟨za.rg.toNat, by omega⟩
    have hx : f.ln[i]? = some (lnN f za.rg) := by
     rw [hi]; unfold lnN
     rw [Int.toNat_natCast, List.getD_eq_getElem?_getD, List.getElem?_eq_getElem (by omega)]; rfl
    obtain ⟨r, cap, pre, post, ez, q1, q2, q3, q4, q5, q6, _⟩ := HF2.out.lr.at_ hx
    obtain ⟨_, _, _, _, cl4, _⟩ := HF2.out.cells
    rw [ez, ll] at cl4
    rw [ll] at q1
    unfold maxLen at q2
    have HTA := Lib.hid (fun k => rgHead za.rd (show RgAt (w4.drewN k) r 97 pre (.bool (lnN f za.rg).cl :: post) (lnN f za.rg).R from q6) q5)
    have hgv : gb = decide (za.tk < headV (lnN f za.rg).R za.rd) := by rw [← HGB.out]; unfold gaveB; rw [if_neg k10, if_pos k11]
    rw [hi] at z1 g1
    rw [k11] at z0
    have hFl := HF2.out.lt
    have hrl := q6.lt
    have HGV := Lib.hid hgv
    generalize headV (lnN f za.rg).R za.rd = tl at *
    clear hgv hi hx q6 q5 q4 q3 ez HF2 HR HGB k11 g0 k10
    go_wp2_with fail
    go_quiet ((go_at_call 91; exact quiet_eq (HTA.out _)))
    all_goals
     go_wp2_with fail
     go_ret
     exact ⟨ret_bool (by rw [HGV.out, Bool.eq_iff_iff]), below_drewN HB.out _⟩
   ·have hgv : gb = true := by rw [← HGB.out]; unfold gaveB; rw [if_neg k10, if_neg k11]
    have e1 : (za.kd == 10) = false := beq_eq_false_iff_ne.2 k10
    have e2 : (za.kd == 11) = false := beq_eq_false_iff_ne.2 k11
    have HGV := Lib.hid hgv
    clear hgv HGB HR HF2 k10 k11
    go_wp2_with fail
    go_ret
    exact ⟨ret_bool (by rw [HGV.out]), HB.out⟩
end
def loadR (cap rd t : Nat) (cl : Bool) (hs : List Nat) (L : List Sl) : Rg := ⟨cap, rd, t, hs ++ List.replicate (8 - hs.length) 0, cl, L⟩
def loadsB (cap rd t : Nat) (cl : Bool) (hs : List Nat) (L : List Sl) : Bool := loadB cap rd L && (decide (hs.length = rd) && (cursB (loadR cap rd t cl hs L) && slotsB (loadR cap rd t cl hs L)))
theorem loadR_ok {cap rd t : Nat} {cl : Bool} {hs : List Nat} {L : List Sl} (h : loadsB cap rd t cl hs L = true) (hL : SlOk rd L) : RgOk (loadR cap rd t cl hs L) := by
 unfold loadsB at h
 simp only [Bool.and_eq_true, decide_eq_true_eq] at h
 obtain ⟨h1, h2, h3, h4⟩ := h
 have hr := hL.2.2.2.1
 unfold cursB at h3
 simp only [Bool.and_eq_true, decide_eq_true_eq] at h3
 obtain ⟨h5, h6, h7⟩ := h3
 unfold loadB at h1
 simp only [Bool.and_eq_true, decide_eq_true_eq] at h1
 refine ⟨by unfold loadR; simp; omega, hL, h1.1.symm, by unfold loadR at h6 ⊢; simp only at h6 ⊢; omega, fun x hx => ?_⟩
 unfold loadR at hx
 rcases List.mem_append.1 hx with hx | hx
 ·unfold headsB at h5
  rw [List.all_eq_true] at h5
  refine of_decide_eq_true (h5 x ?_)
  unfold loadR; simp only
  rw [List.take_append_of_le_length (by omega), ← h2, List.take_of_length_le (Nat.le_refl _)]
  exact hx
 ·rw [List.eq_of_mem_replicate hx]; exact Nat.zero_le _
def RLoadPost (w : World) (cap rd t : Nat) (cl : Bool) (hs : List Nat) (L : List Sl) (e : Ending) (w' : World) : Prop :=
 if loadsB cap rd t cl hs L = true then ∃ g, w.heap.size ≤ g ∧ e = .returned (.tuple #[.pointer (some ⟨g, 0, none⟩), .int .i64 0]) ∧ RgAt w' g 95 [] [] (loadR cap rd t cl hs L)
 else e = .returned (.tuple #[.pointer none, .int .i64 3])
theorem set_nextN (A : List Nat) (u m k : Nat) (hA : A.length = k) : (A ++ List.replicate (m + 1) 0).set k u = A ++ [u] ++ List.replicate m 0 := by
 subst hA
 rw [List.set_append_right _ _ (Nat.le_refl _), Nat.sub_self, List.replicate_succ, List.set_cons_zero]
 simp
theorem cu_head (c r t : Nat) (h : List Nat) (b : Bool) (k x : Nat) (hk : k < h.length) : (cuF c r t h b).set (3 + k) (.int .u64 (x : Int)) = cuF c r t (h.set k x) b := by
 unfold cuF
 rw [List.set_append_left _ _ (by simp; omega), List.set_append_right _ _ (by simp)]
 simp [List.map_set]
set_option maxHeartbeats 4000000 in
set_option maxRecDepth 100000 in
theorem rgLoad (k : Int) (cap rd t : Nat) (cl : Bool) (hs : List Nat) (L : List Sl) (Ah : Option Addr) (nh ch : Nat) (As : Option Addr) (ns cs : Nat) (w : World) (h1 : 1 ≤ cap) (h2 : cap ≤ 64) (h3 : 1 ≤ rd) (h4 : rd ≤ 8) (hk : k = 1 ∧ rd = 1 ∨ k = 2)
  (hq : SeqAt w (.slice Ah nh ch) (cellsH hs)) (hsl : SeqS w 3 (.slice As ns cs) ns (rowsOf slF L)) (hin : ∀ x ∈ L, slIn x) :
  Calls Tryz.prog 59 #[.agg #[.int .i64 k, .int .i64 cap, .int .i64 rd], .agg #[.int .u64 t, .slice Ah nh ch, .bool cl, .slice As ns cs]] w fun e w' => Below w.heap.size w w' ∧ RLoadPost w cap rd t cl hs L e w' := by
 have hnh : nh = hs.length := by
  obtain ⟨A', c', e, _⟩ := hq
  injection e with e1 e2 e3
  rw [e2]; unfold cellsH; rw [List.length_map]
 subst hnh
 have hb0 := (Below.refl w.heap.size w).alloc (Nat.le_refl _) (.cells #[.int .i64 k, .int .i64 (cap : Int), .int .i64 (rd : Int)] 84)
 have hb1 := hb0.alloc (by simp) (.cells #[.int .u64 (t : Int), .slice Ah hs.length ch, .bool cl, .slice As ns cs] 76)
 have li := (Lies.made w 84 #[.int .i64 k, .int .i64 (cap : Int), .int .i64 (rd : Int)]).alloc (.cells #[.int .u64 (t : Int), .slice Ah hs.length ch, .bool cl, .slice As ns cs] 76)
 have ls := Lies.made (w.alloc (.cells #[.int .i64 k, .int .i64 (cap : Int), .int .i64 (rd : Int)] 84)) 76 #[.int .u64 (t : Int), .slice Ah hs.length ch, .bool cl, .slice As ns cs]
 have hz : (w.alloc (.cells #[.int .i64 k, .int .i64 (cap : Int), .int .i64 (rd : Int)] 84)).heap.size = w.heap.size + 1 := by simp
 rw [hz] at ls
 have HN := Lib.hid (fun w => rgNew k cap rd w h1 h2 h3 h4 hk)
 have hz2 : ((w.alloc (.cells #[.int .i64 k, .int .i64 (cap : Int), .int .i64 (rd : Int)] 84)).alloc (.cells #[.int .u64 (t : Int), .slice Ah hs.length ch, .bool cl, .slice As ns cs] 76)).heap.size = w.heap.size + 2 := by simp
 have HZ2 := Lib.hid hz2
 have HB := Lib.hid hb1
 have LI := Lib.hid li
 have LS := Lib.hid ls
 have HQ := Lib.hid (hq.later_ hb1)
 have HSL := Lib.hid (hsl.later hb1)
 have HIN := Lib.hid hin
 have HQ0 := Lib.hid hq
 clear hb0 hb1 li ls hz hz2 hq hsl hin hk
 go_enter Tryz.func59, Tryz.ntmps59
 go_wp2_with fail
 refine (HN.out _).mono ?_
 rintro e w1 ⟨g, rfl, hg, hr1, hb1⟩
 have li := LI.out.below hb1 (by rw [HZ2.out]; omega)
 have ls := LS.out.below hb1 (by rw [HZ2.out]; omega)
 rw [HZ2.out] at hg
 have hbw := HB.out.trans (hb1.mono HB.out.size)
 have hq1 := HQ.out.later_ hb1
 have hsl1 := HSL.out.later hb1
 have i1 := (li.cell 1).trans (show _ = some (Value.int .i64 (cap : Int)) from rfl)
 have i2 := (li.cell 2).trans (show _ = some (Value.int .i64 (rd : Int)) from rfl)
 have s3 := (ls.cell 3).trans (show _ = some (Value.slice As ns cs) from rfl)
 have HL := Lib.hid (slotsLoad cap rd _ ns L w1 h1 h2 h3 h4 hsl1 HIN.out)
 have HQ1 := Lib.hid hq1
 have HR1 := Lib.hid hr1
 have HBW := Lib.hid hbw
 have LI1 := Lib.hid li
 have LS1 := Lib.hid ls
 clear hb1 hq1 hsl1 hr1 hbw li ls HB LI LS HQ HSL HN HZ2 HIN
 go_wp2_with fail
 refine HL.out.mono ?_
 rintro e w2 ⟨hb2, hp⟩
 have hli := LI1.out.below hb2 LI1.out.lt
 have hls := LS1.out.below hb2 LS1.out.lt
 have hbw := HBW.out.trans (hb2.mono HBW.out.size)
 have i2 := (hli.cell 2).trans (show _ = some (Value.int .i64 (rd : Int)) from rfl)
 have s1 := (hls.cell 1).trans (show _ = some (Value.slice Ah hs.length ch) from rfl)
 unfold LoadPost at hp
 by_cases hlb : loadB cap rd L = true
 ·rw [if_pos hlb] at hp
  obtain ⟨rfl, hs2⟩ := hp
  have hcl : cap = L.length := by unfold loadB at hlb; simp only [Bool.and_eq_true, decide_eq_true_eq] at hlb; exact hlb.1.symm
  have HLB := Lib.hid hlb
  clear hlb HL
  by_cases hlr : hs.length = rd
  ·have e1 : ((hs.length : Int) != (rd : Int)) = false := by rw [hlr]; simp
   have hsok := hs2.ok
   obtain ⟨M, m1, m2, m3⟩ := hs2
   have hr2 := HR1.out.later hb2
   obtain ⟨hth, hsw⟩ := sl_swap hr2.2 m1 m2
   have hol : (slObj rd L M).length = 194 := by rw [slObj_length, m1]
   have hone := all_oneCell_toArray (slObj_one rd L M)
   have hpl : ([] ++ cuR (newR cap rd)).length = 12 := rfl
   rw [hpl] at hth hsw
   have hth : w2.there g 12 (slObj rd L M).length := hth
   have hsw : SlAt (w2.setCells g 12 (slObj rd L M)) g 95 ([] ++ cuR (newR cap rd)) [] rd L := hsw
   rw [List.nil_append, List.append_nil] at m3
   have hra : w2.rangeAt w1.heap.size 0 (slObj rd L M) := fun j v hv => by
    rw [Nat.zero_add, m3.cell j, List.getElem?_toArray, hv]
   have hk3 : Kept (oneRow g) w2 (w2.setCells g 12 (slObj rd L M)) := kept_cells _ _ _
   have hraw : RgRaw (w2.setCells g 12 (slObj rd L M)) g 95 [] [] ⟨cap, rd, 0, [0, 0, 0, 0, 0, 0, 0, 0], false, L⟩ := ⟨rfl, hsw⟩
   have hls3 := hls.kept hk3 (fun (e : w.heap.size + 1 = g) => by omega)
   have hb3 := hbw.trans (hk3.below hbw.size (fun j hj (e : j = g) => by omega))
   generalize slObj rd L M = cs0 at *
   have hsi : (Tryz.prog.info? 93).map (·.size) = some cs0.length := by rw [hol]; exact slInfo
   have hsi2 : (Tryz.prog.info? 93).map (·.size) = some cs0.toArray.size := by rw [List.size_toArray, hol]; exact slInfo
   have hth2 : w2.there g 12 cs0.toArray.size := by rw [List.size_toArray]; exact hth
   have HTH := Lib.hid hth2
   have HRA := Lib.hid hra
   have HONE := Lib.hid hone
   have HSI := Lib.hid hsi
   have HSI2 := Lib.hid hsi2
   have HRAW := Lib.hid hraw
   have HLS3 := Lib.hid hls3
   have HB3 := Lib.hid hb3
   have HLR := Lib.hid hlr
   have hrd8 : hs.length ≤ 8 := by omega
   clear hr2 hth hsw hol hone hpl m1 m2 m3 hra hk3 hraw hls3 hb3 hsi hsi2 hth2 hli hls hb2 hlr HQ1 HR1 LI1 LS1 HBW hbw hcl hsok
   go_wp2_with (first | refine wpList_load_mid rfl 93 _ rfl w1.heap.size 0 rfl cs0 _ HRA.out slUnder rfl HSI.out ?_ | refine wpList_store_mid rfl 93 _ _ rfl g 12 cs0.toArray rfl rfl HTH.out HSI2.out HONE.out ?_)
   clear HTH HRA HONE HSI HSI2 i1 i2 s1 s3
   have HRAW : Hid (RgRaw (w2.setCells g 12 cs0.toArray.toList) g 95 [] [] ⟨cap, rd, 0, [0, 0, 0, 0, 0, 0, 0, 0], false, L⟩) := HRAW
   have HLS3 : Hid (Lies (w2.setCells g 12 cs0.toArray.toList) (w.heap.size + 1) 76 #[.int .u64 (t : Int), .slice Ah hs.length ch, .bool cl, .slice As ns cs]) := HLS3
   have HB3 : Hid (Below w.heap.size w (w2.setCells g 12 cs0.toArray.toList)) := HB3
   generalize w2.setCells g 12 cs0.toArray.toList = w3 at *
   have s0 := (HLS3.out.cell 0).trans (show _ = some (Value.int .u64 (t : Int)) from rfl)
   have s2 := (HLS3.out.cell 2).trans (show _ = some (Value.bool cl) from rfl)
   have s1 := (HLS3.out.cell 1).trans (show _ = some (Value.slice Ah hs.length ch) from rfl)
   have f2 := HRAW.out.free 2
   have f11 := HRAW.out.free 11
   obtain ⟨c0, c1, c2, c3⟩ := HRAW.out.cells
   simp only [List.length_nil, Nat.zero_add] at c0 c1 c2 c3
   have hgl := HRAW.out.lt
   have rA := ((HRAW.out.drewN 1).put (k := 2) (u := .int .u64 (t : Int)) (R' := ⟨cap, rd, t, [0, 0, 0, 0, 0, 0, 0, 0], false, L⟩) (by decide) rfl rfl rfl rfl).put (k := 11) (u := .bool cl) (R' := ⟨cap, rd, t, [0, 0, 0, 0, 0, 0, 0, 0], cl, L⟩) (by decide) rfl rfl rfl rfl
   have rB := ((HRAW.out.drewN 1).put (k := 11) (u := .bool cl) (R' := ⟨cap, rd, 0, [0, 0, 0, 0, 0, 0, 0, 0], cl, L⟩) (by decide) rfl rfl rfl rfl).put (k := 2) (u := .int .u64 (t : Int)) (R' := ⟨cap, rd, t, [0, 0, 0, 0, 0, 0, 0, 0], cl, L⟩) (by decide) rfl rfl rfl rfl
   simp only [List.length_nil, Nat.zero_add] at rA rB
   have lA := (HLS3.out.drewN 1).kept ((Kept.put (w3.drewN 1) g 2 (.int .u64 (t : Int))).trans (Kept.put _ g 11 (.bool cl)) (fun _ _ h => h)) (fun (e : w.heap.size + 1 = g) => by omega)
   have lB := (HLS3.out.drewN 1).kept ((Kept.put (w3.drewN 1) g 11 (.bool cl)).trans (Kept.put _ g 2 (.int .u64 (t : Int))) (fun _ _ h => h)) (fun (e : w.heap.size + 1 = g) => by omega)
   have bA := (below_drewN HB3.out 1).trans (((Kept.put (w3.drewN 1) g 2 (.int .u64 (t : Int))).trans (Kept.put _ g 11 (.bool cl)) (fun _ _ h => h)).below HB3.out.size (fun j hj (e : j = g) => by omega))
   have bB := (below_drewN HB3.out 1).trans (((Kept.put (w3.drewN 1) g 11 (.bool cl)).trans (Kept.put _ g 2 (.int .u64 (t : Int))) (fun _ _ h => h)).below HB3.out.size (fun j hj (e : j = g) => by omega))
   have HA : Hid (RgRaw _ g 95 [] [] _ ∧ Lies _ (w.heap.size + 1) _ _ ∧ Below w.heap.size w _) := ⟨rA, lA, bA⟩
   have HBB : Hid (RgRaw _ g 95 [] [] _ ∧ Lies _ (w.heap.size + 1) _ _ ∧ Below w.heap.size w _) := ⟨rB, lB, bB⟩
   clear rA rB lA lB bA bB HB3 HRAW HLS3 c0 c1 s1
   try simp only [Act.put, List.setIfInBounds_toArray, List.set_cons_zero, List.set_cons_succ]
   go_wp2_with fail
   go_cut [] (fun wx => RgRaw wx g 95 [] [] ⟨cap, rd, t, [0, 0, 0, 0, 0, 0, 0, 0], cl, L⟩ ∧ Lies wx (w.heap.size + 1) 76 #[.int .u64 (t : Int), .slice Ah hs.length ch, .bool cl, .slice As ns cs] ∧ Below w.heap.size w wx)
   case first =>
    go_region_with (fail)
    all_goals
     go_wp2_with fail
     go_meet
     first
      | exact HA.out
      | exact HBB.out
   case rest =>
    obtain ⟨hraw, hls, hb⟩ := hcut
    have s1 := (hls.cell 1).trans (show _ = some (Value.slice Ah hs.length ch) from rfl)
    have hsl := hls.lt
    have HRAW := Lib.hid hraw
    have HB := Lib.hid hb
    clear hraw hls hb HA HBB c2 c3 f2 f11 s0 s2 hgl
    go_wp2
    clear s1 hsl
    go_loopw [60] (fun u wr => ∃ k : Nat, k ≤ hs.length ∧ u = .int .i64 k ∧ RgRaw wr g 95 [] [] ⟨cap, rd, t, hs.take k ++ List.replicate (8 - k) 0, cl, L⟩ ∧ Below w.heap.size w wr) (fun u _ => hs.length - (intOf u).toNat)
    case atStart => exact ⟨0, by omega, rfl, HRAW.out, HB.out⟩
    case round =>
     clear HRAW HB
     obtain ⟨k, hk, rfl, hraw, hb⟩ := hrel
     by_cases hlt : k < hs.length
     ·have hki : (k : Int) < (hs.length : Int) := by omega
      have hk8 : (k : Int) < 8 := by omega
      obtain ⟨x, hx⟩ : ∃ x, hs[k]? = some x := ⟨_, List.getElem?_eq_getElem hlt⟩
      obtain ⟨b, off, rfl, hbl, hc⟩ := HQ0.out.get hb (k := k) (u := .int .u64 (x : Int)) (by unfold cellsH; rw [List.getElem?_map, hx]; rfl)
      have hl2 : (hs.take k).length = k := by rw [List.length_take]; omega
      have hset : (hs.take k ++ List.replicate (8 - k) 0).set k x = hs.take (k + 1) ++ List.replicate (8 - (k + 1)) 0 := by
       rw [show 8 - k = (8 - (k + 1)) + 1 by omega, set_nextN _ _ _ _ hl2, List.take_add_one, hx]; rfl
      have hl8 : (hs.take k ++ List.replicate (8 - k) 0).length = 8 := by rw [List.length_append, hl2, List.length_replicate]; omega
      have h0 : (hs.take k ++ List.replicate (8 - k) 0)[k]? = some 0 := by
       rw [List.getElem?_append_right (by omega), hl2, Nat.sub_self, List.getElem?_replicate, if_pos (by omega)]
      have hd := hraw.head h0
      have hf := hraw.free (3 + k)
      have hgl := hraw.lt
      have hr2 := hraw.put (k := 3 + k) (u := .int .u64 (x : Int)) (R' := ⟨cap, rd, t, hs.take (k + 1) ++ List.replicate (8 - (k + 1)) 0, cl, L⟩) (by omega) (by simp only; rw [← hset, List.length_set]; exact hl8) rfl rfl (by
       unfold cuR; simp only
       rw [cu_head _ _ _ _ _ _ _ (by omega), hset])
      simp only [List.length_nil, Nat.zero_add] at hd hr2
      have hb2 := hb.setCell (p := ⟨g, 3 + k, none⟩) (show w.heap.size ≤ g by omega) (.int .u64 (x : Int))
      have HR2 := Lib.hid hr2
      have HB2 := Lib.hid hb2
      clear hraw hb hx hl2 hset hl8 h0 hr2 hb2 HLR
      go_wp2
      go_roundw
      case rel => exact ⟨k + 1, by omega, by go_num, HR2.out, HB2.out⟩
      case measure => simp [intOf]; omega
     ·obtain rfl : k = hs.length := by omega
      rw [List.take_of_length_le (Nat.le_refl _)] at hraw
      have hraw : RgRaw wr g 95 [] [] (loadR cap rd t cl hs L) := hraw
      have hLD : loadsB cap rd t cl hs L = (cursB (loadR cap rd t cl hs L) && slotsB (loadR cap rd t cl hs L)) := by
       unfold loadsB; rw [HLB.out, HLR.out, decide_eq_true rfl, Bool.true_and, Bool.true_and]
      have HC := Lib.hid (rgCursorsRight hraw rfl)
      have HS := Lib.hid (fun n => rgSlotsRight (hraw.drewN n) rfl)
      have HRAW := Lib.hid hraw
      have HB := Lib.hid hb
      clear hraw hb HQ0 HLB HLR
      obtain ⟨cb, hcb⟩ : ∃ cb, cursB (loadR cap rd t cl hs L) = cb := ⟨_, rfl⟩
      obtain ⟨sb, hsb⟩ : ∃ sb, slotsB (loadR cap rd t cl hs L) = sb := ⟨_, rfl⟩
      rw [hcb] at HC
      rw [hsb] at HS
      rw [hcb, hsb] at hLD
      have HLD := Lib.hid hLD
      clear hLD hcb hsb
      cases cb
      ·go_wp2_with fail
       refine HC.out.mono ?_
       rintro e w4 ⟨rfl, n4, hw4⟩
       have hb4 : Below w.heap.size w w4 := by rw [hw4]; exact below_drewN HB.out n4
       clear hw4
       go_wp2
       go_ret2
       exact ⟨hb4, by unfold RLoadPost; rw [HLD.out, if_neg (by simp)]; rfl⟩
      ·go_wp2_with fail
       refine HC.out.mono ?_
       rintro e w4 ⟨rfl, n4, hw4⟩
       have hb4 : Below w.heap.size w w4 := by rw [hw4]; exact below_drewN HB.out n4
       have hr4 : RgRaw w4 g 95 [] [] (loadR cap rd t cl hs L) := by rw [hw4]; exact HRAW.out.drewN n4
       have hs4 := HS.out n4
       rw [← hw4] at hs4
       have HS4 := Lib.hid hs4
       have HR4 := Lib.hid hr4
       clear hw4 hs4 hr4 HS HRAW HC HB
       go_wp2_with fail
       refine HS4.out.mono ?_
       rintro e w5 ⟨rfl, hb5⟩
       have hbz := hb4.trans (hb5.mono hb4.size)
       have HR5 := Lib.hid (HR4.out.later hb5)
       clear hb4 hb5 HR4 HS4
       cases sb
       ·go_wp2
        go_ret2
        exact ⟨hbz, by unfold RLoadPost; rw [HLD.out, if_neg (by simp)]; rfl⟩
       ·go_wp2
        go_ret2
        exact ⟨hbz, by unfold RLoadPost; rw [HLD.out, if_pos (by decide)]; exact ⟨g, by omega, rfl, loadR_ok (HLD.out.trans rfl) HR5.out.2.ok, HR5.out.2⟩⟩
  ·have e1 : ((hs.length : Int) != (rd : Int)) = true := by rw [bne_iff_ne]; omega
   have HF : Hid (loadsB cap rd t cl hs L = false) := by show _ = _; unfold loadsB; rw [decide_eq_false hlr, Bool.false_and, Bool.and_false]
   clear hlr hs2 hli hls
   go_wp2
   go_ret2
   exact ⟨hbw, by unfold RLoadPost; rw [HF.out, if_neg (by decide)]; rfl⟩
 ·rw [if_neg hlb] at hp
  subst hp
  have HF : Hid (loadsB cap rd t cl hs L = false) := by show _ = _; unfold loadsB; rw [show loadB cap rd L = false by simpa using hlb, Bool.false_and]
  clear hlb hli hls HL
  go_wp2
  go_ret2
  exact ⟨hbw, by unfold RLoadPost; rw [HF.out, if_neg (by decide)]; rfl⟩
def ldL (p : Pg) (S : Sta) : List La := List.zipWith (fun r s => ⟨loadR r.c.toNat r.r.toNat s.tl false s.hs s.sl, s.cl⟩) p.rs S.rg
def noSn (x : Th) : Th := { x with sn := [] }
def ldT (p : Pg) (S : Sta) (th : List Th) (sn : List (List Nat)) : Fb := ⟨p, th, sn, ldL p S, 0, 0, false⟩
def ldF (p : Pg) (S : Sta) : Fb := ⟨p, S.th.map noSn, S.th.map (·.sn), ldL p S, S.now, S.rds, S.en⟩
structure LdOk (p : Pg) (S : Sta) : Prop where
 hp : pgOk p
 hr : rightP p = true
 tl : S.th.length = p.ts.length
 rl : S.rg.length = p.rs.length
 rg : ∀ (i : Nat) (r : Ri) (s : Rs), p.rs[i]? = some r → S.rg[i]? = some s → loadsB r.c.toNat r.r.toNat s.tl false s.hs s.sl = true ∧ ∀ x ∈ s.sl, slIn x
 th : ∀ (t : Nat) (l : List In) (x : Th), p.ts[t]? = some l → S.th[t]? = some x → thB l x = true ∧ thOk x ∧ x.sn.length ≤ 1000000 ∧ gaveB (newL p (ldL p S)) (askX l x) = true ∧ ((askX l x).kd = 10 ∨ (askX l x).kd = 11 → 0 ≤ (askX l x).rg ∧ (askX l x).rg < (p.rs.length : Int))
 nb : S.now ≤ 18446744073709551615 ∧ S.rds ≤ 18446744073709551615
def mix {α : Type} (a b : List α) (i : Nat) : List α := a.take i ++ b.drop i
section
variable {α : Type} {a b : List α} {i : Nat} {x : α}
theorem mix_zero : mix a b 0 = b := by simp [mix]
theorem mix_all (h : a.length = b.length) : mix a b a.length = a := by unfold mix; rw [List.take_length, List.drop_of_length_le (by omega), List.append_nil]
theorem mix_length (h : a.length = b.length) (hi : i ≤ a.length) : (mix a b i).length = a.length := by simp [mix]; omega
theorem mix_set (h : a.length = b.length) (hx : a[i]? = some x) : (mix a b i).set i x = mix a b (i + 1) := by
 obtain ⟨hi, _⟩ := List.getElem?_eq_some_iff.1 hx
 unfold mix
 rw [List.set_append_right _ _ (by rw [List.length_take]; omega), List.length_take, Nat.min_eq_left (by omega), Nat.sub_self, List.take_add_one, hx]
 have hd : b.drop i = b[i]'(by omega) :: b.drop (i + 1) := by rw [List.getElem_cons_drop]
 rw [hd, List.set_cons_zero]
 simp
theorem mix_mem {y : α} (hy : y ∈ mix a b i) : y ∈ a ∨ y ∈ b := by
 rcases List.mem_append.1 hy with h | h
 ·exact .inl (List.mem_of_mem_take h)
 ·exact .inr (List.mem_of_mem_drop h)
end
section
variable {w : World} {B i : Nat} {v : Value}
theorem ownTs_at {l : List Th} {x : Th} (h : OwnTs w B v l) (hx : l[i]? = some x) : ∃ T c A d, v = .slice (some ⟨T, 0, none⟩) l.length c ∧ l.length ≤ c ∧ c ≤ 9223372036854775807 ∧ T < w.heap.size ∧
  ∀ w2, Below w.heap.size w w2 → (∀ (j : Nat) (u : Value), (thP (x, Value.slice A x.sn.length d))[j]? = some u → w2.cell? ⟨T, i * 14 + j, none⟩ = some u) ∧ SeqS w2 1 (.slice A x.sn.length d) x.sn.length (cells64 x.sn) := by
 obtain ⟨ps, h1, h2, h3⟩ := h
 have hl : ps.length = l.length := by rw [← h1, List.length_map]
 rw [← h1, List.getElem?_map] at hx
 obtain ⟨q, hq, rfl⟩ := Option.map_eq_some_iff.1 hx
 obtain ⟨A, d, e3, ho⟩ := h3 q (List.mem_of_getElem? hq)
 obtain ⟨hql, _⟩ := List.getElem?_eq_some_iff.1 hq
 rcases owns_row h2 with ⟨_, e, _⟩ | ⟨T, c, cur, rfl, hB, hlies, hc1, hc2⟩
 ·omega
 unfold maxLen at hc2
 have hs := SeqS.of_owns h2
 rw [← hl] at hs
 have ho' := ho
 rw [e3] at ho'
 refine ⟨T, c, A, d, rfl, hc1, by omega, hlies.lt, fun w2 hb => ⟨fun j u hu => ?_, SeqS.of_owns (owned_below ho' hb)⟩⟩
 obtain ⟨b3, o3, e4, _, g3⟩ := SeqS.at_ thP_length (by decide) (hs.later hb) hq
 simp only [Option.some.injEq, Addr.mk.injEq, and_true] at e4
 obtain ⟨rfl, rfl⟩ := e4
 have := g3 j u (by have := (List.getElem?_eq_some_iff.1 hu).1; rw [thP_length] at this; exact this) (by rw [← hu, ← e3])
 rwa [Nat.zero_add] at this
theorem ownRs_at {l : List Rs} {x : Rs} (h : OwnRs w B v l) (hx : l[i]? = some x) : ∃ T c A1 d1 A2 d2, v = .slice (some ⟨T, 0, none⟩) l.length c ∧ l.length ≤ c ∧ c ≤ 9223372036854775807 ∧ T < w.heap.size ∧
  ∀ w2, Below w.heap.size w w2 → (∀ (j : Nat) (u : Value), (rgP (x, Value.slice A1 x.hs.length d1, Value.slice A2 x.sl.length d2))[j]? = some u → w2.cell? ⟨T, i * 4 + j, none⟩ = some u) ∧ SeqS w2 1 (.slice A1 x.hs.length d1) x.hs.length (cells64 x.hs) ∧ SeqS w2 3 (.slice A2 x.sl.length d2) x.sl.length (rowsOf slF x.sl) := by
 obtain ⟨ps, h1, h2, h3⟩ := h
 have hl : ps.length = l.length := by rw [← h1, List.length_map]
 rw [← h1, List.getElem?_map] at hx
 obtain ⟨q, hq, rfl⟩ := Option.map_eq_some_iff.1 hx
 obtain ⟨⟨A1, d1, e1, ho1⟩, A2, d2, e2, ho2⟩ := h3 q (List.mem_of_getElem? hq)
 obtain ⟨hql, _⟩ := List.getElem?_eq_some_iff.1 hq
 rcases owns_row h2 with ⟨_, e, _⟩ | ⟨T, c, cur, rfl, hB, hlies, hc1, hc2⟩
 ·omega
 unfold maxLen at hc2
 have hs := SeqS.of_owns h2
 rw [← hl] at hs
 refine ⟨T, c, A1, d1, A2, d2, rfl, hc1, by omega, hlies.lt, fun w2 hb => ⟨fun j u hu => ?_, ?_, ?_⟩⟩
 ·obtain ⟨b3, o3, e4, _, g3⟩ := SeqS.at_ rgP_length (by decide) (hs.later hb) hq
  simp only [Option.some.injEq, Addr.mk.injEq, and_true] at e4
  obtain ⟨rfl, rfl⟩ := e4
  have := g3 j u (by have := (List.getElem?_eq_some_iff.1 hu).1; rw [rgP_length] at this; exact this) (by rw [← hu, ← e1, ← e2])
  rwa [Nat.zero_add] at this
 ·rw [e1] at ho1
  exact SeqS.of_owns (owned_below ho1 hb)
 ·rw [e2] at ho2
  exact SeqS.of_owns (owned_below ho2 hb)
theorem seqAt_of {A : Option Addr} {n c : Nat} {l : List Nat} (h : SeqS w 1 (.slice A n c) n (cells64 l)) : SeqAt w (.slice A n c) (cellsH l) := by
 obtain ⟨h1, A', c', e, h2, h3, _, h4⟩ := h
 simp only [Value.slice.injEq, true_and] at e
 obtain ⟨rfl, rfl⟩ := e
 have hl : l.length = n := by have := h1; unfold cells64 at this; simp at this; exact this
 refine ⟨A, c, by rw [show (cellsH l).length = n by unfold cellsH; simp [hl]], by rw [show (cellsH l).length = n by unfold cellsH; simp [hl]]; exact h2, h3, fun k u hu => h4 k u hu⟩
end
theorem ldL_length {p : Pg} {S : Sta} (h : S.rg.length = p.rs.length) : (ldL p S).length = p.rs.length := by unfold ldL; rw [List.length_zipWith]; omega
theorem ldL_get {p : Pg} {S : Sta} {i : Nat} {r : Ri} {s : Rs} (h1 : p.rs[i]? = some r) (h2 : S.rg[i]? = some s) : (ldL p S)[i]? = some ⟨loadR r.c.toNat r.r.toNat s.tl false s.hs s.sl, s.cl⟩ := by
 unfold ldL; rw [List.getElem?_zipWith, h1, h2]
theorem lane_store {q : World} {r : Nat} {pre post : List Value} {cl0 : Bool} {R0 : Rg} (h : RgAt q r 97 pre (.bool cl0 :: post) R0) {x : Ln} (hx : lnOk x) : RgAt (q.setCells r pre.length (lnF x)) r 97 pre (.bool x.cl :: post) x.R ∧ q.there r pre.length 207 := by
 obtain ⟨ok, M, m1, m2, m3⟩ := h
 have ho : lnOk ⟨R0, M, cl0⟩ := ⟨ok, m1⟩
 have e : pre ++ cuR R0 ++ (slObj R0.rd R0.L M ++ .bool cl0 :: post) = pre ++ (lnF ⟨R0, M, cl0⟩ ++ post) := by unfold lnF; simp
 rw [e] at m3
 have hn := lies_cells (lnF x) pre (lnF ⟨R0, M, cl0⟩) post q (by rw [lnF_length hx, lnF_length ho]) m3
 refine ⟨⟨hx.1, x.M, hx.2, hx.1.2.1, ?_⟩, lies_there m3 (by rw [List.size_toArray, List.length_append, List.length_append, lnF_length ho]; omega)⟩
 have e2 : pre ++ (lnF x ++ post) = pre ++ cuR x.R ++ (slObj x.R.rd x.R.L x.M ++ .bool x.cl :: post) := by unfold lnF; simp
 rw [e2] at hn
 exact hn
theorem FabAt.mono {w : World} {B B' F : Nat} {f : Fb} {z : Fv} (h : FabAt w B F f z) (hB : B' ≤ B) : FabAt w B' F f z := by
 refine ⟨h.box, ownPg_mono h.pg hB, owns_mono h.tr hB, ⟨owns_mono h.sr.row hB, fun i s hs => ?_, h.sr.apart⟩, ?_, Nat.le_trans hB h.hB⟩
 ·obtain ⟨A, c, e, ho⟩ := h.sr.each i s hs
  exact ⟨A, c, e, owns_mono ho hB⟩
 ·obtain ⟨ms, e, h1, h2⟩ := h.lr
  exact ⟨ms, e, owns_mono h1 hB, h2⟩
theorem FabAt.keptN {w w' : World} {B F g : Nat} {f : Fb} {z : Fv} {cs : Array Value} (h : FabAt w B F f z) (k : Kept (oneRow g) w w') (hl : Lies w g 73 cs) (hne : z.tv.ownBlock ≠ some g) : FabAt w' B F f z := by
 have no : ∀ {r e cur}, Lies w r e cur → e ≠ 73 → ¬ oneRow g r := fun {r e cur} h1 h2 (h3 : r = g) => by subst h3; exact h2 (h1.same hl).1
 exact ⟨h.box.kept k (no h.box (by decide)), h.pg.kept k (fun r e cur he h1 => no h1 (by rcases he with rfl | rfl | rfl <;> decide)), owns_kept h.tr k (fun r cur hr _ (e : r = g) => hne (e ▸ hr)),
  h.sr.kept k (fun r a _ h1 => no h1 (by decide)) (fun _ r a _ _ h1 => no h1 (by decide)), h.lr.kept k (fun r cur h1 => no h1 (by decide)), h.hB⟩
def ThS (w9 : World) (F a b c : Nat) (u v s : Value) (i j k : Nat) (x : Nat → Value) (L : Nat → Bool) (q : World) : Prop :=
 (L k = true → L j = true) ∧ (L j = true → L i = true) ∧ q = if L k = true then (((w9.drewN 1).setCell ⟨F, a, none⟩ u).setCell ⟨F, b, none⟩ v).setCell ⟨F, c, none⟩ s else if L j = true then ((w9.drewN 1).setCell ⟨F, a, none⟩ u).setCell ⟨F, b, none⟩ v else if L i = true then (w9.drewN 1).setCell ⟨F, a, none⟩ u else w9.drewN 1
section
variable {w9 : World} {F a b c : Nat} {u v s : Value} {i j k j1 : Nat} {x : Nat → Value} {L : Nat → Bool} {q : World} {y : Value}
theorem ths_start : ThS w9 F a b c u v s i j k x (fun _ => false) (w9.drewN 1) := ⟨fun h => (Bool.false_ne_true h).elim, fun h => (Bool.false_ne_true h).elim, rfl⟩
theorem ths_op {i : Nat} (hi : (i != j1 && (i != j && i != k)) = true) (h : ThS w9 F a b c u v s j1 j k x L q) : ThS w9 F a b c u v s j1 j k (updX x i y) (updL L i) q := by
 rw [Bool.and_eq_true, bne_iff_ne, Bool.and_eq_true, bne_iff_ne, bne_iff_ne] at hi
 unfold ThS
 rw [pupdL_ne (Ne.symm hi.1), pupdL_ne (Ne.symm hi.2.1), pupdL_ne (Ne.symm hi.2.2)]
 exact h
theorem ths_kept (h : ThS w9 F a b c u v s i j k x L q) : Kept (oneRow F) w9 q := by
 obtain ⟨_, _, h3⟩ := h
 have k0 := Kept.drewN (oneRow F) w9 1
 have k1 := k0.trans (Kept.put _ F a u) (fun _ _ h => h)
 have k2 := k1.trans (Kept.put _ F b v) (fun _ _ h => h)
 have k3 := k2.trans (Kept.put _ F c s) (fun _ _ h => h)
 rw [h3]
 repeat' split
 ·exact k3
 ·exact k2
 ·exact k1
 ·exact k0
theorem ths_box {T : TypeId} {cs : Array Value} (h : ThS w9 F a b c u v s i j k x L q) (hl : Lies w9 F T cs) : ∃ cs', Lies q F T cs' ∧ cs'.size = cs.size := by
 obtain ⟨_, _, h3⟩ := h
 have l0 := hl.drewN 1
 have l1 := l0.put a u
 have l2 := l1.put b v
 have l3 := l2.put c s
 rw [h3]
 repeat' split
 ·exact ⟨_, l3, by simp⟩
 ·exact ⟨_, l2, by simp⟩
 ·exact ⟨_, l1, by simp⟩
 ·exact ⟨_, l0, rfl⟩
theorem ths_1 (h : ThS w9 F a b c u v s i j k x L q) (hd : (i != j && (i != k && j != k)) = true) (hL : L i = false := by assumption) : ThS w9 F a b c u v s i j k (updX x i y) (updL L i) (q.setCell ⟨F, a, none⟩ u) := by
 rw [Bool.and_eq_true, bne_iff_ne, Bool.and_eq_true, bne_iff_ne, bne_iff_ne] at hd
 obtain ⟨h1, h2, h3⟩ := h
 have j0 : L j = false := by rw [Bool.eq_false_iff]; intro e; rw [h2 e] at hL; cases hL
 have k0 : L k = false := by rw [Bool.eq_false_iff]; intro e; rw [h1 e] at j0; cases j0
 rw [k0, j0, hL] at h3
 unfold ThS
 rw [pupdL_self, pupdL_ne (Ne.symm hd.1), pupdL_ne (Ne.symm hd.2.1), j0, k0]
 exact ⟨fun h => (Bool.false_ne_true h).elim, fun _ => rfl, by rw [h3]; rfl⟩
theorem ths_2 (h : ThS w9 F a b c u v s i j k x L q) (hd : (i != j && (i != k && j != k)) = true) (hi : L i = true) (hL : L j = false := by assumption) : ThS w9 F a b c u v s i j k (updX x j y) (updL L j) (q.setCell ⟨F, b, none⟩ v) := by
 rw [Bool.and_eq_true, bne_iff_ne, Bool.and_eq_true, bne_iff_ne, bne_iff_ne] at hd
 obtain ⟨h1, h2, h3⟩ := h
 have k0 : L k = false := by rw [Bool.eq_false_iff]; intro e; rw [h1 e] at hL; cases hL
 rw [k0, hL, hi] at h3
 unfold ThS
 rw [pupdL_self, pupdL_ne hd.1, pupdL_ne (Ne.symm hd.2.2), hi, k0]
 exact ⟨fun h => (Bool.false_ne_true h).elim, fun _ => rfl, by rw [h3]; rfl⟩
theorem ths_3 (h : ThS w9 F a b c u v s i j k x L q) (hd : (i != j && (i != k && j != k)) = true) (hi : L i = true) (hj : L j = true) (hL : L k = false := by assumption) : ThS w9 F a b c u v s i j k (updX x k y) (updL L k) (q.setCell ⟨F, c, none⟩ s) := by
 rw [Bool.and_eq_true, bne_iff_ne, Bool.and_eq_true, bne_iff_ne, bne_iff_ne] at hd
 obtain ⟨h1, h2, h3⟩ := h
 rw [hL, hj] at h3
 unfold ThS
 rw [pupdL_self, pupdL_ne hd.2.1, pupdL_ne hd.2.2, hi, hj]
 exact ⟨fun _ => rfl, fun _ => rfl, by rw [h3]; rfl⟩
end
structure LdS (w : World) (c0 c1 : Array Value) (F : Nat) (f : Fb) (z : Fv) (q : World) : Prop where
 bel : Below w.heap.size w q
 box : Lies q w.heap.size 25 c0
 sta : Lies q (w.heap.size + 1) 39 c1
 fab : FabAt q w.heap.size F f z
 hF : w.heap.size + 1 < F
theorem LdS.later {w q q' : World} {c0 c1 : Array Value} {F : Nat} {f : Fb} {z : Fv} (h : LdS w c0 c1 F f z q) (k : Below q.heap.size q q') : LdS w c0 c1 F f z q' :=
 ⟨h.bel.trans (k.mono h.bel.size), h.box.below k h.box.lt, h.sta.below k h.sta.lt, h.fab.later k, h.hF⟩
theorem ldT_ok {p : Pg} {S : Sta} (g : LdOk p S) {i : Nat} (hi : i ≤ p.ts.length) : FbOk (ldT p S (mix (S.th.map noSn) (List.replicate p.ts.length thO) i) (mix (S.th.map (·.sn)) (List.replicate p.ts.length []) i)) := by
 have htl := g.tl
 refine ⟨g.hp, fun x hx => ?_, ?_, ?_, ldL_length g.rl, by simp [ldT], fun s hs n hn => ?_⟩
 ·rcases mix_mem hx with hx | hx
  ·obtain ⟨y, hy, rfl⟩ := List.mem_map.1 hx
   obtain ⟨t, ht⟩ := List.mem_iff_getElem?.1 hy
   obtain ⟨htl2, _⟩ := List.getElem?_eq_some_iff.1 ht
   obtain ⟨_, ⟨a1, a2, a3, a4, a5, a6, _⟩, _⟩ := g.th t _ y (List.getElem?_eq_getElem (by omega)) ht
   exact ⟨⟨a1, a2, a3, a4, a5, a6, fun n hn => by cases hn⟩, rfl⟩
  ·have := List.eq_of_mem_replicate hx; subst this; exact ⟨thOkO, rfl⟩
 ·show (mix _ _ i).length = _
  rw [mix_length (by simp [htl]) (by simp; omega)]; simp [htl]; rfl
 ·show (mix _ _ i).length = _
  rw [mix_length (by simp [htl]) (by simp; omega)]; simp [htl]; rfl
 ·rcases mix_mem hs with hs | hs
  ·obtain ⟨y, hy, rfl⟩ := List.mem_map.1 hs
   obtain ⟨t, ht⟩ := List.mem_iff_getElem?.1 hy
   obtain ⟨htl2, _⟩ := List.getElem?_eq_some_iff.1 ht
   obtain ⟨_, ⟨_, _, _, _, _, _, a7⟩, _⟩ := g.th t _ y (List.getElem?_eq_getElem (by omega)) ht
   exact a7 n hn
  ·have := List.eq_of_mem_replicate hs; subst this; cases hn
end Go.Proofs.YtdffpbfebgcmaaaGreat
