import Derived.Test.YtdffpbfebgcmaaaGreatZz3
namespace Go.Proofs.YtdffpbfebgcmaaaGreat
open Go.RowKit
set_option linter.unusedVariables false
set_option linter.unusedSimpArgs false
section
variable {w w' : World} {B F : Nat} {f : Fb} {z : Fv}
theorem movF_rest (f : Fb) (e : Ev) (a : Ak) : (movF f e a).1.p = f.p ∧ (movF f e a).1.th = f.th ∧ (movF f e a).1.sn = f.sn ∧ (movF f e a).1.ln.length = f.ln.length := by
 unfold movF
 repeat' split
 all_goals exact ⟨rfl, rfl, rfl, by first | rfl | exact List.length_set⟩
theorem movF_ok {e : Ev} {a : Ak} (ok : FbOk f) (hev : e.vl ≤ 18446744073709551615) : FbOk (movF f e a).1 := by
 obtain ⟨h1, h2, h3, h4⟩ := movF_rest f e a
 refine ⟨by rw [h1]; exact ok.pok, by rw [h2]; exact ok.tok, by rw [h1, h2]; exact ok.tl, by rw [h1, h3]; exact ok.sl, by rw [h1, h4]; exact ok.ll, ?_, by rw [h3]; exact ok.sb⟩
 obtain ⟨n1, n2⟩ := ok.nb
 unfold movF
 repeat' split
 all_goals first
  | exact ⟨n1, n2⟩
  | (show max f.now e.vl ≤ _ ∧ f.rds ≤ _; omega)
  | (show f.now ≤ _ ∧ (f.rds + 1) % _ ≤ _; omega)
theorem movF_thr (f : Fb) (e : Ev) (a : Ak) (t : Nat) : thrN (movF f e a).1 t = thrN f t ∧ codeN (movF f e a).1 t = codeN f t := by
 obtain ⟨h1, h2, _⟩ := movF_rest f e a
 unfold thrN codeN
 rw [h1, h2]; exact ⟨rfl, rfl⟩
theorem FabAt.thread (h : FabAt w B F f z) (okl : f.th.length = f.p.ts.length) {t : Nat} (ht : t < f.p.ts.length) (y : Th) : ∃ T ct, z.tv = .slice (some ⟨T, 0, none⟩) f.p.ts.length ct ∧ f.p.ts.length ≤ ct ∧ ct ≤ 9223372036854775807 ∧ w.there T (t * 14) 14 ∧ FpOf F z T ∧ (∃ cur, Lies w T 73 cur) ∧
  FabAt (w.setCells T (t * 14) (thN y)) B F { f with th := f.th.set t y } z ∧ Kept (oneRow T) w (w.setCells T (t * 14) (thN y)) := by
 have htl : t < f.th.length := by rw [okl]; exact ht
 obtain ⟨T, ct, e1, hB, hl, hth, ho⟩ := owns_setCells thN_length h.tr htl y
 obtain ⟨ct', e2, e3⟩ : ∃ ct', ct' = ct ∧ f.p.ts.length ≤ ct' ∧ ct' ≤ 9223372036854775807 := by
  obtain ⟨A2, c2, f1, g1, g2⟩ := owns_form h.tr
  rw [e1] at f1
  simp only [Value.slice.injEq] at f1
  exact ⟨ct, rfl, by omega, by omega⟩
 subst e2
 obtain ⟨cur, hl⟩ := hl
 have kp := kept_cells (g := T) (thN y) (t * 14) w
 have no : ∀ {r e cur}, Lies w r e cur → e ≠ 73 → ¬ oneRow T r := fun {r e cur} h1 h2 (h3 : r = T) => by subst h3; exact h2 (h1.same hl).1
 refine ⟨T, ct', by rw [e1, okl], e3.1, e3.2, hth, .inr (.inl (by rw [e1]; rfl)), ⟨cur, hl⟩, ⟨h.box.kept kp (no h.box (by decide)), h.pg.kept kp (fun r e cur he h1 => no h1 (by rcases he with rfl | rfl | rfl <;> decide)), by rw [List.length_set]; exact ho,
  h.sr.kept kp (fun r a _ h1 => no h1 (by decide)) (fun _ r a _ _ h1 => no h1 (by decide)), h.lr.kept kp (fun r cur h1 => no h1 (by decide)), h.hB⟩, kp⟩
structure PfA (w0 w : World) (B F : Nat) (f1 : Fb) (z : Fv) (e : Ev) : Prop where
 fab : FabAt w B F f1 z
 ev : Lies w w0.heap.size 43 (evC e)
 kp : Kept (FpOf F z) w0 w
 sz : w0.heap.size < w.heap.size
def perfF (f : Fb) (e : Ev) : Fb :=
 let t := e.th.toNat
 let m := movF f e (askF f t)
 let d := (doZ (codeN f t) (thrN f t) e m.2).1
 { m.1 with th := m.1.th.set t { d with sn := [] }, sn := m.1.sn.set t (f.sn.getD t [] ++ d.sn) }
set_option maxHeartbeats 8000000 in
set_option maxRecDepth 100000 in
theorem fbPerform (e : Ev) (t : Nat) (hte : e.th = (t : Int)) (htl : t < f.p.ts.length) (h : FabAt w B F f z) (ok : FbOk f) (hr : onLane e.kd → 0 ≤ e.rg ∧ e.rg < (f.p.rs.length : Int)) (ht : e.tk ≤ 18446744073709551615) (hv : (askF f t).vl ≤ 18446744073709551615) (hev : e.vl ≤ 18446744073709551615) (htk : e.kd = 1 → (lnN f e.rg).R.tail < 4611687117939015680)
  (hsn : (f.sn.getD t []).length ≤ 1000000000000) :
  Calls Tryz.prog 52 #[.pointer (some ⟨F, 0, none⟩), .agg (evC e)] w fun q w' => q = .returned (.tuple #[]) ∧ ∃ z', FabAt w' B F (perfF f e) z' ∧ Kept (FpOf F z) w w' ∧ ∀ k, FpOf F z' k → FpOf F z k ∨ w.heap.size ≤ k := by
 have hb := (Below.refl w.heap.size w).alloc (Nat.le_refl _) (.cells (evC e) 43)
 have le := Lies.made w 43 (evC e)
 have h1 := h.later hb
 have hlw := h.lt
 have hfp : ∀ k, FpOf F z k → k < w.heap.size := fun k hk => by obtain ⟨_, _, _, hl, _⟩ := h.fp hk; exact hl.lt
 have HFP := Lib.hid hfp
 have OK := Lib.hid ok
 obtain ⟨N, hN⟩ : ∃ N, w.heap.size = N := ⟨_, rfl⟩
 have le2 := le
 rw [hN] at le2
 have HASK : Hid (∀ q, Below (w.alloc (.cells (evC e) 43)).heap.size (w.alloc (.cells (evC e) 43)) q → Calls Tryz.prog 48 #[.pointer (some ⟨F, 0, none⟩), .int .i64 (t : Int)] q fun r w' => r = .returned (.agg (akC (askF f t))) ∧ (w'.cell? ⟨N, 0, none⟩ = some (.int .i64 (t : Int)) ∧ w'.cell? ⟨N, 1, none⟩ = some (.int .i64 e.kd) ∧ w'.cell? ⟨N, 2, none⟩ = some (.int .i64 e.rg) ∧ w'.cell? ⟨N, 3, none⟩ = some (.int .u64 (e.tk : Int)) ∧ w'.cell? ⟨N, 4, none⟩ = some (.int .u64 (e.vl : Int))) ∧ Below (w.alloc (.cells (evC e) 43)).heap.size (w.alloc (.cells (evC e) 43)) w') := fun q hq =>
  (fbAsk t htl (h1.later hq) ok).mono (fun r w' ⟨hr, hb2⟩ => by
   have hb3 := hq.trans (hb2.mono hq.size)
   have l3 := le2.below hb3 le2.lt
   exact ⟨hr, ⟨by rw [← hte]; exact l3.cell 0, l3.cell 1, l3.cell 2, l3.cell 3, l3.cell 4⟩, hb3⟩)
 obtain ⟨a, ha⟩ : ∃ a, askF f t = a := ⟨_, rfl⟩
 rw [ha] at HASK hv
 have HMOV : Hid (∀ q, Below (w.alloc (.cells (evC e) 43)).heap.size (w.alloc (.cells (evC e) 43)) q → Calls Tryz.prog 84 #[.pointer (some ⟨F, 0, none⟩), .agg #[.int .i64 (t : Int), .int .i64 e.kd, .int .i64 e.rg, .int .u64 (e.tk : Int), .int .u64 (e.vl : Int)], .agg (akC a)] q fun r w' => r = .returned (.int .u64 ((movF f e a).2 : Int)) ∧ PfA w w' B F (movF f e a).1 z e) := fun q hq =>
  ((show Calls Tryz.prog 84 #[.pointer (some ⟨F, 0, none⟩), .agg #[.int .i64 (t : Int), .int .i64 e.kd, .int .i64 e.rg, .int .u64 (e.tk : Int), .int .u64 (e.vl : Int)], .agg (akC a)] q (MvPost q B F z (movF f e a)) from by rw [← hte]; exact fbMove e a (h1.later hq) ok hr ht hv hev htk)).mono (fun r w' ⟨hr, hf, hk⟩ => by
   have hsz := hk.size
   have hs2 := hq.size
   have hl2 := le.lt
   refine ⟨hr, hf, (le.below hq le.lt).kept hk (fun hx => by have := hfp _ hx; omega), ((Kept.of_below hb).trans (Kept.of_below hq) (fun _ _ h => h) |>.mono (fun _ _ (hx : False) => hx.elim)).trans hk (fun _ _ h => h), by omega⟩)
 have c0 := (le.cell 0).trans (show _ = some (Value.int .i64 (t : Int)) by rw [← hte]; rfl)
 have c1 := (le.cell 1).trans (show _ = some (Value.int .i64 e.kd) from rfl)
 have c2 := (le.cell 2).trans (show _ = some (Value.int .i64 e.rg) from rfl)
 have c3 := (le.cell 3).trans (show _ = some (Value.int .u64 (e.tk : Int)) from rfl)
 have c4 := (le.cell 4).trans (show _ = some (Value.int .u64 (e.vl : Int)) from rfl)
 have cl := le.lt
 obtain ⟨mv, hmv⟩ : ∃ m, movF f e a = m := ⟨_, rfl⟩
 rw [hmv] at HMOV
 have HMV := Lib.hid hmv
 have HA := Lib.hid ha
 have HTE := Lib.hid hte
 rw [hN] at c0 c1 c2 c3 c4 cl
 clear hb le le2 h1 h ok hr hv htk hfp ha hte hmv
 go_enter Tryz.func52, Tryz.ntmps52
 go_upto_region 2 with (fail)
 try rw [hN]
 generalize w.alloc (.cells (evC e) 43) = W at *
 have HB0 := Lib.hid (Below.refl W.heap.size W)
 go_cut [5] (fun s5 wx => s5 = .int .u64 (mv.2 : Int) ∧ PfA w wx B F mv.1 z e)
 case first =>
  go_region_with (first
   | (go_at_call 48; refine (HASK.out _ HB0.out.drew).mono ?_; rintro r w3 ⟨rfl, ⟨y0, y1, y2, y3, y4⟩, HB3⟩)
   | (go_at_call 84; refine (HMOV.out _ HB3).mono ?_; rintro r w4 ⟨rfl, HP⟩))
  all_goals
   go_wp2_with fail
   go_meet
   exact ⟨rfl, HP⟩
 case rest =>
  obtain ⟨rfl, hp⟩ := hcut
  obtain ⟨hfab, hev5, hkp, hsz⟩ := hp
  obtain ⟨g1, g2, g3, g4⟩ := movF_rest f e a
  have hmt := movF_thr f e a t
  have hok1 := movF_ok (f := f) (e := e) (a := a) OK.out hev
  rw [HMV.out] at g1 g2 g3 g4 hmt hok1
  obtain ⟨m1, m2⟩ := hmt
  have hti0 : t < mv.1.p.ts.length := by rw [g1]; exact htl
  obtain ⟨qb, qo, A, c, T, ct, a1, a2, a3, a4, hC⟩ := hfab.thrC hok1 hti0
  obtain ⟨k1, k2, k3, k4, k5⟩ := thr_get OK.out htl
  rw [m1, m2] at hC
  obtain ⟨l, hl⟩ : ∃ l, codeN f t = l := ⟨_, rfl⟩
  obtain ⟨x, hx⟩ : ∃ x, thrN f t = x := ⟨_, rfl⟩
  obtain ⟨n, hn⟩ : ∃ n, mv.1.p.ts.length = n := ⟨_, rfl⟩
  obtain ⟨d, hd⟩ : ∃ d, z.d = d := ⟨_, rfl⟩
  rw [hl, hx, hn, hd] at hC
  rw [hn] at a1 a3 hti0
  rw [hd] at a3 a4
  rw [hx] at k3 k4
  rw [hl] at k5
  have HC := Lib.hid hC
  have KX := Lib.hid (And.intro k3 k4)
  have KI := Lib.hid k5
  have hti : (t : Int) < (n : Int) := by omega
  have hlf := hfab.lt
  rw [hN] at hev5 hsz
  have HLE : Hid (∀ q, Below wc.heap.size wc q → q.cell? ⟨N, 0, none⟩ = some (.int .i64 (t : Int)) ∧ q.cell? ⟨N, 1, none⟩ = some (.int .i64 e.kd) ∧ q.cell? ⟨N, 2, none⟩ = some (.int .i64 e.rg) ∧ q.cell? ⟨N, 3, none⟩ = some (.int .u64 (e.tk : Int)) ∧ q.cell? ⟨N, 4, none⟩ = some (.int .u64 (e.vl : Int))) := fun q hq => by
   have l3 := hev5.below hq hev5.lt
   exact ⟨by rw [← HTE.out]; exact l3.cell 0, l3.cell 1, l3.cell 2, l3.cell 3, l3.cell 4⟩
  obtain ⟨zt, hzt⟩ : ∃ u, (doZ l x e mv.2).1 = u := ⟨_, rfl⟩
  obtain ⟨er, her⟩ : ∃ u, (doZ l x e mv.2).2 = u := ⟨_, rfl⟩
  have hnz : doZ l x e mv.2 = (zt, er) := by rw [← hzt, ← her]
  have DOC : Hid (∀ q, Below wc.heap.size wc q → Calls Tryz.prog 73 #[.slice A l.length c, .agg (thC x (.slice none 0 0)), .agg #[.int .i64 (t : Int), .int .i64 e.kd, .int .i64 e.rg, .int .u64 (e.tk : Int), .int .u64 (e.vl : Int)], .int .u64 (mv.2 : Int)] q (DoPost (zt, er) q)) := fun q hq => by
   rw [← hnz, ← HTE.out]
   have := doU l A c x none 0 e mv.2 q (HC.out q hq).ins KI.out KX.out.1 (seqS_nil q x KX.out.2) (by rw [KX.out.2]; decide)
   rw [KX.out.2] at this
   exact this
  have HFA := Lib.hid hfab
  have HKP := Lib.hid hkp
  have HOK1 := Lib.hid hok1
  have HG := Lib.hid (And.intro g1 (And.intro g2 g3))
  have HLX := Lib.hid (And.intro hl hx)
  have HZT := Lib.hid hzt
  have HNN := Lib.hid hn
  clear hC k1 k2 k3 k4 k5 hd m1 m2 g1 g2 g3 g4 hfab hev5 hkp hok1 hzt her hnz hl hx hn HASK HMOV HB0 c0 c1 c2 c3 c4 cl
  go_wp2_with fail
  refine wp_region_relyx (lwS wc 73 63 21 22 19 thZ 1000 1001 1002 akZ) (fkV wc.heap.size [.eq (.pointer (some ⟨F, 0, none⟩)), .eq (.pointer (some ⟨F, 0, none⟩)), .eq (.pointer (some ⟨F, 0, none⟩)), .eq (.pointer (some ⟨F, 1, none⟩)), .eq (.slice (some ⟨qb, qo, none⟩) n d), .eq (.int .i64 (t : Int)), .eq (.pointer (some ⟨qb, qo + t, none⟩)), .eq (.slice A l.length c), .eq (.pointer (some ⟨F, 0, none⟩)), .eq (.pointer (some ⟨F, 0, none⟩)), .eq (.pointer (some ⟨F, 2, none⟩)), .eq (.slice (some ⟨T, 0, none⟩) n ct), .eq (.int .i64 (t : Int)), .eq (.pointer (some ⟨T, t * 14, none⟩)), .eq (.agg (thC x (.slice none 0 0))), .eq (.agg #[.int .i64 (t : Int), .int .i64 e.kd, .int .i64 e.rg, .int .u64 (e.tk : Int), .int .u64 (e.vl : Int)]), .eq (.int .u64 (mv.2 : Int)), .tup zt [.int .i64 er], .tup zt [.int .i64 er], .st zt, .eq (.int .i64 er), .any, .any, .eq (.int .i64 er)]) [some 17, some 18, some 19, some 20, some 21, some 22, some 23, some 24, some 25, some 26, some 27, some 28, some 29, some 30, some 31, some 32, some 33, some 34, some 16, some 35, some 36, some 6, none, some 7] [[], [0], [1], [2], [3], [], [4, 5], [6], [], [8], [9], [10], [], [11, 12], [13], [], [], [7, 14, 15, 16], [17], [18], [18], [], [21, 19], [20]] [[], [0], [0, 1], [1, 2], [2, 3], [], [3, 4, 5], [4, 5, 6], [], [8], [8, 9], [9, 10], [], [10, 11, 12], [11, 12, 13], [], [], [6, 7, 13, 14, 15, 16], [7, 14, 15, 16, 17], [17], [17, 22], [], [0, 1, 2, 3, 4, 5, 6, 7, 8, 9, 10, 11, 12, 13, 14, 15, 16, 17, 21], [0, 1, 2, 3, 4, 5, 6, 7, 8, 9, 10, 11, 12, 13, 14, 15, 16, 17, 18, 20, 21, 22]] [[2, 3, 4, 5, 6, 7, 8, 9, 10, 11, 12, 13, 14, 15, 16, 17, 18, 19, 20, 21], [3, 4, 5, 6, 7, 8, 9, 10, 11, 12, 13, 14, 15, 16, 17, 18, 19, 20, 21], [4, 5, 6, 7, 8, 9, 10, 11, 12, 13, 14, 15, 16, 17, 18, 19, 20, 21], [5, 6, 7, 8, 9, 10, 11, 12, 13, 14, 15, 16, 17, 18, 19, 20, 21], [0, 5, 7, 8, 9, 10, 11, 12, 13, 14, 15, 16, 17, 18, 19, 20, 21], [0, 1, 2, 3, 4, 7, 8, 9, 10, 11, 12, 13, 14, 15, 16, 17, 18, 19, 20, 21], [0, 1, 8, 9, 10, 11, 12, 13, 14, 15, 16, 17, 18, 19, 20, 21], [0, 1, 2, 8, 9, 10, 11, 12, 13, 14, 15, 16, 18, 19, 20, 21], [0, 1, 2, 3, 4, 5, 6, 7, 10, 11, 12, 13, 14, 15, 16, 17, 18, 19, 20, 21], [0, 1, 2, 3, 4, 5, 6, 7, 11, 12, 13, 14, 15, 16, 17, 18, 19, 20, 21], [0, 1, 2, 3, 4, 5, 6, 7, 12, 13, 14, 15, 16, 17, 18, 19, 20, 21], [0, 1, 2, 3, 4, 5, 6, 7, 12, 14, 15, 16, 17, 18, 19, 20, 21], [0, 1, 2, 3, 4, 5, 6, 7, 8, 9, 10, 11, 14, 15, 16, 17, 18, 19, 20, 21], [0, 1, 2, 3, 4, 5, 6, 7, 8, 15, 16, 17, 18, 19, 20, 21], [0, 1, 2, 3, 4, 5, 6, 7, 8, 9, 15, 16, 18, 19, 20, 21], [0, 1, 2, 3, 4, 5, 6, 7, 8, 9, 10, 11, 12, 13, 14, 16, 18, 19, 20, 21], [0, 1, 2, 3, 4, 5, 6, 7, 8, 9, 10, 11, 12, 13, 14, 15, 18, 19, 20, 21], [0, 1, 2, 3, 8, 9, 10, 19, 20, 21], [0, 1, 2, 3, 4, 5, 8, 9, 10, 11, 12, 21], [0, 1, 2, 3, 4, 5, 6, 8, 9, 10, 11, 12, 13, 18, 20, 21], [0, 1, 2, 3, 4, 5, 6, 8, 9, 10, 11, 12, 13, 18, 19, 21], [0, 1, 2, 3, 4, 5, 6, 7, 8, 9, 10, 11, 12, 13, 14, 15, 16, 17, 18, 19, 20], [18, 19, 20], [19]] [0, 1, 2, 3, 4, 5, 6, 7, 8, 9, 10, 11, 12, 13, 14, 15, 16, 17, 18, 19, 20, 21, 22, 23] 24 (by kernel_rfl) (by kernel_rfl) (by kernel_rfl) (by kernel_rfl) ?rS (fun j h1 h2 => absurd (Nat.lt_of_lt_of_le h1 (Nat.le_trans (by decide) h2)) (Nat.lt_irrefl _)) ?rT ?rE
  case rS => exact lw_start
  case rT =>
   refine RelyStepsX.cons (RelyStepX.mk [] [2, 3, 4, 5, 6, 7, 8, 9, 10, 11, 12, 13, 14, 15, 16, 17, 18, 19, 20, 21] rfl rfl rfl (fun xv Lv wS hS hL hLd hV bq hb K hK => ?_)) ?_
   ·clear hV
    simp only [putsOf, List.foldl_cons, List.foldl_nil, List.getD_cons_zero, List.getD_cons_succ, List.getD_nil, cond_true, cond_false, Act.put, List.setIfInBounds_toArray, List.set_cons_zero, List.set_cons_succ] at hb
    subst hb
    rw [if_pos (by rfl)]
    go_wp2_with fail
    exact hK.out _ _ ⟨_, rfl, lw_op (i := 0) rfl hS, rfl, AllPX.same _⟩
   refine RelyStepsX.cons (RelyStepX.mk [0] [3, 4, 5, 6, 7, 8, 9, 10, 11, 12, 13, 14, 15, 16, 17, 18, 19, 20, 21] rfl rfl rfl (fun xv Lv wS hS hL hLd hV bq hb K hK => ?_)) ?_
   ·obtain ⟨h0, _⟩ := hV
    have h0 : xv 0 = _ := h0
    simp only [putsOf, List.foldl_cons, List.foldl_nil, List.getD_cons_zero, List.getD_cons_succ, List.getD_nil, cond_true, cond_false, Act.put, List.setIfInBounds_toArray, List.set_cons_zero, List.set_cons_succ, h0] at hb
    clear h0
    subst hb
    rw [if_pos (by rfl)]
    go_wp2_with fail
    exact hK.out _ _ ⟨_, rfl, lw_op (i := 1) rfl hS, rfl, AllPX.same _⟩
   refine RelyStepsX.cons (RelyStepX.mk [1] [4, 5, 6, 7, 8, 9, 10, 11, 12, 13, 14, 15, 16, 17, 18, 19, 20, 21] rfl rfl rfl (fun xv Lv wS hS hL hLd hV bq hb K hK => ?_)) ?_
   ·obtain ⟨h1, _⟩ := hV
    have h1 : xv 1 = _ := h1
    simp only [putsOf, List.foldl_cons, List.foldl_nil, List.getD_cons_zero, List.getD_cons_succ, List.getD_nil, cond_true, cond_false, Act.put, List.setIfInBounds_toArray, List.set_cons_zero, List.set_cons_succ, h1] at hb
    clear h1
    subst hb
    rw [if_pos (by rfl)]
    go_wp2_with fail
    exact hK.out _ _ ⟨_, rfl, lw_op (i := 2) rfl hS, rfl, AllPX.same _⟩
   refine RelyStepsX.cons (RelyStepX.mk [2] [5, 6, 7, 8, 9, 10, 11, 12, 13, 14, 15, 16, 17, 18, 19, 20, 21] rfl rfl rfl (fun xv Lv wS hS hL hLd hV bq hb K hK => ?_)) ?_
   ·obtain ⟨h2, _⟩ := hV
    have h2 : xv 2 = _ := h2
    simp only [putsOf, List.foldl_cons, List.foldl_nil, List.getD_cons_zero, List.getD_cons_succ, List.getD_nil, cond_true, cond_false, Act.put, List.setIfInBounds_toArray, List.set_cons_zero, List.set_cons_succ, h2] at hb
    clear h2
    subst hb
    rw [if_pos (by rfl)]
    go_wp2_with fail
    exact hK.out _ _ ⟨_, rfl, lw_op (i := 3) rfl hS, rfl, AllPX.same _⟩
   refine RelyStepsX.cons (RelyStepX.mk [3] [0, 5, 7, 8, 9, 10, 11, 12, 13, 14, 15, 16, 17, 18, 19, 20, 21] rfl rfl rfl (fun xv Lv wS hS hL hLd hV bq hb K hK => ?_)) ?_
   ·obtain ⟨h3, _⟩ := hV
    have h3 : xv 3 = _ := h3
    simp only [putsOf, List.foldl_cons, List.foldl_nil, List.getD_cons_zero, List.getD_cons_succ, List.getD_nil, cond_true, cond_false, Act.put, List.setIfInBounds_toArray, List.set_cons_zero, List.set_cons_succ, h3] at hb
    clear h3
    subst hb
    rw [if_pos (by rfl)]
    (have X4 := (HC.out _ hS.1).c1)
    go_wp2_with fail
    exact hK.out _ _ ⟨_, rfl, lw_op (i := 4) rfl hS, rfl, AllPX.same _⟩
   refine RelyStepsX.cons (RelyStepX.mk [] [0, 1, 2, 3, 4, 7, 8, 9, 10, 11, 12, 13, 14, 15, 16, 17, 18, 19, 20, 21] rfl rfl rfl (fun xv Lv wS hS hL hLd hV bq hb K hK => ?_)) ?_
   ·clear hV
    simp only [putsOf, List.foldl_cons, List.foldl_nil, List.getD_cons_zero, List.getD_cons_succ, List.getD_nil, cond_true, cond_false, Act.put, List.setIfInBounds_toArray, List.set_cons_zero, List.set_cons_succ] at hb
    subst hb
    rw [if_pos (by rfl)]
    go_wp2_with fail
    exact hK.out _ _ ⟨_, rfl, lw_op (i := 5) rfl hS, rfl, AllPX.same _⟩
   refine RelyStepsX.cons (RelyStepX.mk [4, 5] [0, 1, 8, 9, 10, 11, 12, 13, 14, 15, 16, 17, 18, 19, 20, 21] rfl rfl rfl (fun xv Lv wS hS hL hLd hV bq hb K hK => ?_)) ?_
   ·obtain ⟨h4, h5, _⟩ := hV
    have h4 : xv 4 = _ := h4
    have h5 : xv 5 = _ := h5
    simp only [putsOf, List.foldl_cons, List.foldl_nil, List.getD_cons_zero, List.getD_cons_succ, List.getD_nil, cond_true, cond_false, Act.put, List.setIfInBounds_toArray, List.set_cons_zero, List.set_cons_succ, h4, h5] at hb
    clear h4
    clear h5
    subst hb
    rw [if_pos (by rfl)]
    go_wp2_with fail
    exact hK.out _ _ ⟨_, rfl, lw_op (i := 6) rfl hS, rfl, AllPX.same _⟩
   refine RelyStepsX.cons (RelyStepX.mk [6] [0, 1, 2, 8, 9, 10, 11, 12, 13, 14, 15, 16, 18, 19, 20, 21] rfl rfl rfl (fun xv Lv wS hS hL hLd hV bq hb K hK => ?_)) ?_
   ·obtain ⟨h6, _⟩ := hV
    have h6 : xv 6 = _ := h6
    simp only [putsOf, List.foldl_cons, List.foldl_nil, List.getD_cons_zero, List.getD_cons_succ, List.getD_nil, cond_true, cond_false, Act.put, List.setIfInBounds_toArray, List.set_cons_zero, List.set_cons_succ, h6] at hb
    clear h6
    subst hb
    rw [if_pos (by rfl)]
    (have X7 := (HC.out _ hS.1).cq)
    go_wp2_with fail
    exact hK.out _ _ ⟨_, rfl, lw_op (i := 7) rfl hS, rfl, AllPX.same _⟩
   refine RelyStepsX.cons (RelyStepX.mk [] [0, 1, 2, 3, 4, 5, 6, 7, 10, 11, 12, 13, 14, 15, 16, 17, 18, 19, 20, 21] rfl rfl rfl (fun xv Lv wS hS hL hLd hV bq hb K hK => ?_)) ?_
   ·clear hV
    simp only [putsOf, List.foldl_cons, List.foldl_nil, List.getD_cons_zero, List.getD_cons_succ, List.getD_nil, cond_true, cond_false, Act.put, List.setIfInBounds_toArray, List.set_cons_zero, List.set_cons_succ] at hb
    subst hb
    rw [if_pos (by rfl)]
    go_wp2_with fail
    exact hK.out _ _ ⟨_, rfl, lw_op (i := 8) rfl hS, rfl, AllPX.same _⟩
   refine RelyStepsX.cons (RelyStepX.mk [8] [0, 1, 2, 3, 4, 5, 6, 7, 11, 12, 13, 14, 15, 16, 17, 18, 19, 20, 21] rfl rfl rfl (fun xv Lv wS hS hL hLd hV bq hb K hK => ?_)) ?_
   ·obtain ⟨h8, _⟩ := hV
    have h8 : xv 8 = _ := h8
    simp only [putsOf, List.foldl_cons, List.foldl_nil, List.getD_cons_zero, List.getD_cons_succ, List.getD_nil, cond_true, cond_false, Act.put, List.setIfInBounds_toArray, List.set_cons_zero, List.set_cons_succ, h8] at hb
    clear h8
    subst hb
    rw [if_pos (by rfl)]
    go_wp2_with fail
    exact hK.out _ _ ⟨_, rfl, lw_op (i := 9) rfl hS, rfl, AllPX.same _⟩
   refine RelyStepsX.cons (RelyStepX.mk [9] [0, 1, 2, 3, 4, 5, 6, 7, 12, 13, 14, 15, 16, 17, 18, 19, 20, 21] rfl rfl rfl (fun xv Lv wS hS hL hLd hV bq hb K hK => ?_)) ?_
   ·obtain ⟨h9, _⟩ := hV
    have h9 : xv 9 = _ := h9
    simp only [putsOf, List.foldl_cons, List.foldl_nil, List.getD_cons_zero, List.getD_cons_succ, List.getD_nil, cond_true, cond_false, Act.put, List.setIfInBounds_toArray, List.set_cons_zero, List.set_cons_succ, h9] at hb
    clear h9
    subst hb
    rw [if_pos (by rfl)]
    go_wp2_with fail
    exact hK.out _ _ ⟨_, rfl, lw_op (i := 10) rfl hS, rfl, AllPX.same _⟩
   refine RelyStepsX.cons (RelyStepX.mk [10] [0, 1, 2, 3, 4, 5, 6, 7, 12, 14, 15, 16, 17, 18, 19, 20, 21] rfl rfl rfl (fun xv Lv wS hS hL hLd hV bq hb K hK => ?_)) ?_
   ·obtain ⟨h10, _⟩ := hV
    have h10 : xv 10 = _ := h10
    simp only [putsOf, List.foldl_cons, List.foldl_nil, List.getD_cons_zero, List.getD_cons_succ, List.getD_nil, cond_true, cond_false, Act.put, List.setIfInBounds_toArray, List.set_cons_zero, List.set_cons_succ, h10] at hb
    clear h10
    subst hb
    rw [if_pos (by rfl)]
    (have X11 := (HC.out _ hS.1).c2)
    go_wp2_with fail
    exact hK.out _ _ ⟨_, rfl, lw_op (i := 11) rfl hS, rfl, AllPX.same _⟩
   refine RelyStepsX.cons (RelyStepX.mk [] [0, 1, 2, 3, 4, 5, 6, 7, 8, 9, 10, 11, 14, 15, 16, 17, 18, 19, 20, 21] rfl rfl rfl (fun xv Lv wS hS hL hLd hV bq hb K hK => ?_)) ?_
   ·clear hV
    simp only [putsOf, List.foldl_cons, List.foldl_nil, List.getD_cons_zero, List.getD_cons_succ, List.getD_nil, cond_true, cond_false, Act.put, List.setIfInBounds_toArray, List.set_cons_zero, List.set_cons_succ] at hb
    subst hb
    rw [if_pos (by rfl)]
    go_wp2_with fail
    exact hK.out _ _ ⟨_, rfl, lw_op (i := 12) rfl hS, rfl, AllPX.same _⟩
   refine RelyStepsX.cons (RelyStepX.mk [11, 12] [0, 1, 2, 3, 4, 5, 6, 7, 8, 15, 16, 17, 18, 19, 20, 21] rfl rfl rfl (fun xv Lv wS hS hL hLd hV bq hb K hK => ?_)) ?_
   ·obtain ⟨h11, h12, _⟩ := hV
    have h11 : xv 11 = _ := h11
    have h12 : xv 12 = _ := h12
    simp only [putsOf, List.foldl_cons, List.foldl_nil, List.getD_cons_zero, List.getD_cons_succ, List.getD_nil, cond_true, cond_false, Act.put, List.setIfInBounds_toArray, List.set_cons_zero, List.set_cons_succ, h11, h12] at hb
    clear h11
    clear h12
    subst hb
    rw [if_pos (by rfl)]
    go_wp2_with fail
    exact hK.out _ _ ⟨_, rfl, lw_op (i := 13) rfl hS, rfl, AllPX.same _⟩
   refine RelyStepsX.cons (RelyStepX.mk [13] [0, 1, 2, 3, 4, 5, 6, 7, 8, 9, 15, 16, 18, 19, 20, 21] rfl rfl rfl (fun xv Lv wS hS hL hLd hV bq hb K hK => ?_)) ?_
   ·obtain ⟨h13, _⟩ := hV
    have h13 : xv 13 = _ := h13
    simp only [putsOf, List.foldl_cons, List.foldl_nil, List.getD_cons_zero, List.getD_cons_succ, List.getD_nil, cond_true, cond_false, Act.put, List.setIfInBounds_toArray, List.set_cons_zero, List.set_cons_succ, h13] at hb
    clear h13
    subst hb
    rw [if_pos (by rfl)]
    (have Y0 := (HC.out _ hS.1).cx 0 _ (by decide) rfl; have Y1 := (HC.out _ hS.1).cx 1 _ (by decide) rfl; have Y2 := (HC.out _ hS.1).cx 2 _ (by decide) rfl; have Y3 := (HC.out _ hS.1).cx 3 _ (by decide) rfl; have Y4 := (HC.out _ hS.1).cx 4 _ (by decide) rfl; have Y5 := (HC.out _ hS.1).cx 5 _ (by decide) rfl; have Y6 := (HC.out _ hS.1).cx 6 _ (by decide) rfl; have Y7 := (HC.out _ hS.1).cx 7 _ (by decide) rfl; have Y8 := (HC.out _ hS.1).cx 8 _ (by decide) rfl; have Y9 := (HC.out _ hS.1).cx 9 _ (by decide) rfl; have Y10 := (HC.out _ hS.1).cx 10 _ (by decide) rfl; have Y11 := (HC.out _ hS.1).cx 11 _ (by decide) rfl; have Y12 := (HC.out _ hS.1).cx 12 _ (by decide) rfl; have Y13 := (HC.out _ hS.1).cx 13 _ (by decide) rfl; rw [Nat.add_zero] at Y0)
    go_wp2_with fail
    exact hK.out _ _ ⟨_, rfl, lw_op (i := 14) rfl hS, rfl, AllPX.same _⟩
   refine RelyStepsX.cons (RelyStepX.mk [] [0, 1, 2, 3, 4, 5, 6, 7, 8, 9, 10, 11, 12, 13, 14, 16, 18, 19, 20, 21] rfl rfl rfl (fun xv Lv wS hS hL hLd hV bq hb K hK => ?_)) ?_
   ·clear hV
    simp only [putsOf, List.foldl_cons, List.foldl_nil, List.getD_cons_zero, List.getD_cons_succ, List.getD_nil, cond_true, cond_false, Act.put, List.setIfInBounds_toArray, List.set_cons_zero, List.set_cons_succ] at hb
    subst hb
    rw [if_pos (by rfl)]
    (obtain ⟨W0, W1, W2, W3, W4⟩ := HLE.out _ hS.1)
    go_wp2_with fail
    exact hK.out _ _ ⟨_, rfl, lw_op (i := 15) rfl hS, rfl, AllPX.same _⟩
   refine RelyStepsX.cons (RelyStepX.mk [] [0, 1, 2, 3, 4, 5, 6, 7, 8, 9, 10, 11, 12, 13, 14, 15, 18, 19, 20, 21] rfl rfl rfl (fun xv Lv wS hS hL hLd hV bq hb K hK => ?_)) ?_
   ·clear hV
    simp only [putsOf, List.foldl_cons, List.foldl_nil, List.getD_cons_zero, List.getD_cons_succ, List.getD_nil, cond_true, cond_false, Act.put, List.setIfInBounds_toArray, List.set_cons_zero, List.set_cons_succ] at hb
    subst hb
    rw [if_pos (by rfl)]
    go_wp2_with fail
    exact hK.out _ _ ⟨_, rfl, lw_op (i := 16) rfl hS, rfl, AllPX.same _⟩
   refine RelyStepsX.cons (RelyStepX.mk [7, 14, 15, 16] [0, 1, 2, 3, 8, 9, 10, 19, 20, 21] rfl rfl rfl (fun xv Lv wS hS hL hLd hV bq hb K hK => ?_)) ?_
   ·obtain ⟨h7, h14, h15, h16, _⟩ := hV
    have h7 : xv 7 = _ := h7
    have h14 : xv 14 = _ := h14
    have h15 : xv 15 = _ := h15
    have h16 : xv 16 = _ := h16
    simp only [putsOf, List.foldl_cons, List.foldl_nil, List.getD_cons_zero, List.getD_cons_succ, List.getD_nil, cond_true, cond_false, Act.put, List.setIfInBounds_toArray, List.set_cons_zero, List.set_cons_succ, h7, h14, h15, h16] at hb
    clear h7
    clear h14
    clear h15
    clear h16
    subst hb
    rw [if_pos (by rfl)]
    have HSS := Lib.hid hS
    clear hS
    have HROW := Lib.hid trivial
    go_wp2_with fail
    refine (DOC.out wS HSS.out.1).mono ?_
    rintro e w' ⟨u, rfl, ho, hbm⟩
    exact hK.out _ _ ⟨_, rfl, lw_below rfl HSS.out hbm, ⟨u, rfl, ownTh_mono ho (lw_le HSS.out)⟩, AllPX.of _ (fun j _ _ h => fkV_below hbm h)⟩
   refine RelyStepsX.cons (RelyStepX.mk [17] [0, 1, 2, 3, 4, 5, 8, 9, 10, 11, 12, 21] rfl rfl rfl (fun xv Lv wS hS hL hLd hV bq hb K hK => ?_)) ?_
   ·obtain ⟨h17, _⟩ := hV
    simp only [putsOf, List.foldl_cons, List.foldl_nil, List.getD_cons_zero, List.getD_cons_succ, List.getD_nil, cond_true, cond_false, Act.put, List.setIfInBounds_toArray, List.set_cons_zero, List.set_cons_succ] at hb
    generalize hy17 : xv 17 = y17 at *
    subst hb
    rw [if_pos (by rfl)]
    have HSS := Lib.hid hS
    clear hS
    obtain ⟨u1, rfl, ho⟩ := h17
    go_wp2_with fail
    exact hK.out _ _ ⟨_, rfl, lw_pure rfl HSS.out, ⟨u1, rfl, ho⟩, AllPX.same _⟩
   refine RelyStepsX.cons (RelyStepX.mk [18] [0, 1, 2, 3, 4, 5, 6, 8, 9, 10, 11, 12, 13, 18, 20, 21] rfl rfl rfl (fun xv Lv wS hS hL hLd hV bq hb K hK => ?_)) ?_
   ·obtain ⟨h18, _⟩ := hV
    simp only [putsOf, List.foldl_cons, List.foldl_nil, List.getD_cons_zero, List.getD_cons_succ, List.getD_nil, cond_true, cond_false, Act.put, List.setIfInBounds_toArray, List.set_cons_zero, List.set_cons_succ] at hb
    generalize hy18 : xv 18 = y18 at *
    subst hb
    rw [if_pos (by rfl)]
    have HSS := Lib.hid hS
    clear hS
    obtain ⟨u1, rfl, ho⟩ := h18
    go_wp2_with fail
    exact hK.out _ _ ⟨_, rfl, lw_pure rfl HSS.out, ho, AllPX.same _⟩
   refine RelyStepsX.cons (RelyStepX.mk [18] [0, 1, 2, 3, 4, 5, 6, 8, 9, 10, 11, 12, 13, 18, 19, 21] rfl rfl rfl (fun xv Lv wS hS hL hLd hV bq hb K hK => ?_)) ?_
   ·obtain ⟨h18, _⟩ := hV
    simp only [putsOf, List.foldl_cons, List.foldl_nil, List.getD_cons_zero, List.getD_cons_succ, List.getD_nil, cond_true, cond_false, Act.put, List.setIfInBounds_toArray, List.set_cons_zero, List.set_cons_succ] at hb
    generalize hy18 : xv 18 = y18 at *
    subst hb
    rw [if_pos (by rfl)]
    have HSS := Lib.hid hS
    clear hS
    obtain ⟨u1, rfl, ho⟩ := h18
    go_wp2_with fail
    exact hK.out _ _ ⟨_, rfl, lw_pure rfl HSS.out, rfl, AllPX.same _⟩
   refine RelyStepsX.cons (RelyStepX.mk [] [0, 1, 2, 3, 4, 5, 6, 7, 8, 9, 10, 11, 12, 13, 14, 15, 16, 17, 18, 19, 20] rfl rfl rfl (fun xv Lv wS hS hL hLd hV bq hb K hK => ?_)) ?_
   ·clear hV
    simp only [putsOf, List.foldl_cons, List.foldl_nil, List.getD_cons_zero, List.getD_cons_succ, List.getD_nil, cond_true, cond_false, Act.put, List.setIfInBounds_toArray, List.set_cons_zero, List.set_cons_succ] at hb
    subst hb
    rw [if_pos (by rfl)]
    have HSS := Lib.hid hS
    clear hS
    go_wp2_with fail
    have hbm := (Below.refl wS.heap.size wS).alloc (Nat.le_refl _) (.cells thZ 73)
    exact hK.out _ _ ⟨_, rfl, lw_made1 rfl HSS.out, trivial, AllPX.of _ (fun j _ _ h => fkV_below hbm h)⟩
   refine RelyStepsX.cons (RelyStepX.mk [21, 19] [18, 19, 20] rfl rfl rfl (fun xv Lv wS hS hL hLd hV bq hb K hK => ?_)) ?_
   ·obtain ⟨h21, h19, _⟩ := hV
    simp only [putsOf, List.foldl_cons, List.foldl_nil, List.getD_cons_zero, List.getD_cons_succ, List.getD_nil, cond_true, cond_false, Act.put, List.setIfInBounds_toArray, List.set_cons_zero, List.set_cons_succ] at hb
    generalize hy21 : xv 21 = y21 at *
    generalize hy19 : xv 19 = y19 at *
    subst hb
    rw [if_pos (by rfl)]
    have HSS := Lib.hid hS
    clear hS
    obtain ⟨g, hg, hN, hl⟩ := bk_open HSS.out.2.1 (hLd 21 (by decide +kernel)) hL
    rw [hy21] at hg
    subst hg
    obtain ⟨A5, k5, e5, ho5⟩ := h19
    subst e5
    refine wp_store_row _ _ _ rfl g (thC zt (.slice A5 (zt).sn.length k5)) rfl rfl 73 thZ hl infoTh rfl (thC_one _ rfl) ?_
    exact hK.out _ _ ⟨undef, rfl, lw_store1 rfl HSS.out (hLd 21 (by decide +kernel)) (hLd 19 (by decide +kernel)) hy21 hN hl hy19 (by decide), trivial, AllPX.of _ (fun j hj _ h => fkV_row _ hl (all_typ rfl hj) h)⟩
   refine RelyStepsX.cons (RelyStepX.mk [20] [19] rfl rfl rfl (fun xv Lv wS hS hL hLd hV bq hb K hK => ?_)) ?_
   ·obtain ⟨h20, _⟩ := hV
    have h20 : xv 20 = _ := h20
    simp only [putsOf, List.foldl_cons, List.foldl_nil, List.getD_cons_zero, List.getD_cons_succ, List.getD_nil, cond_true, cond_false, Act.put, List.setIfInBounds_toArray, List.set_cons_zero, List.set_cons_succ, h20] at hb
    clear h20
    subst hb
    rw [if_pos (by rfl)]
    go_wp2_with fail
    exact hK.out _ _ ⟨_, rfl, lw_op (i := 23) rfl hS, rfl, AllPX.same _⟩
   exact RelyStepsX.nil
  case rE =>
   intro xv Lv wE hS hLall hV
   have h19 := hV 19 (by decide) (by decide)
   have h23 := hV 23 (by decide) (by decide)
   clear hV
   obtain ⟨g1, a1, hx1, hN1, hl1, hv1⟩ := bk_done hS.2.1 (hLall 21 (by decide +kernel)) (hLall 22 (by decide +kernel))
   simp only [putsOf, List.foldl_cons, List.foldl_nil, List.getD_cons_zero, List.getD_cons_succ, List.getD_nil, cond_true, cond_false, Act.put, List.setIfInBounds_toArray, List.set_cons_zero, List.set_cons_succ]
   have h23 : xv 23 = _ := h23
   rw [h23]; clear h23
   generalize xv 0 = y0 at *
   generalize xv 1 = y1 at *
   generalize xv 2 = y2 at *
   generalize xv 3 = y3 at *
   generalize xv 4 = y4 at *
   generalize xv 5 = y5 at *
   generalize xv 6 = y6 at *
   generalize xv 7 = y7 at *
   generalize xv 8 = y8 at *
   generalize xv 9 = y9 at *
   generalize xv 10 = y10 at *
   generalize xv 11 = y11 at *
   generalize xv 12 = y12 at *
   generalize xv 13 = y13 at *
   generalize xv 14 = y14 at *
   generalize xv 15 = y15 at *
   generalize xv 16 = y16 at *
   generalize xv 17 = y17 at *
   generalize xv 18 = y18 at *
   generalize xv 19 = y19 at *
   generalize xv 20 = y20 at *
   generalize xv 21 = y21 at *
   generalize xv 22 = y22 at *
   subst hx1
   obtain ⟨A5, k5, e5, ho5⟩ := (show OwnTh wE wc.heap.size zt y19 from h19)
   rw [hv1] at e5
   injection e5 with e5
   subst e5
   have hbm := hS.1
   have HF4 := Lib.hid (HFA.out.later hbm)
   have HK4 := Lib.hid (HKP.out.trans (Kept.of_below hbm) (fun _ _ (hx : False) => hx.elim))
   have HL4 := Lib.hid hl1
   have HO4 := Lib.hid ho5
   have hwE := hbm.size
   have HSN : Hid (zt.sn.length ≤ 1) := by
    show _
    rw [← HZT.out]
    exact doZ_sn KX.out.1 KX.out.2 KI.out
   clear hS hbm hLall DOC hv1 h19 h23 HC HLE KX KI hl1 ho5 HFA HKP
   generalize wE = w4 at *
   have hgl := HL4.out.lt
   obtain ⟨S, cs, As, csn, sl, es1, es2, es3, es4, es5, es6, es7, es8, hTURN⟩ := HF4.out.seen HOK1.out (t := t) (by rw [HNN.out]; exact hti0)
   rw [HNN.out] at es1 es2
   obtain ⟨_, _, _, b3, _⟩ := HF4.out.cells
   rw [es1] at b3
   have hsl : sl = f.sn.getD t [] := by rw [HG.out.2.2] at es4; rw [List.getD_eq_getElem?_getD, es4]; rfl
   have hsll : sl.length ≤ 1000000000000 := by rw [hsl]; exact hsn
   have HSL := Lib.hid hsl
   have HTU := Lib.hid hTURN
   have HSO := Lib.hid es6
   obtain ⟨curS, hcurS⟩ := es7
   have hFne : F ≠ S := fun e => by subst e; exact absurd (HF4.out.box.same hcurS).1 (by decide)
   have HCL : Hid (∀ q, Kept (ownIs (.slice As sl.length csn)) w4 q → q.cell? ⟨F, 3, none⟩ = some (.slice (some ⟨S, 0, none⟩) n cs) ∧ q.cell? ⟨S, t, none⟩ = some (.slice As sl.length csn) ∧ q.cell? ⟨g1, 13, none⟩ = some (.slice A5 zt.sn.length k5) ∧ F < q.heap.size ∧ S < q.heap.size ∧ g1 < q.heap.size) := fun q k => by
    have n1 : ∀ {g e2 c2}, Lies w4 g e2 c2 → e2 ≠ 37 → ¬ ownIs (.slice As sl.length csn) g := fun {g e2 c2} h1 h2 h3 => by
     obtain ⟨_, c3, h4⟩ := own_lies HSO.out h3
     exact h2 (h1.same h4).1
    have k1 := HF4.out.box.kept k (n1 HF4.out.box (by decide))
    have k2 := HL4.out.kept k (n1 HL4.out (by decide))
    have k3 := hcurS.kept k (n1 hcurS (by decide))
    exact ⟨(k1.cell 3).trans (show _ = some z.sv from rfl) |>.trans (by rw [es1]), by rw [k3.cell, ← hcurS.cell]; exact es8, (k2.cell 13).trans rfl, k1.lt, k3.lt, k2.lt⟩
   have HCS := Lib.hid hcurS
   have HBF := Lib.hid HF4.out.hB
   clear hTURN es1 es4 es5 es6 es8 b3 hsl
   go_wp2_with fail
   refine wp_region_relyx (SnS w4 B S t (.slice As sl.length csn) (sl ++ zt.sn)) (fkV w4.heap.size [.eq (.pointer (some ⟨F, 0, none⟩)), .eq (.pointer (some ⟨F, 0, none⟩)), .eq (.pointer (some ⟨F, 3, none⟩)), .eq (.slice (some ⟨S, 0, none⟩) n cs), .eq (.int .i64 (t : Int)), .eq (.pointer (some ⟨F, 0, none⟩)), .eq (.pointer (some ⟨F, 0, none⟩)), .eq (.pointer (some ⟨F, 3, none⟩)), .eq (.slice (some ⟨S, 0, none⟩) n cs), .eq (.int .i64 (t : Int)), .eq (.pointer (some ⟨S, t, none⟩)), .eq (.slice As sl.length csn), .eq (.pointer (some ⟨g1, 13, none⟩)), .eq (.slice A5 zt.sn.length k5), .any, .eq (.pointer (some ⟨S, t, none⟩)), .any]) [some 37, some 38, some 39, some 40, some 41, some 42, some 43, some 44, some 45, some 46, some 47, some 48, some 49, some 50, some 51, some 52, none] [[], [0], [1], [2], [], [], [5], [6], [7], [], [8, 9], [10], [], [12], [11, 13], [3, 4], [15, 14]] [[], [0], [0, 1], [1, 2], [], [], [5], [5, 6], [6, 7], [], [7, 8, 9], [8, 9, 10], [], [12], [10, 11, 12, 13], [0, 1, 2, 3, 4, 5, 6, 7, 8, 9, 10, 11, 12, 13], [0, 1, 2, 3, 4, 5, 6, 7, 8, 9, 10, 11, 12, 13, 15]] [[2, 3, 4, 5, 6, 7, 8, 9, 10, 11, 12, 13, 14], [3, 4, 5, 6, 7, 8, 9, 10, 11, 12, 13, 14], [4, 5, 6, 7, 8, 9, 10, 11, 12, 13, 14], [4, 5, 6, 7, 8, 9, 10, 11, 12, 13, 14], [0, 1, 2, 3, 5, 6, 7, 8, 9, 10, 11, 12, 13, 14], [0, 1, 2, 3, 4, 7, 8, 9, 10, 11, 12, 13, 14], [0, 1, 2, 3, 4, 8, 9, 10, 11, 12, 13, 14], [0, 1, 2, 3, 4, 9, 10, 11, 12, 13, 14], [0, 1, 2, 3, 4, 9, 11, 12, 13, 14], [0, 1, 2, 3, 4, 5, 6, 7, 8, 11, 12, 13, 14], [0, 1, 2, 3, 4, 5, 12, 13, 14], [0, 1, 2, 3, 4, 5, 6, 12, 13], [0, 1, 2, 3, 4, 5, 6, 7, 8, 9, 10, 11, 14], [0, 1, 2, 3, 4, 5, 6, 7, 8, 9, 10, 11], [0, 1, 2, 3, 4, 5, 6, 7], [14], [14]] [0, 1, 2, 3, 4, 5, 6, 7, 8, 9, 10, 11, 12, 13, 14, 15, 16] 17 (by kernel_rfl) (by kernel_rfl) (by kernel_rfl) (by kernel_rfl) ?rS (fun j h1 h2 => absurd (Nat.lt_of_lt_of_le h1 (Nat.le_trans (by decide) h2)) (Nat.lt_irrefl _)) ?rT ?rE
   case rS => exact sn_start
   case rT =>
    refine RelyStepsX.cons (RelyStepX.mk [] [2, 3, 4, 5, 6, 7, 8, 9, 10, 11, 12, 13, 14] rfl rfl rfl (fun xv Lv wS hS hL hLd hV bq hb K hK => ?_)) ?_
    ·clear hV
     simp only [putsOf, List.foldl_cons, List.foldl_nil, List.getD_cons_zero, List.getD_cons_succ, List.getD_nil, cond_true, cond_false, Act.put, List.setIfInBounds_toArray, List.set_cons_zero, List.set_cons_succ] at hb
     subst hb
     rw [if_pos (by rfl)]
     go_wp2_with fail
     exact hK.out _ _ ⟨_, rfl, sn_op (i := 0) rfl hS, rfl, AllPX.same _⟩
    refine RelyStepsX.cons (RelyStepX.mk [0] [3, 4, 5, 6, 7, 8, 9, 10, 11, 12, 13, 14] rfl rfl rfl (fun xv Lv wS hS hL hLd hV bq hb K hK => ?_)) ?_
    ·obtain ⟨h0, _⟩ := hV
     have h0 : xv 0 = _ := h0
     simp only [putsOf, List.foldl_cons, List.foldl_nil, List.getD_cons_zero, List.getD_cons_succ, List.getD_nil, cond_true, cond_false, Act.put, List.setIfInBounds_toArray, List.set_cons_zero, List.set_cons_succ, h0] at hb
     clear h0
     subst hb
     rw [if_pos (by rfl)]
     go_wp2_with fail
     exact hK.out _ _ ⟨_, rfl, sn_op (i := 1) rfl hS, rfl, AllPX.same _⟩
    refine RelyStepsX.cons (RelyStepX.mk [1] [4, 5, 6, 7, 8, 9, 10, 11, 12, 13, 14] rfl rfl rfl (fun xv Lv wS hS hL hLd hV bq hb K hK => ?_)) ?_
    ·obtain ⟨h1, _⟩ := hV
     have h1 : xv 1 = _ := h1
     simp only [putsOf, List.foldl_cons, List.foldl_nil, List.getD_cons_zero, List.getD_cons_succ, List.getD_nil, cond_true, cond_false, Act.put, List.setIfInBounds_toArray, List.set_cons_zero, List.set_cons_succ, h1] at hb
     clear h1
     subst hb
     rw [if_pos (by rfl)]
     go_wp2_with fail
     exact hK.out _ _ ⟨_, rfl, sn_op (i := 2) rfl hS, rfl, AllPX.same _⟩
    refine RelyStepsX.cons (RelyStepX.mk [2] [4, 5, 6, 7, 8, 9, 10, 11, 12, 13, 14] rfl rfl rfl (fun xv Lv wS hS hL hLd hV bq hb K hK => ?_)) ?_
    ·obtain ⟨h2, _⟩ := hV
     have h2 : xv 2 = _ := h2
     simp only [putsOf, List.foldl_cons, List.foldl_nil, List.getD_cons_zero, List.getD_cons_succ, List.getD_nil, cond_true, cond_false, Act.put, List.setIfInBounds_toArray, List.set_cons_zero, List.set_cons_succ, h2] at hb
     clear h2
     subst hb
     rw [if_pos (by rfl)]
     (obtain ⟨X0, X1, X2, X3, X4, X5⟩ := HCL.out _ (sn_at (i := 3) hS hL (by decide)))
     go_wp2_with fail
     exact hK.out _ _ ⟨_, rfl, sn_op (i := 3) rfl hS, rfl, AllPX.same _⟩
    refine RelyStepsX.cons (RelyStepX.mk [] [0, 1, 2, 3, 5, 6, 7, 8, 9, 10, 11, 12, 13, 14] rfl rfl rfl (fun xv Lv wS hS hL hLd hV bq hb K hK => ?_)) ?_
    ·clear hV
     simp only [putsOf, List.foldl_cons, List.foldl_nil, List.getD_cons_zero, List.getD_cons_succ, List.getD_nil, cond_true, cond_false, Act.put, List.setIfInBounds_toArray, List.set_cons_zero, List.set_cons_succ] at hb
     subst hb
     rw [if_pos (by rfl)]
     go_wp2_with fail
     exact hK.out _ _ ⟨_, rfl, sn_op (i := 4) rfl hS, rfl, AllPX.same _⟩
    refine RelyStepsX.cons (RelyStepX.mk [] [0, 1, 2, 3, 4, 7, 8, 9, 10, 11, 12, 13, 14] rfl rfl rfl (fun xv Lv wS hS hL hLd hV bq hb K hK => ?_)) ?_
    ·clear hV
     simp only [putsOf, List.foldl_cons, List.foldl_nil, List.getD_cons_zero, List.getD_cons_succ, List.getD_nil, cond_true, cond_false, Act.put, List.setIfInBounds_toArray, List.set_cons_zero, List.set_cons_succ] at hb
     subst hb
     rw [if_pos (by rfl)]
     go_wp2_with fail
     exact hK.out _ _ ⟨_, rfl, sn_op (i := 5) rfl hS, rfl, AllPX.same _⟩
    refine RelyStepsX.cons (RelyStepX.mk [5] [0, 1, 2, 3, 4, 8, 9, 10, 11, 12, 13, 14] rfl rfl rfl (fun xv Lv wS hS hL hLd hV bq hb K hK => ?_)) ?_
    ·obtain ⟨h5, _⟩ := hV
     have h5 : xv 5 = _ := h5
     simp only [putsOf, List.foldl_cons, List.foldl_nil, List.getD_cons_zero, List.getD_cons_succ, List.getD_nil, cond_true, cond_false, Act.put, List.setIfInBounds_toArray, List.set_cons_zero, List.set_cons_succ, h5] at hb
     clear h5
     subst hb
     rw [if_pos (by rfl)]
     go_wp2_with fail
     exact hK.out _ _ ⟨_, rfl, sn_op (i := 6) rfl hS, rfl, AllPX.same _⟩
    refine RelyStepsX.cons (RelyStepX.mk [6] [0, 1, 2, 3, 4, 9, 10, 11, 12, 13, 14] rfl rfl rfl (fun xv Lv wS hS hL hLd hV bq hb K hK => ?_)) ?_
    ·obtain ⟨h6, _⟩ := hV
     have h6 : xv 6 = _ := h6
     simp only [putsOf, List.foldl_cons, List.foldl_nil, List.getD_cons_zero, List.getD_cons_succ, List.getD_nil, cond_true, cond_false, Act.put, List.setIfInBounds_toArray, List.set_cons_zero, List.set_cons_succ, h6] at hb
     clear h6
     subst hb
     rw [if_pos (by rfl)]
     go_wp2_with fail
     exact hK.out _ _ ⟨_, rfl, sn_op (i := 7) rfl hS, rfl, AllPX.same _⟩
    refine RelyStepsX.cons (RelyStepX.mk [7] [0, 1, 2, 3, 4, 9, 11, 12, 13, 14] rfl rfl rfl (fun xv Lv wS hS hL hLd hV bq hb K hK => ?_)) ?_
    ·obtain ⟨h7, _⟩ := hV
     have h7 : xv 7 = _ := h7
     simp only [putsOf, List.foldl_cons, List.foldl_nil, List.getD_cons_zero, List.getD_cons_succ, List.getD_nil, cond_true, cond_false, Act.put, List.setIfInBounds_toArray, List.set_cons_zero, List.set_cons_succ, h7] at hb
     clear h7
     subst hb
     rw [if_pos (by rfl)]
     (obtain ⟨X0, X1, X2, X3, X4, X5⟩ := HCL.out _ (sn_at (i := 8) hS hL (by decide)))
     go_wp2_with fail
     exact hK.out _ _ ⟨_, rfl, sn_op (i := 8) rfl hS, rfl, AllPX.same _⟩
    refine RelyStepsX.cons (RelyStepX.mk [] [0, 1, 2, 3, 4, 5, 6, 7, 8, 11, 12, 13, 14] rfl rfl rfl (fun xv Lv wS hS hL hLd hV bq hb K hK => ?_)) ?_
    ·clear hV
     simp only [putsOf, List.foldl_cons, List.foldl_nil, List.getD_cons_zero, List.getD_cons_succ, List.getD_nil, cond_true, cond_false, Act.put, List.setIfInBounds_toArray, List.set_cons_zero, List.set_cons_succ] at hb
     subst hb
     rw [if_pos (by rfl)]
     go_wp2_with fail
     exact hK.out _ _ ⟨_, rfl, sn_op (i := 9) rfl hS, rfl, AllPX.same _⟩
    refine RelyStepsX.cons (RelyStepX.mk [8, 9] [0, 1, 2, 3, 4, 5, 12, 13, 14] rfl rfl rfl (fun xv Lv wS hS hL hLd hV bq hb K hK => ?_)) ?_
    ·obtain ⟨h8, h9, _⟩ := hV
     have h8 : xv 8 = _ := h8
     have h9 : xv 9 = _ := h9
     simp only [putsOf, List.foldl_cons, List.foldl_nil, List.getD_cons_zero, List.getD_cons_succ, List.getD_nil, cond_true, cond_false, Act.put, List.setIfInBounds_toArray, List.set_cons_zero, List.set_cons_succ, h8, h9] at hb
     clear h8
     clear h9
     subst hb
     rw [if_pos (by rfl)]
     go_wp2_with fail
     exact hK.out _ _ ⟨_, rfl, sn_op (i := 10) rfl hS, rfl, AllPX.same _⟩
    refine RelyStepsX.cons (RelyStepX.mk [10] [0, 1, 2, 3, 4, 5, 6, 12, 13] rfl rfl rfl (fun xv Lv wS hS hL hLd hV bq hb K hK => ?_)) ?_
    ·obtain ⟨h10, _⟩ := hV
     have h10 : xv 10 = _ := h10
     simp only [putsOf, List.foldl_cons, List.foldl_nil, List.getD_cons_zero, List.getD_cons_succ, List.getD_nil, cond_true, cond_false, Act.put, List.setIfInBounds_toArray, List.set_cons_zero, List.set_cons_succ, h10] at hb
     clear h10
     subst hb
     rw [if_pos (by rfl)]
     (obtain ⟨X0, X1, X2, X3, X4, X5⟩ := HCL.out _ (sn_at (i := 11) hS hL (by decide)))
     go_wp2_with fail
     exact hK.out _ _ ⟨_, rfl, sn_op (i := 11) rfl hS, rfl, AllPX.same _⟩
    refine RelyStepsX.cons (RelyStepX.mk [] [0, 1, 2, 3, 4, 5, 6, 7, 8, 9, 10, 11, 14] rfl rfl rfl (fun xv Lv wS hS hL hLd hV bq hb K hK => ?_)) ?_
    ·clear hV
     simp only [putsOf, List.foldl_cons, List.foldl_nil, List.getD_cons_zero, List.getD_cons_succ, List.getD_nil, cond_true, cond_false, Act.put, List.setIfInBounds_toArray, List.set_cons_zero, List.set_cons_succ] at hb
     subst hb
     rw [if_pos (by rfl)]
     go_wp2_with fail
     exact hK.out _ _ ⟨_, rfl, sn_op (i := 12) rfl hS, rfl, AllPX.same _⟩
    refine RelyStepsX.cons (RelyStepX.mk [12] [0, 1, 2, 3, 4, 5, 6, 7, 8, 9, 10, 11] rfl rfl rfl (fun xv Lv wS hS hL hLd hV bq hb K hK => ?_)) ?_
    ·obtain ⟨h12, _⟩ := hV
     have h12 : xv 12 = _ := h12
     simp only [putsOf, List.foldl_cons, List.foldl_nil, List.getD_cons_zero, List.getD_cons_succ, List.getD_nil, cond_true, cond_false, Act.put, List.setIfInBounds_toArray, List.set_cons_zero, List.set_cons_succ, h12] at hb
     clear h12
     subst hb
     rw [if_pos (by rfl)]
     (obtain ⟨X0, X1, X2, X3, X4, X5⟩ := HCL.out _ (sn_at (i := 13) hS hL (by decide)))
     go_wp2_with fail
     exact hK.out _ _ ⟨_, rfl, sn_op (i := 13) rfl hS, rfl, AllPX.same _⟩
    refine RelyStepsX.cons (RelyStepX.mk [11, 13] [0, 1, 2, 3, 4, 5, 6, 7] rfl rfl rfl (fun xv Lv wS hS hL hLd hV bq hb K hK => ?_)) ?_
    ·obtain ⟨h11, h13, _⟩ := hV
     have h11 : xv 11 = _ := h11
     have h13 : xv 13 = _ := h13
     simp only [putsOf, List.foldl_cons, List.foldl_nil, List.getD_cons_zero, List.getD_cons_succ, List.getD_nil, cond_true, cond_false, Act.put, List.setIfInBounds_toArray, List.set_cons_zero, List.set_cons_succ, h11, h13] at hb
     clear h11
     clear h13
     subst hb
     rw [if_pos (by rfl)]
     have HSS := Lib.hid hS
     have hLL := hL
     have hbel := sn_bel hS hL
     have hkk := sn_at (i := 14) hS hL (by decide)
     clear hS
     have hown := owned_below HSO.out hbel
     have hsrc := SeqS.of_owns (owned_below (owns_mono HO4.out (Nat.le_refl _)) (hbel.mono (by omega)))
     refine step_list (ops := #[]) (by rfl) (append_argS_at wS 1 rfl (.tmp 48) (.tmp 50) 66 rfl B 37 _ 8 Tryz.underlying66 infoU6 rfl (by decide) (.slice As sl.length csn) sl.length (cells64 sl) rfl hown A5 zt.sn.length k5 rfl (cells64 zt.sn) hsrc (cells64_one _) (by have := HSN.out; unfold maxLen; omega) (by have := HSN.out; omega) (by have := hbel.size; have := HBF.out; omega) ?_)
     intro v' w' ho hb2 hgr hat
     have hapc : cells64 sl ++ cells64 zt.sn = cells64 (sl ++ zt.sn) := by unfold cells64; rw [List.map_append]
     rw [hapc, ← List.length_append] at ho
     obtain ⟨A', c', ev, _⟩ := owns_form ho
     exact hK.out _ _ ⟨_, rfl, sn_app HSS.out hLL (Kept.of_grown hgr) ⟨A', c', ev, ho, hat.imp id (fun ⟨h1, h2⟩ => ⟨_, hbel.size, h1⟩)⟩, trivial, AllPX.of _ (fun j hj _ h => fkV_eqs rfl hj h)⟩
    refine RelyStepsX.cons (RelyStepX.mk [3, 4] [14] rfl rfl rfl (fun xv Lv wS hS hL hLd hV bq hb K hK => ?_)) ?_
    ·obtain ⟨h3, h4, _⟩ := hV
     have h3 : xv 3 = _ := h3
     have h4 : xv 4 = _ := h4
     simp only [putsOf, List.foldl_cons, List.foldl_nil, List.getD_cons_zero, List.getD_cons_succ, List.getD_nil, cond_true, cond_false, Act.put, List.setIfInBounds_toArray, List.set_cons_zero, List.set_cons_succ, h3, h4] at hb
     clear h3
     clear h4
     subst hb
     rw [if_pos (by rfl)]
     go_wp2_with fail
     exact hK.out _ _ ⟨_, rfl, sn_op (i := 15) rfl hS, rfl, AllPX.same _⟩
    refine RelyStepsX.cons (RelyStepX.mk [15, 14] [14] rfl rfl rfl (fun xv Lv wS hS hL hLd hV bq hb K hK => ?_)) ?_
    ·obtain ⟨h15, h14, _⟩ := hV
     have h15 : xv 15 = _ := h15
     simp only [putsOf, List.foldl_cons, List.foldl_nil, List.getD_cons_zero, List.getD_cons_succ, List.getD_nil, cond_true, cond_false, Act.put, List.setIfInBounds_toArray, List.set_cons_zero, List.set_cons_succ, h15] at hb
     clear h15
     generalize hy14 : xv 14 = y14 at *
     subst hb
     rw [if_pos (by rfl)]
     have HSS := Lib.hid hS
     have hLL := hL
     clear hS
     obtain ⟨kk, A', c', ev, ho, hat⟩ := sn_st HSS.out hLL (hLd 14 (by decide +kernel))
     obtain ⟨X0, X1, X2, X3, X4, X5⟩ := HCL.out _ kk
     have hfz := (HCS.out.kept kk (fun h3 => by obtain ⟨_, c3, h4⟩ := own_lies HSO.out h3; exact absurd (HCS.out.same h4).1 (by decide))).free t
     have hall : ∀ j, j < 16 → Lv j = true := by
      intro j hj
      apply hLd
      clear hL hLd hK h15 h14 HSS hLL
      revert j
      decide +kernel
     have hst := sn_store (v := undef) HSS.out hLL hall
     rw [hy14] at hst ev
     subst ev
     obtain ⟨LN, hLN⟩ : ∃ m, (sl ++ zt.sn).length = m := ⟨_, rfl⟩
     rw [hLN] at hst hK ⊢
     clear kk ho hat hLN
     go_wp2_with fail
     exact hK.out _ _ ⟨undef, rfl, hst, trivial, AllPX.of _ (fun j hj _ h => fkV_eqs rfl hj h)⟩
    exact RelyStepsX.nil
   case rE =>
    intro xv Lv wE hS hLall hV
    have h14 := hV 14 (by decide) (by decide)
    have h16 := hV 16 (by decide) (by decide)
    clear hV
    simp only [putsOf, List.foldl_cons, List.foldl_nil, List.getD_cons_zero, List.getD_cons_succ, List.getD_nil, cond_true, cond_false, Act.put, List.setIfInBounds_toArray, List.set_cons_zero, List.set_cons_succ]
    generalize xv 0 = y0 at *
    generalize xv 1 = y1 at *
    generalize xv 2 = y2 at *
    generalize xv 3 = y3 at *
    generalize xv 4 = y4 at *
    generalize xv 5 = y5 at *
    generalize xv 6 = y6 at *
    generalize xv 7 = y7 at *
    generalize xv 8 = y8 at *
    generalize xv 9 = y9 at *
    generalize xv 10 = y10 at *
    generalize xv 11 = y11 at *
    generalize xv 12 = y12 at *
    generalize xv 13 = y13 at *
    generalize xv 14 = y14 at *
    generalize xv 15 = y15 at *
    generalize xv 16 = y16 at *
    obtain ⟨q1, hq1, hq2, hq3⟩ := sn_end hS (fun j hj => hLall j hj)
    obtain ⟨A', c', ev, ho, hat⟩ := hq3
    obtain ⟨hFN, hKN, hFP2⟩ := HTU.out q1 _ (sl ++ zt.sn) A' c' ev hq2 ho (fun g hg => by rcases hat with h | ⟨k, hk, h⟩; exact .inl (h ▸ hg); exact .inr (by rw [h] at hg; cases hg; exact hk))
    have n1 : ∀ {g e2 c2}, Lies w4 g e2 c2 → e2 ≠ 37 → ¬ ownIs (.slice As sl.length csn) g := fun {g e2 c2} h1 h2 h3 => by
     obtain ⟨_, c3, h4⟩ := own_lies HSO.out h3
     exact h2 (h1.same h4).1
    have hgS : g1 ≠ S := fun e => by subst e; exact absurd (HL4.out.same HCS.out).1 (by decide)
    have hL5 := (HL4.out.kept hq2 (n1 HL4.out (by decide))).kept (Kept.put q1 S t (xv 14)) (fun (e : g1 = S) => hgS e)
    have hz5 := hKN.size
    rw [← hq1] at hFN hKN hL5 hz5
    obtain ⟨z2, hz2⟩ : ∃ z2, { z with vs := z.vs.set t (xv 14) } = z2 := ⟨_, rfl⟩
    rw [hz2] at hFN hFP2
    have hgo : ¬ FpOf F z2 g1 := fun hg => by
     rcases hFP2 g1 hg with h | h
     ·have := HFP.out g1 h; omega
     ·omega
    have HF5 := Lib.hid hFN
    have HK5 := Lib.hid (HK4.out.trans hKN (fun _ _ h => h))
    have HL5 := Lib.hid hL5
    have HP5 := Lib.hid (show ∀ k, FpOf F z2 k → FpOf F z k ∨ w.heap.size ≤ k from fun k hk => (hFP2 k hk).imp id (fun h => by omega))
    have HGO := Lib.hid hgo
    clear hS hLall hq1 hq2 ev ho hat hFN hKN hFP2 n1 hL5 hz2 hgo h14 h16 HCL HTU HCS HO4 HSO hcurS HF4 HK4 HL4
    generalize xv 14 = y14 at *
    generalize wE = w5 at *
    obtain ⟨c0, c1, c2, c3, c4, c5, c6, c7, c8, c9, c10, c11, c12, c13⟩ := thCells HL5.out
    have hgl5 := HL5.out.lt
    have hfr5 := HL5.out.free
    go_wp2_with fail
    have hL6 : Lies (w5.setCell ⟨g1, 13, none⟩ (.slice none 0 0)) g1 73 (thC zt (.slice none 0 0)) := HL5.out.put 13 (.slice none 0 0)
    have hk6 := Kept.put w5 g1 13 (.slice none 0 0)
    have hF6 := HF5.out.keptB hk6 (fun k hk (e : k = g1) => HGO.out (e ▸ hk)) (fun r e cur he h1 (h2 : r = g1) => by subst h2; rcases he with rfl | rfl | rfl <;> exact absurd (h1.same HL5.out).1 (by decide)) (fun r cur h1 (h2 : r = g1) => by subst h2; exact absurd (h1.same HL5.out).1 (by decide))
    have HK6 := Lib.hid (HK5.out.trans (hk6.mono (T := fun k => k = g1) (fun _ _ h => h)) (fun i hi (e : i = g1) => absurd hi (by omega)))
    clear c0 c1 c2 c3 c4 c5 c6 c7 c8 c9 c10 c11 c12 c13 hgl5 hfr5 hk6 HK5 HF5
    generalize w5.setCell ⟨g1, 13, none⟩ (.slice none 0 0) = w6 at *
    have HF6 := Lib.hid hF6
    obtain ⟨T6, ct6, e61, e62, e63, hth, hfpT, ⟨curT, hlT⟩, hFin, hKin⟩ := (hF6.later (Below.refl _ _).drew).thread (t := t) (by show mv.1.th.length = mv.1.p.ts.length; exact HOK1.out.tl) (by show t < mv.1.p.ts.length; rw [HNN.out]; exact hti0) { zt with sn := [] }
    obtain ⟨_, _, b2, _⟩ := hF6.cells
    rw [e61] at b2
    have hnn6 : mv.1.p.ts.length = n := HNN.out
    obtain ⟨c0, c1, c2, c3, c4, c5, c6, c7, c8, c9, c10, c11, c12, c13⟩ := thCells hL6
    have hgl6 := hL6.lt
    have HTH := Lib.hid hth
    have HFI := Lib.hid hFin
    have HKI := Lib.hid hKin
    have HFT := Lib.hid hfpT
    have hlf6 := hF6.lt
    clear hth hFin hKin hfpT hF6 hL6
    go_still_tail 7, (by kernel_rfl)
    clear c0 c1 c2 c3 c4 c5 c6 c7 c8 c9 c10 c11 c12 c13 b2
    go_wp2_with (refine wpList_store_mid rfl 73 _ _ rfl T6 (t * 14) (thC zt (.slice none 0 0)) rfl rfl HTH.out infoThS (thC_one _ rfl) ?_)
    refine bodyPost_end (v := .tuple #[]) (by simp [results, Tryz.results52, go_sem]) rfl ?_
    have hpf : perfF f e = { mv.1 with th := mv.1.th.set t { zt with sn := [] }, sn := mv.1.sn.set t (sl ++ zt.sn) } := by
     unfold perfF
     simp only [HTE.out, Int.toNat_natCast, HA.out, HMV.out, HLX.out.1, HLX.out.2, HZT.out, ← HSL.out]
    rw [hpf]
    have hKE := ((HK6.out.trans (Kept.drew noRow w6) (fun _ _ (h : False) => h.elim)).trans HKI.out (fun i hi (e : i = T6) => by
     subst e
     rcases HP5.out _ HFT.out with h | h
     ·exact h
     ·omega))
    exact ⟨rfl, z2, HFI.out, hKE, fun k hk => (HP5.out k hk).imp id (fun h => by omega)⟩
end
def canF (f : Fb) (e : Ev) (a : Ak) : Bool :=
 if e.kd = 1 then !(lnN f e.rg).cl && fedF f e a
 else if e.kd = 5 ∨ e.kd = 7 then !(lnN f e.rg).cl && refF (lnN f e.rg).R a
 else if e.kd = 6 then shutF (lnN f e.rg) a
 else if e.kd = 8 then decide (f.now ≤ e.vl) && decide (e.vl - f.now < 1048576)
 else if e.kd = 10 then !f.en
 else fedF f e a
section
variable {w w' : World} {B F : Nat} {f : Fb} {z : Fv}
set_option maxHeartbeats 4000000 in
set_option maxRecDepth 100000 in
theorem fbCan (e : Ev) (a : Ak) (h : FabAt w B F f z) (ok : FbOk f) (hr : onLane e.kd → 0 ≤ e.rg ∧ e.rg < (f.p.rs.length : Int)) (ht : e.tk ≤ 18446744073709551615) (hev : e.vl ≤ 18446744073709551615) :
  Calls Tryz.prog 47 #[.pointer (some ⟨F, 0, none⟩), .agg (evC e), .agg (akC a)] w fun q w' => q = .returned (.bool (canF f e a)) ∧ Below w.heap.size w w' := by
 have hb := ((Below.refl w.heap.size w).alloc (Nat.le_refl _) (.cells (evC e) 43)).alloc (by simp) (.cells (akC a) 63)
 have le := (Lies.made w 43 (evC e)).alloc (.cells (akC a) 63)
 have la := Lies.made (w.alloc (.cells (evC e) 43)) 63 (akC a)
 rw [show (w.alloc (.cells (evC e) 43)).heap.size = w.heap.size + 1 by simp] at la
 have h1 := h.later hb
 have HFE : Hid (∀ q, Below ((w.alloc (.cells (evC e) 43)).alloc (.cells (akC a) 63)).heap.size ((w.alloc (.cells (evC e) 43)).alloc (.cells (akC a) 63)) q → Calls Tryz.prog 56 #[.pointer (some ⟨F, 0, none⟩), .agg (evC e), .agg (akC a)] q fun r w' => r = .returned (.bool (fedF f e a)) ∧ Below q.heap.size q w') := fun q hq => fbFed e a (h1.later hq) ok hr ht
 obtain ⟨FD, hFD⟩ : ∃ b, canF f e a = b := ⟨_, rfl⟩
 rw [hFD]
 unfold canF at hFD
 obtain ⟨fd, hfd⟩ : ∃ b, fedF f e a = b := ⟨_, rfl⟩
 rw [hfd] at hFD HFE
 clear hfd
 have d0 := (le.cell 0).trans (show _ = some (Value.int .i64 e.th) from rfl)
 have d1 := (le.cell 1).trans (show _ = some (Value.int .i64 e.kd) from rfl)
 have d2 := (le.cell 2).trans (show _ = some (Value.int .i64 e.rg) from rfl)
 have d3 := (le.cell 3).trans (show _ = some (Value.int .u64 (e.tk : Int)) from rfl)
 have d4 := (le.cell 4).trans (show _ = some (Value.int .u64 (e.vl : Int)) from rfl)
 have a0 := (la.cell 0).trans (show _ = some (.int .i64 a.kd) from rfl)
 have a1 := (la.cell 1).trans (show _ = some (.int .i64 a.rg) from rfl)
 have a2 := (la.cell 2).trans (show _ = some (.int .i64 a.md) from rfl)
 have a3 := (la.cell 3).trans (show _ = some (.int .i64 a.rd) from rfl)
 have a4 := (la.cell 4).trans (show _ = some (.int .u64 (a.tk : Int)) from rfl)
 have a5 := (la.cell 5).trans (show _ = some (.int .u64 (a.vl : Int)) from rfl)
 have hel := le.lt
 have hal := la.lt
 have hlf := h1.lt
 obtain ⟨hnb1, hnb2⟩ := ok.nb
 have HC := Lib.hid h1.cells
 have HL : Hid (onLane e.kd → ∃ (r cap : Nat) (pre post : List Value), z.lv = .slice (some ⟨r, 0, none⟩) f.p.rs.length cap ∧ f.p.rs.length ≤ cap ∧ cap ≤ 9223372036854775807 ∧ pre.length = e.rg.toNat * 207 ∧ RgAt ((w.alloc (.cells (evC e) 43)).alloc (.cells (akC a) 63)) r 97 pre (.bool (lnN f e.rg).cl :: post) (lnN f e.rg).R ∧
  ((w.alloc (.cells (evC e) 43)).alloc (.cells (akC a) 63)).cell? ⟨r, e.rg.toNat * 207 + 206, none⟩ = some (.bool (lnN f e.rg).cl)) := fun hk => by
  obtain ⟨r, cap, pre, post, x1, x2, x3, x4, x5, x6, x7⟩ := h1.lane ok (hr hk).1 (hr hk).2
  exact ⟨r, cap, pre, post, x1, x2, x3, x5, x6, x7⟩
 obtain ⟨th, kd, rg, tk, vl⟩ := e
 dsimp only at *
 have HR := Lib.hid hr
 generalize hW : (w.alloc (.cells (evC ⟨th, kd, rg, tk, vl⟩) 43)).alloc (.cells (akC a) 63) = W at *
 have HB := Lib.hid hb
 clear hb le la h1 h ok hr
 rcases Classical.em (kd = 1) with hk | hk
 ·subst hk
  rw [if_pos rfl] at hFD
  obtain ⟨r, cap, pre, post, z1, z2, z3, z4, z5, z6⟩ := HL.out (by unfold onLane; omega)
  obtain ⟨g0, g1⟩ := HR.out (by unfold onLane; omega)
  obtain ⟨_, _, _, _, c4, _⟩ := HC.out
  rw [z1] at c4
  obtain ⟨i, rfl⟩ : ∃ i : Nat, rg = (i : Int) := ⟨rg.toNat, by omega⟩
  rw [Int.toNat_natCast] at z4 z6
  obtain ⟨n, hn⟩ : ∃ n, f.p.rs.length = n := ⟨_, rfl⟩
  rw [hn] at c4 z2 g1
  obtain ⟨x, hx⟩ : ∃ x, lnN f (i : Int) = x := ⟨_, rfl⟩
  rw [hx] at hFD z5 z6
  clear HL HR HC z1 z5 hx hn
  obtain ⟨cl, hcl⟩ : ∃ c, x.cl = c := ⟨_, rfl⟩
  rw [hcl] at hFD z6
  clear hcl
  cases cl
  ·have HX := Lib.hid (show FD = fd from hFD.symm)
   clear hFD
   go_enter Tryz.func47, Tryz.ntmps47
   go_upto_region 1 with (fail)
   go_wp2_with fail
   go_still_tail 14, (by kernel_rfl)
   clear d0 d1 d2 d3 d4 a0 a1 a2 a3 a4 a5 c4
   go_wp2_with fail
   refine (HFE.out _ (Below.refl _ _).drew).mono ?_
   rintro r w3 ⟨rfl, hb3⟩
   go_wp2_with fail
   go_ret
   exact ⟨ret_bool (by rw [HX.out]), HB.out.drew.trans (hb3.mono HB.out.size)⟩
  ·have HX := Lib.hid (show FD = false from hFD.symm)
   clear hFD
   go_enter Tryz.func47, Tryz.ntmps47
   go_upto_region 1 with (fail)
   go_wp2_with fail
   go_quiet (fail)
   all_goals
    go_wp2_with fail
    go_ret
    exact ⟨ret_bool (by rw [HX.out]), below_drewN HB.out _⟩
 rw [if_neg hk] at hFD
 have k1 : (kd == 1) = false := beq_eq_false_iff_ne.2 hk
 rcases Classical.em (kd = 5 ∨ kd = 7) with h57 | h57
 ·rw [if_pos h57] at hFD
  obtain ⟨r, cap, pre, post, z1, z2, z3, z4, z5, z6⟩ := HL.out (by unfold onLane; omega)
  obtain ⟨g0, g1⟩ := HR.out (by unfold onLane; omega)
  obtain ⟨_, _, _, _, c4, _⟩ := HC.out
  rw [z1] at c4
  obtain ⟨i, rfl⟩ : ∃ i : Nat, rg = (i : Int) := ⟨rg.toNat, by omega⟩
  rw [Int.toNat_natCast] at z4 z6
  obtain ⟨n, hn⟩ : ∃ n, f.p.rs.length = n := ⟨_, rfl⟩
  rw [hn] at c4 z2 g1
  obtain ⟨x, hx⟩ : ∃ x, lnN f (i : Int) = x := ⟨_, rfl⟩
  rw [hx] at hFD z5 z6
  have HRF := Lib.hid (fun q (hq : Below W.heap.size W q) => lnRefuses a (i * 207) (z5.later hq) z4)
  clear HL HR HC z1 z5 hx hn hk
  obtain ⟨cl, hcl⟩ : ∃ c, x.cl = c := ⟨_, rfl⟩
  rw [hcl] at hFD z6
  clear hcl
  obtain ⟨rf, hrf⟩ : ∃ c, refF x.R a = c := ⟨_, rfl⟩
  rw [hrf] at hFD HRF
  clear hrf
  cases cl
  ·have HX := Lib.hid (show FD = rf from hFD.symm)
   clear hFD
   rcases h57 with h5 | h7
   ·subst h5
    go_enter Tryz.func47, Tryz.ntmps47
    go_upto_region 1 with (fail)
    go_wp2_with fail
    go_still_tail 19, (by kernel_rfl)
    clear d0 d1 d2 d3 d4 a0 a1 a2 a3 a4 a5 c4
    go_wp2_with fail
    refine (HRF.out _ (Below.refl _ _).drew).mono ?_
    rintro r w3 ⟨rfl, hb3⟩
    go_wp2_with fail
    go_ret
    exact ⟨ret_bool (by rw [HX.out]), HB.out.drew.trans (hb3.mono HB.out.size)⟩
   ·subst h7
    go_enter Tryz.func47, Tryz.ntmps47
    go_upto_region 1 with (fail)
    go_wp2_with fail
    go_still_tail 19, (by kernel_rfl)
    clear d0 d1 d2 d3 d4 a0 a1 a2 a3 a4 a5 c4
    go_wp2_with fail
    refine (HRF.out _ (Below.refl _ _).drew).mono ?_
    rintro r w3 ⟨rfl, hb3⟩
    go_wp2_with fail
    go_ret
    exact ⟨ret_bool (by rw [HX.out]), HB.out.drew.trans (hb3.mono HB.out.size)⟩
  ·have HX := Lib.hid (show FD = false from hFD.symm)
   clear hFD
   rcases h57 with h5 | h7
   ·subst h5
    go_enter Tryz.func47, Tryz.ntmps47
    go_upto_region 1 with (fail)
    go_wp2_with fail
    go_quiet (fail)
    all_goals
     go_wp2_with fail
     go_ret
     exact ⟨ret_bool (by rw [HX.out]), below_drewN HB.out _⟩
   ·subst h7
    go_enter Tryz.func47, Tryz.ntmps47
    go_upto_region 1 with (fail)
    go_wp2_with fail
    go_quiet (fail)
    all_goals
     go_wp2_with fail
     go_ret
     exact ⟨ret_bool (by rw [HX.out]), below_drewN HB.out _⟩
 rw [if_neg h57] at hFD
 have k5 : (kd == 5) = false := beq_eq_false_iff_ne.2 (by omega)
 have k7 : (kd == 7) = false := beq_eq_false_iff_ne.2 (by omega)
 rcases Classical.em (kd = 6) with h6 | h6
 ·rw [if_pos h6] at hFD
  obtain ⟨r, cap, pre, post, z1, z2, z3, z4, z5, z6⟩ := HL.out (by unfold onLane; omega)
  obtain ⟨g0, g1⟩ := HR.out (by unfold onLane; omega)
  obtain ⟨_, _, _, _, c4, _⟩ := HC.out
  rw [z1] at c4
  obtain ⟨i, rfl⟩ : ∃ i : Nat, rg = (i : Int) := ⟨rg.toNat, by omega⟩
  rw [Int.toNat_natCast] at z4 z6
  obtain ⟨n, hn⟩ : ∃ n, f.p.rs.length = n := ⟨_, rfl⟩
  rw [hn] at c4 z2 g1
  obtain ⟨x, hx⟩ : ∃ x, lnN f (i : Int) = x := ⟨_, rfl⟩
  rw [hx] at hFD z5 z6
  have HSH := Lib.hid (fun q (hq : Below W.heap.size W q) => lnShuts x a (i * 207) (z5.later hq) z4 (cell_later z6 hq))
  clear HL HR HC z1 z5 hx hn hk h57
  obtain ⟨rf, hrf⟩ : ∃ c, shutF x a = c := ⟨_, rfl⟩
  rw [hrf] at hFD HSH
  clear hrf
  have HX := Lib.hid (show FD = rf from hFD.symm)
  clear hFD
  subst h6
  go_enter Tryz.func47, Tryz.ntmps47
  go_upto_region 1 with (fail)
  go_wp2_with fail
  go_still_tail 8, (by kernel_rfl)
  clear d0 d1 d2 d3 d4 a0 a1 a2 a3 a4 a5 c4
  go_wp2_with fail
  refine (HSH.out _ (Below.refl _ _).drew).mono ?_
  rintro r w3 ⟨rfl, hb3⟩
  go_wp2_with fail
  go_ret
  exact ⟨ret_bool (by rw [HX.out]), HB.out.drew.trans (hb3.mono HB.out.size)⟩
 rw [if_neg h6] at hFD
 have k6 : (kd == 6) = false := beq_eq_false_iff_ne.2 h6
 obtain ⟨_, _, _, _, _, c5, _, c7⟩ := HC.out
 rcases Classical.em (kd = 8) with h8 | h8
 ·rw [if_pos h8] at hFD
  clear HL HR HC hk h57
  subst h8
  have HX := Lib.hid hFD
  clear hFD
  by_cases hle : f.now ≤ vl
  ·have hge : decide ((vl : Int) ≥ (f.now : Int)) = true := decide_eq_true (by omega)
   have hsub : IntKind.u64.wrap ((vl : Int) - (f.now : Int)) = ((vl - f.now : Nat) : Int) := by rw [IntKind.wrap_u64]; omega
   go_enter Tryz.func47, Tryz.ntmps47
   go_upto_region 1 with (fail)
   go_wp2_with fail
   go_quiet (fail)
   all_goals
    go_wp2_with fail
    go_ret
    exact ⟨ret_bool (by rw [← HX.out, decide_eq_true hle, Bool.true_and]; congr 1; apply propext; omega), below_drewN HB.out _⟩
  ·have hge : decide ((vl : Int) ≥ (f.now : Int)) = false := decide_eq_false (by omega)
   go_enter Tryz.func47, Tryz.ntmps47
   go_upto_region 1 with (fail)
   go_wp2_with fail
   go_quiet (fail)
   all_goals
    go_wp2_with fail
    go_ret
    exact ⟨ret_bool (by rw [← HX.out, decide_eq_false hle]; rfl), below_drewN HB.out _⟩
 rw [if_neg h8] at hFD
 have k8 : (kd == 8) = false := beq_eq_false_iff_ne.2 h8
 rcases Classical.em (kd = 10) with h10 | h10
 ·rw [if_pos h10] at hFD
  clear HL HR HC hk h57
  subst h10
  have HX := Lib.hid hFD
  clear hFD
  go_enter Tryz.func47, Tryz.ntmps47
  go_upto_region 1 with (fail)
  go_wp2_with fail
  go_ret
  exact ⟨ret_bool (by rw [← HX.out]), HB.out⟩
 rw [if_neg h10] at hFD
 have k10 : (kd == 10) = false := beq_eq_false_iff_ne.2 h10
 have HX := Lib.hid (show FD = fd from hFD.symm)
 clear HL HR HC hk h57 hFD h6 h8 h10
 go_enter Tryz.func47, Tryz.ntmps47
 go_upto_region 1 with (fail)
 go_wp2_with fail
 refine (HFE.out _ (Below.refl _ _)).mono ?_
 rintro r w3 ⟨rfl, hb3⟩
 go_wp2_with fail
 go_ret
 exact ⟨ret_bool (by rw [HX.out]), HB.out.trans (hb3.mono HB.out.size)⟩
end
def alwB (f : Fb) (e : Ev) : Bool := decide (namesF f e = 0) && matF f e && canF f e (askF f e.th.toNat)
theorem names_has {f : Fb} {e : Ev} (h : namesF f e = 0) : rightE e = true ∧ 0 ≤ e.th ∧ e.th < (f.p.ts.length : Int) := by
 unfold namesF at h
 by_cases h1 : rightE e = true
 ·rw [if_pos h1] at h
  by_cases h2 : hasF f e.th = true
  ·unfold hasF at h2
   rw [Bool.and_eq_true, decide_eq_true_eq, decide_eq_true_eq] at h2
   exact ⟨h1, h2⟩
  ·rw [if_neg h2] at h; cases h
 ·rw [if_neg h1] at h; cases h
theorem not_wanted {c : Bool} {p q : Prop} (h : c = false) (hq : q) : if c = true then p else q := by rw [h]; exact hq
def faS (w9 : World) (x : Nat → Value) (L : Nat → Bool) (q : World) : Prop := Below w9.heap.size w9 q
theorem fa_op {w9 q : World} {x : Nat → Value} {L : Nat → Bool} {i : Nat} {v : Value} (hi : true = true) (h : faS w9 x L q) : faS w9 (updX x i v) (updL L i) q := h
section
variable {w w' : World} {B F : Nat} {f : Fb} {z : Fv}
def EvBox (w : World) (N : Nat) (th kd rg : Int) (tk vl : Nat) : Prop := w.cell? ⟨N, 0, none⟩ = some (.int .i64 th) ∧ w.cell? ⟨N, 1, none⟩ = some (.int .i64 kd) ∧ w.cell? ⟨N, 2, none⟩ = some (.int .i64 rg) ∧ w.cell? ⟨N, 3, none⟩ = some (.int .u64 (tk : Int)) ∧ w.cell? ⟨N, 4, none⟩ = some (.int .u64 (vl : Int))
abbrev evL (th kd rg : Int) (tk vl : Nat) : Array Value := #[.int .i64 th, .int .i64 kd, .int .i64 rg, .int .u64 (tk : Int), .int .u64 (vl : Int)]
set_option maxHeartbeats 4000000 in
set_option maxRecDepth 100000 in
theorem fbAllowed (e : Ev) (h : FabAt w B F f z) (ok : FbOk f) (hr : namesF f e = 0 → matF f e = true → onLane e.kd → 0 ≤ e.rg ∧ e.rg < (f.p.rs.length : Int)) (ht : e.tk ≤ 18446744073709551615) (hev : e.vl ≤ 18446744073709551615) :
  Calls Tryz.prog 16 #[.pointer (some ⟨F, 0, none⟩), .agg (evC e)] w fun q w' => q = .returned (.bool (alwB f e)) ∧ Below w.heap.size w w' := by
 have hb := (Below.refl w.heap.size w).alloc (Nat.le_refl _) (.cells (evC e) 43)
 have le := Lies.made w 43 (evC e)
 have h1 := h.later hb
 obtain ⟨th, kd, rg, tk, vl⟩ := e
 obtain ⟨N, hN⟩ : ∃ N, w.heap.size = N := ⟨_, rfl⟩
 rw [hN] at le
 have hlf := h1.lt
 have HX : Hid (alwB f ⟨th, kd, rg, tk, vl⟩ = (decide (namesF f ⟨th, kd, rg, tk, vl⟩ = 0) && matF f ⟨th, kd, rg, tk, vl⟩ && canF f ⟨th, kd, rg, tk, vl⟩ (askF f th.toNat))) := rfl
 generalize hW : w.alloc (.cells (evC ⟨th, kd, rg, tk, vl⟩) 43) = W at *
 have HE : Hid (∀ q, Below W.heap.size W q → EvBox q N th kd rg tk vl) := fun q hq => by
  have l3 := le.below hq le.lt
  exact ⟨l3.cell 0, l3.cell 1, l3.cell 2, l3.cell 3, l3.cell 4⟩
 have HNA : Hid (∀ q, Below W.heap.size W q → Calls Tryz.prog 45 #[.pointer (some ⟨F, 0, none⟩), .agg (evL th kd rg tk vl)] q fun r w' => r = .returned (.int .i64 (namesF f ⟨th, kd, rg, tk, vl⟩)) ∧ EvBox w' N th kd rg tk vl ∧ Below W.heap.size W w') := fun q hq =>
  (fbNames ⟨th, kd, rg, tk, vl⟩ (h1.later hq) ok).mono (fun r w' ⟨h2, h3⟩ => ⟨h2, HE.out _ (hq.trans (h3.mono hq.size)), hq.trans (h3.mono hq.size)⟩)
 have HB := Lib.hid hb
 have HBR := Lib.hid (Below.refl W.heap.size W)
 have hNW := le.lt
 obtain ⟨d0, d1, d2, d3, d4⟩ := HE.out W (Below.refl _ _)
 by_cases hna : namesF f ⟨th, kd, rg, tk, vl⟩ = 0
 case neg =>
  have HX : Hid (alwB f ⟨th, kd, rg, tk, vl⟩ = false) := by show _ = _; rw [HX.out, decide_eq_false hna]; rfl
  obtain ⟨m, hm⟩ : ∃ m, namesF f ⟨th, kd, rg, tk, vl⟩ = m := ⟨_, rfl⟩
  rw [hm] at HNA hna
  have hm0 : (m == 0) = false := beq_eq_false_iff_ne.2 hna
  clear hna hm hb le h1 h ok hr
  go_enter Tryz.func16, Tryz.ntmps16
  go_upto_region 1 with (fail)
  refine wp_region_relyx (faS W) (fkV W.heap.size [.eq (.pointer (some ⟨F, 0, none⟩)), .eq (.agg (evL th kd rg tk vl)), .eq (.int .i64 m), .eq (.bool false), .eq (.bool false), .eq undef, .eq undef, .eq undef, .eq (.bool false), .eq (.bool false), .eq undef, .eq undef, .eq undef, .eq undef, .eq undef, .eq undef, .eq undef, .eq (.bool false), .eq (.bool false)]) [some 5, some 6, some 7, some 8, some 9, some 10, some 11, some 12, some 13, some 14, some 15, some 16, some 17, some 18, some 19, some 20, some 21, some 22, some 4] [[], [], [0, 1], [2], [3], [4], [4], [5, 6, 4], [4, 7], [8], [9], [9], [9], [9], [13, 9], [12, 14, 9], [10, 11, 15, 9], [9, 16], [17]] [[], [], [0, 1], [0, 1, 2], [0, 1, 2, 3], [3], [3], [3, 5, 6], [3, 5, 6, 7], [5, 6, 7, 8], [8], [8], [8], [8], [8, 13], [8, 12, 13, 14], [8, 10, 11, 12, 14, 15], [8, 10, 11, 15, 16], [0, 1, 2, 3, 4, 5, 6, 7, 8, 9, 10, 11, 12, 13, 14, 15, 16, 17]] [[1, 3, 4, 5, 6, 7, 8, 9, 10, 11, 12, 13, 14, 15, 16, 17], [0, 3, 4, 5, 6, 7, 8, 9, 10, 11, 12, 13, 14, 15, 16, 17], [5, 6, 7, 8, 9, 10, 11, 12, 13, 14, 15, 16, 17], [5, 6, 7, 8, 9, 10, 11, 12, 13, 14, 15, 16, 17], [9, 10, 11, 12, 13, 14, 15, 16, 17], [4, 6, 8, 9, 10, 11, 12, 13, 14, 15, 16, 17], [4, 5, 8, 9, 10, 11, 12, 13, 14, 15, 16, 17], [4, 10, 11, 12, 13, 14, 15, 16, 17], [4, 10, 11, 12, 13, 14, 15, 16, 17], [0, 1, 2, 4], [0, 1, 2, 3, 4, 9, 11, 12, 13, 14, 15, 17], [0, 1, 2, 3, 4, 9, 10, 12, 13, 14, 15, 17], [0, 1, 2, 3, 4, 9, 10, 11, 13, 14, 16, 17], [0, 1, 2, 3, 4, 9, 10, 11, 12, 15, 16, 17], [0, 1, 2, 3, 4, 9, 10, 11, 12, 16, 17], [0, 1, 2, 3, 4, 9, 10, 11, 17], [0, 1, 2, 3, 4, 9], [0, 1, 2, 3, 4, 9, 13], []] [0, 1, 2, 3, 4, 5, 6, 7, 8, 9, 10, 11, 12, 13, 14, 15, 16, 17, 18] 19 (by kernel_rfl) (by kernel_rfl) (by kernel_rfl) (by kernel_rfl) ?rS (fun j h1 h2 => absurd (Nat.lt_of_lt_of_le h1 (Nat.le_trans (by decide) h2)) (Nat.lt_irrefl _)) ?rT ?rE
  case rS => exact below_drewN (Below.refl _ _) 1
  case rT =>
   refine RelyStepsX.cons (RelyStepX.mk [] [1, 3, 4, 5, 6, 7, 8, 9, 10, 11, 12, 13, 14, 15, 16, 17] rfl rfl rfl (fun xv Lv wS hS hL hLd hV bq hb K hK => ?_)) ?_
   ·clear hV
    simp only [putsOf, List.foldl_cons, List.foldl_nil, List.getD_cons_zero, List.getD_cons_succ, List.getD_nil, cond_true, cond_false, Act.put, List.setIfInBounds_toArray, List.set_cons_zero, List.set_cons_succ] at hb
    subst hb
    rw [if_pos (by rfl)]
    go_wp2_with fail
    exact hK.out _ _ ⟨_, rfl, fa_op (i := 0) rfl hS, rfl, AllPX.same _⟩
   refine RelyStepsX.cons (RelyStepX.mk [] [0, 3, 4, 5, 6, 7, 8, 9, 10, 11, 12, 13, 14, 15, 16, 17] rfl rfl rfl (fun xv Lv wS hS hL hLd hV bq hb K hK => ?_)) ?_
   ·clear hV
    simp only [putsOf, List.foldl_cons, List.foldl_nil, List.getD_cons_zero, List.getD_cons_succ, List.getD_nil, cond_true, cond_false, Act.put, List.setIfInBounds_toArray, List.set_cons_zero, List.set_cons_succ] at hb
    subst hb
    rw [if_pos (by rfl)]
    (obtain ⟨X0, X1, X2, X3, X4⟩ := HE.out _ hS)
    go_wp2_with fail
    exact hK.out _ _ ⟨_, rfl, fa_op (i := 1) rfl hS, rfl, AllPX.same _⟩
   refine RelyStepsX.cons (RelyStepX.mk [0, 1] [5, 6, 7, 8, 9, 10, 11, 12, 13, 14, 15, 16, 17] rfl rfl rfl (fun xv Lv wS hS hL hLd hV bq hb K hK => ?_)) ?_
   ·obtain ⟨h0, h1, _⟩ := hV
    have h0 : xv 0 = _ := h0
    have h1 : xv 1 = _ := h1
    simp only [putsOf, List.foldl_cons, List.foldl_nil, List.getD_cons_zero, List.getD_cons_succ, List.getD_nil, cond_true, cond_false, Act.put, List.setIfInBounds_toArray, List.set_cons_zero, List.set_cons_succ, h0, h1] at hb
    clear h0
    clear h1
    subst hb
    rw [if_pos (by rfl)]
    have HSS := Lib.hid hS
    clear hS
    go_wp2_with fail
    refine (HNA.out wS HSS.out).mono ?_
    rintro r w' ⟨rfl, _, hb3⟩
    exact hK.out _ _ ⟨_, rfl, hb3, rfl, AllPX.of _ (fun j hj _ h => fkV_eqs rfl hj h)⟩
   refine RelyStepsX.cons (RelyStepX.mk [2] [5, 6, 7, 8, 9, 10, 11, 12, 13, 14, 15, 16, 17] rfl rfl rfl (fun xv Lv wS hS hL hLd hV bq hb K hK => ?_)) ?_
   ·obtain ⟨h2, _⟩ := hV
    have h2 : xv 2 = _ := h2
    simp only [putsOf, List.foldl_cons, List.foldl_nil, List.getD_cons_zero, List.getD_cons_succ, List.getD_nil, cond_true, cond_false, Act.put, List.setIfInBounds_toArray, List.set_cons_zero, List.set_cons_succ, h2] at hb
    clear h2
    subst hb
    rw [if_pos (by rfl)]
    go_wp2_with fail
    exact hK.out _ _ ⟨_, rfl, fa_op (i := 3) rfl hS, rfl, AllPX.same _⟩
   refine RelyStepsX.cons (RelyStepX.mk [3] [9, 10, 11, 12, 13, 14, 15, 16, 17] rfl rfl rfl (fun xv Lv wS hS hL hLd hV bq hb K hK => ?_)) ?_
   ·obtain ⟨h3, _⟩ := hV
    have h3 : xv 3 = _ := h3
    simp only [putsOf, List.foldl_cons, List.foldl_nil, List.getD_cons_zero, List.getD_cons_succ, List.getD_nil, cond_true, cond_false, Act.put, List.setIfInBounds_toArray, List.set_cons_zero, List.set_cons_succ, h3] at hb
    clear h3
    subst hb
    rw [if_pos (by rfl)]
    go_wp2_with fail
    exact hK.out _ _ ⟨_, rfl, fa_op (i := 4) rfl hS, rfl, AllPX.same _⟩
   refine RelyStepsX.cons (RelyStepX.mk [4] [4, 6, 8, 9, 10, 11, 12, 13, 14, 15, 16, 17] rfl rfl rfl (fun xv Lv wS hS hL hLd hV bq hb K hK => ?_)) ?_
   ·obtain ⟨h4, _⟩ := hV
    have h4 : xv 4 = _ := h4
    simp only [putsOf, List.foldl_cons, List.foldl_nil, List.getD_cons_zero, List.getD_cons_succ, List.getD_nil, cond_true, cond_false, Act.put, List.setIfInBounds_toArray, List.set_cons_zero, List.set_cons_succ, h4] at hb
    clear h4
    subst hb
    refine not_wanted (by rfl) ?_
    exact hK.out _ _ ⟨undef, rfl, hS, rfl, AllPX.same _⟩
   refine RelyStepsX.cons (RelyStepX.mk [4] [4, 5, 8, 9, 10, 11, 12, 13, 14, 15, 16, 17] rfl rfl rfl (fun xv Lv wS hS hL hLd hV bq hb K hK => ?_)) ?_
   ·obtain ⟨h4, _⟩ := hV
    have h4 : xv 4 = _ := h4
    simp only [putsOf, List.foldl_cons, List.foldl_nil, List.getD_cons_zero, List.getD_cons_succ, List.getD_nil, cond_true, cond_false, Act.put, List.setIfInBounds_toArray, List.set_cons_zero, List.set_cons_succ, h4] at hb
    clear h4
    subst hb
    refine not_wanted (by rfl) ?_
    exact hK.out _ _ ⟨undef, rfl, hS, rfl, AllPX.same _⟩
   refine RelyStepsX.cons (RelyStepX.mk [5, 6, 4] [4, 10, 11, 12, 13, 14, 15, 16, 17] rfl rfl rfl (fun xv Lv wS hS hL hLd hV bq hb K hK => ?_)) ?_
   ·obtain ⟨h5, h6, h4, _⟩ := hV
    have h5 : xv 5 = _ := h5
    have h6 : xv 6 = _ := h6
    have h4 : xv 4 = _ := h4
    simp only [putsOf, List.foldl_cons, List.foldl_nil, List.getD_cons_zero, List.getD_cons_succ, List.getD_nil, cond_true, cond_false, Act.put, List.setIfInBounds_toArray, List.set_cons_zero, List.set_cons_succ, h5, h6, h4] at hb
    clear h5
    clear h6
    clear h4
    subst hb
    refine not_wanted (by rfl) ?_
    exact hK.out _ _ ⟨undef, rfl, hS, rfl, AllPX.same _⟩
   refine RelyStepsX.cons (RelyStepX.mk [4, 7] [4, 10, 11, 12, 13, 14, 15, 16, 17] rfl rfl rfl (fun xv Lv wS hS hL hLd hV bq hb K hK => ?_)) ?_
   ·obtain ⟨h4, h7, _⟩ := hV
    have h4 : xv 4 = _ := h4
    have h7 : xv 7 = _ := h7
    simp only [putsOf, List.foldl_cons, List.foldl_nil, List.getD_cons_zero, List.getD_cons_succ, List.getD_nil, cond_true, cond_false, Act.put, List.setIfInBounds_toArray, List.set_cons_zero, List.set_cons_succ, h4, h7] at hb
    clear h4
    clear h7
    subst hb
    rw [if_pos (by rfl)]
    go_wp2_with fail
    exact hK.out _ _ ⟨_, rfl, fa_op (i := 8) rfl hS, rfl, AllPX.same _⟩
   refine RelyStepsX.cons (RelyStepX.mk [8] [0, 1, 2, 4] rfl rfl rfl (fun xv Lv wS hS hL hLd hV bq hb K hK => ?_)) ?_
   ·obtain ⟨h8, _⟩ := hV
    have h8 : xv 8 = _ := h8
    simp only [putsOf, List.foldl_cons, List.foldl_nil, List.getD_cons_zero, List.getD_cons_succ, List.getD_nil, cond_true, cond_false, Act.put, List.setIfInBounds_toArray, List.set_cons_zero, List.set_cons_succ, h8] at hb
    clear h8
    subst hb
    rw [if_pos (by rfl)]
    go_wp2_with fail
    exact hK.out _ _ ⟨_, rfl, fa_op (i := 9) rfl hS, rfl, AllPX.same _⟩
   refine RelyStepsX.cons (RelyStepX.mk [9] [0, 1, 2, 3, 4, 9, 11, 12, 13, 14, 15, 17] rfl rfl rfl (fun xv Lv wS hS hL hLd hV bq hb K hK => ?_)) ?_
   ·obtain ⟨h9, _⟩ := hV
    have h9 : xv 9 = _ := h9
    simp only [putsOf, List.foldl_cons, List.foldl_nil, List.getD_cons_zero, List.getD_cons_succ, List.getD_nil, cond_true, cond_false, Act.put, List.setIfInBounds_toArray, List.set_cons_zero, List.set_cons_succ, h9] at hb
    clear h9
    subst hb
    refine not_wanted (by rfl) ?_
    exact hK.out _ _ ⟨undef, rfl, hS, rfl, AllPX.same _⟩
   refine RelyStepsX.cons (RelyStepX.mk [9] [0, 1, 2, 3, 4, 9, 10, 12, 13, 14, 15, 17] rfl rfl rfl (fun xv Lv wS hS hL hLd hV bq hb K hK => ?_)) ?_
   ·obtain ⟨h9, _⟩ := hV
    have h9 : xv 9 = _ := h9
    simp only [putsOf, List.foldl_cons, List.foldl_nil, List.getD_cons_zero, List.getD_cons_succ, List.getD_nil, cond_true, cond_false, Act.put, List.setIfInBounds_toArray, List.set_cons_zero, List.set_cons_succ, h9] at hb
    clear h9
    subst hb
    refine not_wanted (by rfl) ?_
    exact hK.out _ _ ⟨undef, rfl, hS, rfl, AllPX.same _⟩
   refine RelyStepsX.cons (RelyStepX.mk [9] [0, 1, 2, 3, 4, 9, 10, 11, 13, 14, 16, 17] rfl rfl rfl (fun xv Lv wS hS hL hLd hV bq hb K hK => ?_)) ?_
   ·obtain ⟨h9, _⟩ := hV
    have h9 : xv 9 = _ := h9
    simp only [putsOf, List.foldl_cons, List.foldl_nil, List.getD_cons_zero, List.getD_cons_succ, List.getD_nil, cond_true, cond_false, Act.put, List.setIfInBounds_toArray, List.set_cons_zero, List.set_cons_succ, h9] at hb
    clear h9
    subst hb
    refine not_wanted (by rfl) ?_
    exact hK.out _ _ ⟨undef, rfl, hS, rfl, AllPX.same _⟩
   refine RelyStepsX.cons (RelyStepX.mk [9] [0, 1, 2, 3, 4, 9, 10, 11, 12, 15, 16, 17] rfl rfl rfl (fun xv Lv wS hS hL hLd hV bq hb K hK => ?_)) ?_
   ·obtain ⟨h9, _⟩ := hV
    have h9 : xv 9 = _ := h9
    simp only [putsOf, List.foldl_cons, List.foldl_nil, List.getD_cons_zero, List.getD_cons_succ, List.getD_nil, cond_true, cond_false, Act.put, List.setIfInBounds_toArray, List.set_cons_zero, List.set_cons_succ, h9] at hb
    clear h9
    subst hb
    refine not_wanted (by rfl) ?_
    exact hK.out _ _ ⟨undef, rfl, hS, rfl, AllPX.same _⟩
   refine RelyStepsX.cons (RelyStepX.mk [13, 9] [0, 1, 2, 3, 4, 9, 10, 11, 12, 16, 17] rfl rfl rfl (fun xv Lv wS hS hL hLd hV bq hb K hK => ?_)) ?_
   ·obtain ⟨h13, h9, _⟩ := hV
    have h13 : xv 13 = _ := h13
    have h9 : xv 9 = _ := h9
    simp only [putsOf, List.foldl_cons, List.foldl_nil, List.getD_cons_zero, List.getD_cons_succ, List.getD_nil, cond_true, cond_false, Act.put, List.setIfInBounds_toArray, List.set_cons_zero, List.set_cons_succ, h13, h9] at hb
    clear h13
    clear h9
    subst hb
    refine not_wanted (by rfl) ?_
    exact hK.out _ _ ⟨undef, rfl, hS, rfl, AllPX.same _⟩
   refine RelyStepsX.cons (RelyStepX.mk [12, 14, 9] [0, 1, 2, 3, 4, 9, 10, 11, 17] rfl rfl rfl (fun xv Lv wS hS hL hLd hV bq hb K hK => ?_)) ?_
   ·obtain ⟨h12, h14, h9, _⟩ := hV
    have h12 : xv 12 = _ := h12
    have h14 : xv 14 = _ := h14
    have h9 : xv 9 = _ := h9
    simp only [putsOf, List.foldl_cons, List.foldl_nil, List.getD_cons_zero, List.getD_cons_succ, List.getD_nil, cond_true, cond_false, Act.put, List.setIfInBounds_toArray, List.set_cons_zero, List.set_cons_succ, h12, h14, h9] at hb
    clear h12
    clear h14
    clear h9
    subst hb
    refine not_wanted (by rfl) ?_
    exact hK.out _ _ ⟨undef, rfl, hS, rfl, AllPX.same _⟩
   refine RelyStepsX.cons (RelyStepX.mk [10, 11, 15, 9] [0, 1, 2, 3, 4, 9] rfl rfl rfl (fun xv Lv wS hS hL hLd hV bq hb K hK => ?_)) ?_
   ·obtain ⟨h10, h11, h15, h9, _⟩ := hV
    have h10 : xv 10 = _ := h10
    have h11 : xv 11 = _ := h11
    have h15 : xv 15 = _ := h15
    have h9 : xv 9 = _ := h9
    simp only [putsOf, List.foldl_cons, List.foldl_nil, List.getD_cons_zero, List.getD_cons_succ, List.getD_nil, cond_true, cond_false, Act.put, List.setIfInBounds_toArray, List.set_cons_zero, List.set_cons_succ, h10, h11, h15, h9] at hb
    clear h10
    clear h11
    clear h15
    clear h9
    subst hb
    refine not_wanted (by rfl) ?_
    exact hK.out _ _ ⟨undef, rfl, hS, rfl, AllPX.same _⟩
   refine RelyStepsX.cons (RelyStepX.mk [9, 16] [0, 1, 2, 3, 4, 9, 13] rfl rfl rfl (fun xv Lv wS hS hL hLd hV bq hb K hK => ?_)) ?_
   ·obtain ⟨h9, h16, _⟩ := hV
    have h9 : xv 9 = _ := h9
    have h16 : xv 16 = _ := h16
    simp only [putsOf, List.foldl_cons, List.foldl_nil, List.getD_cons_zero, List.getD_cons_succ, List.getD_nil, cond_true, cond_false, Act.put, List.setIfInBounds_toArray, List.set_cons_zero, List.set_cons_succ, h9, h16] at hb
    clear h9
    clear h16
    subst hb
    rw [if_pos (by rfl)]
    go_wp2_with fail
    exact hK.out _ _ ⟨_, rfl, fa_op (i := 17) rfl hS, rfl, AllPX.same _⟩
   refine RelyStepsX.cons (RelyStepX.mk [17] [] rfl rfl rfl (fun xv Lv wS hS hL hLd hV bq hb K hK => ?_)) ?_
   ·obtain ⟨h17, _⟩ := hV
    have h17 : xv 17 = _ := h17
    simp only [putsOf, List.foldl_cons, List.foldl_nil, List.getD_cons_zero, List.getD_cons_succ, List.getD_nil, cond_true, cond_false, Act.put, List.setIfInBounds_toArray, List.set_cons_zero, List.set_cons_succ, h17] at hb
    clear h17
    subst hb
    rw [if_pos (by rfl)]
    go_wp2_with fail
    exact hK.out _ _ ⟨_, rfl, fa_op (i := 18) rfl hS, rfl, AllPX.same _⟩
   exact RelyStepsX.nil
  case rE =>
   intro xv Lv wE hS hLall hV
   have h18 := hV 18 (by decide) (by decide)
   clear hV
   simp only [putsOf, List.foldl_cons, List.foldl_nil, List.getD_cons_zero, List.getD_cons_succ, List.getD_nil, cond_true, cond_false, Act.put, List.setIfInBounds_toArray, List.set_cons_zero, List.set_cons_succ]
   have h18 : xv 18 = _ := h18
   rw [h18]; clear h18
   generalize xv 0 = y0 at *
   generalize xv 1 = y1 at *
   generalize xv 2 = y2 at *
   generalize xv 3 = y3 at *
   generalize xv 4 = y4 at *
   generalize xv 5 = y5 at *
   generalize xv 6 = y6 at *
   generalize xv 7 = y7 at *
   generalize xv 8 = y8 at *
   generalize xv 9 = y9 at *
   generalize xv 10 = y10 at *
   generalize xv 11 = y11 at *
   generalize xv 12 = y12 at *
   generalize xv 13 = y13 at *
   generalize xv 14 = y14 at *
   generalize xv 15 = y15 at *
   generalize xv 16 = y16 at *
   generalize xv 17 = y17 at *
   have HB3 := Lib.hid hS
   clear hS hLall
   go_wp2_with fail
   go_ret
   exact ⟨ret_bool (by rw [HX.out]), by rw [← hN]; exact HB.out.trans (HB3.out.mono HB.out.size)⟩
 obtain ⟨hri, ht0, ht1⟩ := names_has hna
 dsimp only at ht0 ht1
 obtain ⟨t, rfl⟩ : ∃ t : Nat, th = (t : Int) := ⟨th.toNat, by omega⟩
 have htl : t < f.p.ts.length := by omega
 rw [hna] at HNA
 have HMA : Hid (∀ q, Below W.heap.size W q → Calls Tryz.prog 46 #[.pointer (some ⟨F, 0, none⟩), .agg (evL t kd rg tk vl)] q fun r w' => r = .returned (.bool (matF f ⟨t, kd, rg, tk, vl⟩)) ∧ EvBox w' N t kd rg tk vl ∧ Below W.heap.size W w') := fun q hq =>
  (fbMatches ⟨t, kd, rg, tk, vl⟩ t rfl htl (h1.later hq) ok).mono (fun r w' ⟨h2, h3⟩ => ⟨h2, HE.out _ (hq.trans (h3.mono hq.size)), hq.trans (h3.mono hq.size)⟩)
 have HAS : Hid (∀ q, Below W.heap.size W q → Calls Tryz.prog 48 #[.pointer (some ⟨F, 0, none⟩), .int .i64 (t : Int)] q fun r w' => r = .returned (.agg (akC (askF f t))) ∧ EvBox w' N t kd rg tk vl ∧ Below W.heap.size W w') := fun q hq =>
  (fbAsk t htl (h1.later hq) ok).mono (fun r w' ⟨h2, h3⟩ => ⟨h2, HE.out _ (hq.trans (h3.mono hq.size)), hq.trans (h3.mono hq.size)⟩)
 by_cases hma : matF f ⟨t, kd, rg, tk, vl⟩ = true
 case neg =>
  rw [Bool.not_eq_true] at hma
  have HX : Hid (alwB f ⟨t, kd, rg, tk, vl⟩ = false) := by show _ = _; rw [HX.out, hma, Bool.and_false]; rfl
  rw [hma] at HMA
  clear hna hb le h1 h ok hr HAS hma
  go_enter Tryz.func16, Tryz.ntmps16
  go_upto_region 1 with (fail)
  refine wp_region_relyx (faS W) (fkV W.heap.size [.eq (.pointer (some ⟨F, 0, none⟩)), .eq (.agg (evL (t : Int) kd rg tk vl)), .eq (.int .i64 0), .eq (.bool true), .eq (.bool true), .eq (.pointer (some ⟨F, 0, none⟩)), .eq (.agg (evL (t : Int) kd rg tk vl)), .eq (.bool false), .eq (.bool false), .eq (.bool false), .eq undef, .eq undef, .eq undef, .eq undef, .eq undef, .eq undef, .eq undef, .eq (.bool false), .eq (.bool false)]) [some 5, some 6, some 7, some 8, some 9, some 10, some 11, some 12, some 13, some 14, some 15, some 16, some 17, some 18, some 19, some 20, some 21, some 22, some 4] [[], [], [0, 1], [2], [3], [4], [4], [5, 6, 4], [4, 7], [8], [9], [9], [9], [9], [13, 9], [12, 14, 9], [10, 11, 15, 9], [9, 16], [17]] [[], [], [0, 1], [0, 1, 2], [0, 1, 2, 3], [3], [3], [3, 5, 6], [3, 5, 6, 7], [5, 6, 7, 8], [8], [8], [8], [8], [8, 13], [8, 12, 13, 14], [8, 10, 11, 12, 14, 15], [8, 10, 11, 15, 16], [0, 1, 2, 3, 4, 5, 6, 7, 8, 9, 10, 11, 12, 13, 14, 15, 16, 17]] [[1, 3, 4, 5, 6, 7, 8, 9, 10, 11, 12, 13, 14, 15, 16, 17], [0, 3, 4, 5, 6, 7, 8, 9, 10, 11, 12, 13, 14, 15, 16, 17], [5, 6, 7, 8, 9, 10, 11, 12, 13, 14, 15, 16, 17], [5, 6, 7, 8, 9, 10, 11, 12, 13, 14, 15, 16, 17], [9, 10, 11, 12, 13, 14, 15, 16, 17], [4, 6, 8, 9, 10, 11, 12, 13, 14, 15, 16, 17], [4, 5, 8, 9, 10, 11, 12, 13, 14, 15, 16, 17], [4, 10, 11, 12, 13, 14, 15, 16, 17], [4, 10, 11, 12, 13, 14, 15, 16, 17], [0, 1, 2, 4], [0, 1, 2, 3, 4, 9, 11, 12, 13, 14, 15, 17], [0, 1, 2, 3, 4, 9, 10, 12, 13, 14, 15, 17], [0, 1, 2, 3, 4, 9, 10, 11, 13, 14, 16, 17], [0, 1, 2, 3, 4, 9, 10, 11, 12, 15, 16, 17], [0, 1, 2, 3, 4, 9, 10, 11, 12, 16, 17], [0, 1, 2, 3, 4, 9, 10, 11, 17], [0, 1, 2, 3, 4, 9], [0, 1, 2, 3, 4, 9, 13], []] [0, 1, 2, 3, 4, 5, 6, 7, 8, 9, 10, 11, 12, 13, 14, 15, 16, 17, 18] 19 (by kernel_rfl) (by kernel_rfl) (by kernel_rfl) (by kernel_rfl) ?rS (fun j h1 h2 => absurd (Nat.lt_of_lt_of_le h1 (Nat.le_trans (by decide) h2)) (Nat.lt_irrefl _)) ?rT ?rE
  case rS => exact below_drewN (Below.refl _ _) 1
  case rT =>
   refine RelyStepsX.cons (RelyStepX.mk [] [1, 3, 4, 5, 6, 7, 8, 9, 10, 11, 12, 13, 14, 15, 16, 17] rfl rfl rfl (fun xv Lv wS hS hL hLd hV bq hb K hK => ?_)) ?_
   ·clear hV
    simp only [putsOf, List.foldl_cons, List.foldl_nil, List.getD_cons_zero, List.getD_cons_succ, List.getD_nil, cond_true, cond_false, Act.put, List.setIfInBounds_toArray, List.set_cons_zero, List.set_cons_succ] at hb
    subst hb
    rw [if_pos (by rfl)]
    go_wp2_with fail
    exact hK.out _ _ ⟨_, rfl, fa_op (i := 0) rfl hS, rfl, AllPX.same _⟩
   refine RelyStepsX.cons (RelyStepX.mk [] [0, 3, 4, 5, 6, 7, 8, 9, 10, 11, 12, 13, 14, 15, 16, 17] rfl rfl rfl (fun xv Lv wS hS hL hLd hV bq hb K hK => ?_)) ?_
   ·clear hV
    simp only [putsOf, List.foldl_cons, List.foldl_nil, List.getD_cons_zero, List.getD_cons_succ, List.getD_nil, cond_true, cond_false, Act.put, List.setIfInBounds_toArray, List.set_cons_zero, List.set_cons_succ] at hb
    subst hb
    rw [if_pos (by rfl)]
    (obtain ⟨X0, X1, X2, X3, X4⟩ := HE.out _ hS)
    go_wp2_with fail
    exact hK.out _ _ ⟨_, rfl, fa_op (i := 1) rfl hS, rfl, AllPX.same _⟩
   refine RelyStepsX.cons (RelyStepX.mk [0, 1] [5, 6, 7, 8, 9, 10, 11, 12, 13, 14, 15, 16, 17] rfl rfl rfl (fun xv Lv wS hS hL hLd hV bq hb K hK => ?_)) ?_
   ·obtain ⟨h0, h1, _⟩ := hV
    have h0 : xv 0 = _ := h0
    have h1 : xv 1 = _ := h1
    simp only [putsOf, List.foldl_cons, List.foldl_nil, List.getD_cons_zero, List.getD_cons_succ, List.getD_nil, cond_true, cond_false, Act.put, List.setIfInBounds_toArray, List.set_cons_zero, List.set_cons_succ, h0, h1] at hb
    clear h0
    clear h1
    subst hb
    rw [if_pos (by rfl)]
    have HSS := Lib.hid hS
    clear hS
    go_wp2_with fail
    refine (HNA.out wS HSS.out).mono ?_
    rintro r w' ⟨rfl, _, hb3⟩
    exact hK.out _ _ ⟨_, rfl, hb3, rfl, AllPX.of _ (fun j hj _ h => fkV_eqs rfl hj h)⟩
   refine RelyStepsX.cons (RelyStepX.mk [2] [5, 6, 7, 8, 9, 10, 11, 12, 13, 14, 15, 16, 17] rfl rfl rfl (fun xv Lv wS hS hL hLd hV bq hb K hK => ?_)) ?_
   ·obtain ⟨h2, _⟩ := hV
    have h2 : xv 2 = _ := h2
    simp only [putsOf, List.foldl_cons, List.foldl_nil, List.getD_cons_zero, List.getD_cons_succ, List.getD_nil, cond_true, cond_false, Act.put, List.setIfInBounds_toArray, List.set_cons_zero, List.set_cons_succ, h2] at hb
    clear h2
    subst hb
    rw [if_pos (by rfl)]
    go_wp2_with fail
    exact hK.out _ _ ⟨_, rfl, fa_op (i := 3) rfl hS, rfl, AllPX.same _⟩
   refine RelyStepsX.cons (RelyStepX.mk [3] [9, 10, 11, 12, 13, 14, 15, 16, 17] rfl rfl rfl (fun xv Lv wS hS hL hLd hV bq hb K hK => ?_)) ?_
   ·obtain ⟨h3, _⟩ := hV
    have h3 : xv 3 = _ := h3
    simp only [putsOf, List.foldl_cons, List.foldl_nil, List.getD_cons_zero, List.getD_cons_succ, List.getD_nil, cond_true, cond_false, Act.put, List.setIfInBounds_toArray, List.set_cons_zero, List.set_cons_succ, h3] at hb
    clear h3
    subst hb
    rw [if_pos (by rfl)]
    go_wp2_with fail
    exact hK.out _ _ ⟨_, rfl, fa_op (i := 4) rfl hS, rfl, AllPX.same _⟩
   refine RelyStepsX.cons (RelyStepX.mk [4] [4, 6, 8, 9, 10, 11, 12, 13, 14, 15, 16, 17] rfl rfl rfl (fun xv Lv wS hS hL hLd hV bq hb K hK => ?_)) ?_
   ·obtain ⟨h4, _⟩ := hV
    have h4 : xv 4 = _ := h4
    simp only [putsOf, List.foldl_cons, List.foldl_nil, List.getD_cons_zero, List.getD_cons_succ, List.getD_nil, cond_true, cond_false, Act.put, List.setIfInBounds_toArray, List.set_cons_zero, List.set_cons_succ, h4] at hb
    clear h4
    subst hb
    rw [if_pos (by rfl)]
    go_wp2_with fail
    exact hK.out _ _ ⟨_, rfl, fa_op (i := 5) rfl hS, rfl, AllPX.same _⟩
   refine RelyStepsX.cons (RelyStepX.mk [4] [4, 5, 8, 9, 10, 11, 12, 13, 14, 15, 16, 17] rfl rfl rfl (fun xv Lv wS hS hL hLd hV bq hb K hK => ?_)) ?_
   ·obtain ⟨h4, _⟩ := hV
    have h4 : xv 4 = _ := h4
    simp only [putsOf, List.foldl_cons, List.foldl_nil, List.getD_cons_zero, List.getD_cons_succ, List.getD_nil, cond_true, cond_false, Act.put, List.setIfInBounds_toArray, List.set_cons_zero, List.set_cons_succ, h4] at hb
    clear h4
    subst hb
    rw [if_pos (by rfl)]
    (obtain ⟨X0, X1, X2, X3, X4⟩ := HE.out _ hS)
    go_wp2_with fail
    exact hK.out _ _ ⟨_, rfl, fa_op (i := 6) rfl hS, rfl, AllPX.same _⟩
   refine RelyStepsX.cons (RelyStepX.mk [5, 6, 4] [4, 10, 11, 12, 13, 14, 15, 16, 17] rfl rfl rfl (fun xv Lv wS hS hL hLd hV bq hb K hK => ?_)) ?_
   ·obtain ⟨h5, h6, h4, _⟩ := hV
    have h5 : xv 5 = _ := h5
    have h6 : xv 6 = _ := h6
    have h4 : xv 4 = _ := h4
    simp only [putsOf, List.foldl_cons, List.foldl_nil, List.getD_cons_zero, List.getD_cons_succ, List.getD_nil, cond_true, cond_false, Act.put, List.setIfInBounds_toArray, List.set_cons_zero, List.set_cons_succ, h5, h6, h4] at hb
    clear h5
    clear h6
    clear h4
    subst hb
    rw [if_pos (by rfl)]
    have HSS := Lib.hid hS
    clear hS
    go_wp2_with fail
    refine (HMA.out wS HSS.out).mono ?_
    rintro r w' ⟨rfl, _, hb3⟩
    exact hK.out _ _ ⟨_, rfl, hb3, rfl, AllPX.of _ (fun j hj _ h => fkV_eqs rfl hj h)⟩
   refine RelyStepsX.cons (RelyStepX.mk [4, 7] [4, 10, 11, 12, 13, 14, 15, 16, 17] rfl rfl rfl (fun xv Lv wS hS hL hLd hV bq hb K hK => ?_)) ?_
   ·obtain ⟨h4, h7, _⟩ := hV
    have h4 : xv 4 = _ := h4
    have h7 : xv 7 = _ := h7
    simp only [putsOf, List.foldl_cons, List.foldl_nil, List.getD_cons_zero, List.getD_cons_succ, List.getD_nil, cond_true, cond_false, Act.put, List.setIfInBounds_toArray, List.set_cons_zero, List.set_cons_succ, h4, h7] at hb
    clear h4
    clear h7
    subst hb
    rw [if_pos (by rfl)]
    go_wp2_with fail
    exact hK.out _ _ ⟨_, rfl, fa_op (i := 8) rfl hS, rfl, AllPX.same _⟩
   refine RelyStepsX.cons (RelyStepX.mk [8] [0, 1, 2, 4] rfl rfl rfl (fun xv Lv wS hS hL hLd hV bq hb K hK => ?_)) ?_
   ·obtain ⟨h8, _⟩ := hV
    have h8 : xv 8 = _ := h8
    simp only [putsOf, List.foldl_cons, List.foldl_nil, List.getD_cons_zero, List.getD_cons_succ, List.getD_nil, cond_true, cond_false, Act.put, List.setIfInBounds_toArray, List.set_cons_zero, List.set_cons_succ, h8] at hb
    clear h8
    subst hb
    rw [if_pos (by rfl)]
    go_wp2_with fail
    exact hK.out _ _ ⟨_, rfl, fa_op (i := 9) rfl hS, rfl, AllPX.same _⟩
   refine RelyStepsX.cons (RelyStepX.mk [9] [0, 1, 2, 3, 4, 9, 11, 12, 13, 14, 15, 17] rfl rfl rfl (fun xv Lv wS hS hL hLd hV bq hb K hK => ?_)) ?_
   ·obtain ⟨h9, _⟩ := hV
    have h9 : xv 9 = _ := h9
    simp only [putsOf, List.foldl_cons, List.foldl_nil, List.getD_cons_zero, List.getD_cons_succ, List.getD_nil, cond_true, cond_false, Act.put, List.setIfInBounds_toArray, List.set_cons_zero, List.set_cons_succ, h9] at hb
    clear h9
    subst hb
    refine not_wanted (by rfl) ?_
    exact hK.out _ _ ⟨undef, rfl, hS, rfl, AllPX.same _⟩
   refine RelyStepsX.cons (RelyStepX.mk [9] [0, 1, 2, 3, 4, 9, 10, 12, 13, 14, 15, 17] rfl rfl rfl (fun xv Lv wS hS hL hLd hV bq hb K hK => ?_)) ?_
   ·obtain ⟨h9, _⟩ := hV
    have h9 : xv 9 = _ := h9
    simp only [putsOf, List.foldl_cons, List.foldl_nil, List.getD_cons_zero, List.getD_cons_succ, List.getD_nil, cond_true, cond_false, Act.put, List.setIfInBounds_toArray, List.set_cons_zero, List.set_cons_succ, h9] at hb
    clear h9
    subst hb
    refine not_wanted (by rfl) ?_
    exact hK.out _ _ ⟨undef, rfl, hS, rfl, AllPX.same _⟩
   refine RelyStepsX.cons (RelyStepX.mk [9] [0, 1, 2, 3, 4, 9, 10, 11, 13, 14, 16, 17] rfl rfl rfl (fun xv Lv wS hS hL hLd hV bq hb K hK => ?_)) ?_
   ·obtain ⟨h9, _⟩ := hV
    have h9 : xv 9 = _ := h9
    simp only [putsOf, List.foldl_cons, List.foldl_nil, List.getD_cons_zero, List.getD_cons_succ, List.getD_nil, cond_true, cond_false, Act.put, List.setIfInBounds_toArray, List.set_cons_zero, List.set_cons_succ, h9] at hb
    clear h9
    subst hb
    refine not_wanted (by rfl) ?_
    exact hK.out _ _ ⟨undef, rfl, hS, rfl, AllPX.same _⟩
   refine RelyStepsX.cons (RelyStepX.mk [9] [0, 1, 2, 3, 4, 9, 10, 11, 12, 15, 16, 17] rfl rfl rfl (fun xv Lv wS hS hL hLd hV bq hb K hK => ?_)) ?_
   ·obtain ⟨h9, _⟩ := hV
    have h9 : xv 9 = _ := h9
    simp only [putsOf, List.foldl_cons, List.foldl_nil, List.getD_cons_zero, List.getD_cons_succ, List.getD_nil, cond_true, cond_false, Act.put, List.setIfInBounds_toArray, List.set_cons_zero, List.set_cons_succ, h9] at hb
    clear h9
    subst hb
    refine not_wanted (by rfl) ?_
    exact hK.out _ _ ⟨undef, rfl, hS, rfl, AllPX.same _⟩
   refine RelyStepsX.cons (RelyStepX.mk [13, 9] [0, 1, 2, 3, 4, 9, 10, 11, 12, 16, 17] rfl rfl rfl (fun xv Lv wS hS hL hLd hV bq hb K hK => ?_)) ?_
   ·obtain ⟨h13, h9, _⟩ := hV
    have h13 : xv 13 = _ := h13
    have h9 : xv 9 = _ := h9
    simp only [putsOf, List.foldl_cons, List.foldl_nil, List.getD_cons_zero, List.getD_cons_succ, List.getD_nil, cond_true, cond_false, Act.put, List.setIfInBounds_toArray, List.set_cons_zero, List.set_cons_succ, h13, h9] at hb
    clear h13
    clear h9
    subst hb
    refine not_wanted (by rfl) ?_
    exact hK.out _ _ ⟨undef, rfl, hS, rfl, AllPX.same _⟩
   refine RelyStepsX.cons (RelyStepX.mk [12, 14, 9] [0, 1, 2, 3, 4, 9, 10, 11, 17] rfl rfl rfl (fun xv Lv wS hS hL hLd hV bq hb K hK => ?_)) ?_
   ·obtain ⟨h12, h14, h9, _⟩ := hV
    have h12 : xv 12 = _ := h12
    have h14 : xv 14 = _ := h14
    have h9 : xv 9 = _ := h9
    simp only [putsOf, List.foldl_cons, List.foldl_nil, List.getD_cons_zero, List.getD_cons_succ, List.getD_nil, cond_true, cond_false, Act.put, List.setIfInBounds_toArray, List.set_cons_zero, List.set_cons_succ, h12, h14, h9] at hb
    clear h12
    clear h14
    clear h9
    subst hb
    refine not_wanted (by rfl) ?_
    exact hK.out _ _ ⟨undef, rfl, hS, rfl, AllPX.same _⟩
   refine RelyStepsX.cons (RelyStepX.mk [10, 11, 15, 9] [0, 1, 2, 3, 4, 9] rfl rfl rfl (fun xv Lv wS hS hL hLd hV bq hb K hK => ?_)) ?_
   ·obtain ⟨h10, h11, h15, h9, _⟩ := hV
    have h10 : xv 10 = _ := h10
    have h11 : xv 11 = _ := h11
    have h15 : xv 15 = _ := h15
    have h9 : xv 9 = _ := h9
    simp only [putsOf, List.foldl_cons, List.foldl_nil, List.getD_cons_zero, List.getD_cons_succ, List.getD_nil, cond_true, cond_false, Act.put, List.setIfInBounds_toArray, List.set_cons_zero, List.set_cons_succ, h10, h11, h15, h9] at hb
    clear h10
    clear h11
    clear h15
    clear h9
    subst hb
    refine not_wanted (by rfl) ?_
    exact hK.out _ _ ⟨undef, rfl, hS, rfl, AllPX.same _⟩
   refine RelyStepsX.cons (RelyStepX.mk [9, 16] [0, 1, 2, 3, 4, 9, 13] rfl rfl rfl (fun xv Lv wS hS hL hLd hV bq hb K hK => ?_)) ?_
   ·obtain ⟨h9, h16, _⟩ := hV
    have h9 : xv 9 = _ := h9
    have h16 : xv 16 = _ := h16
    simp only [putsOf, List.foldl_cons, List.foldl_nil, List.getD_cons_zero, List.getD_cons_succ, List.getD_nil, cond_true, cond_false, Act.put, List.setIfInBounds_toArray, List.set_cons_zero, List.set_cons_succ, h9, h16] at hb
    clear h9
    clear h16
    subst hb
    rw [if_pos (by rfl)]
    go_wp2_with fail
    exact hK.out _ _ ⟨_, rfl, fa_op (i := 17) rfl hS, rfl, AllPX.same _⟩
   refine RelyStepsX.cons (RelyStepX.mk [17] [] rfl rfl rfl (fun xv Lv wS hS hL hLd hV bq hb K hK => ?_)) ?_
   ·obtain ⟨h17, _⟩ := hV
    have h17 : xv 17 = _ := h17
    simp only [putsOf, List.foldl_cons, List.foldl_nil, List.getD_cons_zero, List.getD_cons_succ, List.getD_nil, cond_true, cond_false, Act.put, List.setIfInBounds_toArray, List.set_cons_zero, List.set_cons_succ, h17] at hb
    clear h17
    subst hb
    rw [if_pos (by rfl)]
    go_wp2_with fail
    exact hK.out _ _ ⟨_, rfl, fa_op (i := 18) rfl hS, rfl, AllPX.same _⟩
   exact RelyStepsX.nil
  case rE =>
   intro xv Lv wE hS hLall hV
   have h18 := hV 18 (by decide) (by decide)
   clear hV
   simp only [putsOf, List.foldl_cons, List.foldl_nil, List.getD_cons_zero, List.getD_cons_succ, List.getD_nil, cond_true, cond_false, Act.put, List.setIfInBounds_toArray, List.set_cons_zero, List.set_cons_succ]
   have h18 : xv 18 = _ := h18
   rw [h18]; clear h18
   generalize xv 0 = y0 at *
   generalize xv 1 = y1 at *
   generalize xv 2 = y2 at *
   generalize xv 3 = y3 at *
   generalize xv 4 = y4 at *
   generalize xv 5 = y5 at *
   generalize xv 6 = y6 at *
   generalize xv 7 = y7 at *
   generalize xv 8 = y8 at *
   generalize xv 9 = y9 at *
   generalize xv 10 = y10 at *
   generalize xv 11 = y11 at *
   generalize xv 12 = y12 at *
   generalize xv 13 = y13 at *
   generalize xv 14 = y14 at *
   generalize xv 15 = y15 at *
   generalize xv 16 = y16 at *
   generalize xv 17 = y17 at *
   have HB3 := Lib.hid hS
   clear hS hLall
   go_wp2_with fail
   go_ret
   exact ⟨ret_bool (by rw [HX.out]), by rw [← hN]; exact HB.out.trans (HB3.out.mono HB.out.size)⟩
 have hrr := hr hna hma
 have HCA : Hid (∀ q, Below W.heap.size W q → Calls Tryz.prog 47 #[.pointer (some ⟨F, 0, none⟩), .agg (evL t kd rg tk vl), .agg (akC (askF f t))] q fun r w' => r = .returned (.bool (canF f ⟨t, kd, rg, tk, vl⟩ (askF f t))) ∧ Below W.heap.size W w') := fun q hq =>
  (fbCan ⟨t, kd, rg, tk, vl⟩ (askF f t) (h1.later hq) ok hrr ht hev).mono (fun r w' ⟨h2, h3⟩ => ⟨h2, hq.trans (h3.mono hq.size)⟩)
 have HX : Hid (alwB f ⟨t, kd, rg, tk, vl⟩ = canF f ⟨t, kd, rg, tk, vl⟩ (askF f t)) := by show _ = _; rw [HX.out, hma, decide_eq_true hna, Int.toNat_natCast]; rfl
 rw [hma] at HMA
 obtain ⟨a, ha⟩ : ∃ a, askF f t = a := ⟨_, rfl⟩
 rw [ha] at HAS HCA HX
 clear hna hb le h1 h ok hr HE hma hrr ha
 go_enter Tryz.func16, Tryz.ntmps16
 go_upto_region 1 with (fail)
 go_region_with (first
  | (go_at_call 45; refine (HNA.out _ HBR.out.drew).mono ?_; rintro r w3 ⟨rfl, ⟨y0, y1, y2, y3, y4⟩, HB3⟩)
  | (go_at_call 46; refine (HMA.out _ HB3).mono ?_; rintro r w4 ⟨rfl, ⟨u0, u1, u2, u3, u4⟩, HB4⟩)
  | (go_at_call 48; refine (HAS.out _ HB4).mono ?_; rintro r w5 ⟨rfl, ⟨v0, v1, v2, v3, v4⟩, HB5⟩)
  | (go_at_call 47; refine (HCA.out _ HB5).mono ?_; rintro r w6 ⟨rfl, HB6⟩))
 all_goals
  go_wp2_with fail
  go_ret
  exact ⟨ret_bool (by rw [HX.out]), HB.out.trans (HB6.mono HB.out.size)⟩
end
def fdoE (f : Fb) (e : Ev) : Int := if namesF f e = 0 then if alwB f e = true then 0 else 11 else namesF f e
def DfPost (w : World) (B F : Nat) (z : Fv) (E : Int) (f' : Fb) (q : Ending) (w' : World) : Prop := q = .returned (.int .i64 E) ∧ ∃ z', FabAt w' B F f' z' ∧ Kept (FpOf F z) w w' ∧ ∀ k, FpOf F z' k → FpOf F z k ∨ w.heap.size ≤ k
section
variable {w w' : World} {B F : Nat} {f : Fb} {z : Fv}
set_option maxHeartbeats 4000000 in
set_option maxRecDepth 100000 in
theorem fbDo (e : Ev) (h : FabAt w B F f z) (ok : FbOk f) (hr : namesF f e = 0 → matF f e = true → onLane e.kd → 0 ≤ e.rg ∧ e.rg < (f.p.rs.length : Int)) (ht : e.tk ≤ 18446744073709551615) (hev : e.vl ≤ 18446744073709551615)
  (hv : ∀ t, (askF f t).vl ≤ 18446744073709551615) (htk : e.kd = 1 → alwB f e = true → (lnN f e.rg).R.tail < 4611687117939015680) (hsn : ∀ t, (f.sn.getD t []).length ≤ 1000000000000) :
  Calls Tryz.prog 18 #[.pointer (some ⟨F, 0, none⟩), .agg (evC e)] w (DfPost w B F z (fdoE f e) (if fdoE f e = 0 then perfF f e else f)) := by
 have hb := (Below.refl w.heap.size w).alloc (Nat.le_refl _) (.cells (evC e) 43)
 have le := Lies.made w 43 (evC e)
 have h1 := h.later hb
 obtain ⟨th, kd, rg, tk, vl⟩ := e
 obtain ⟨N, hN⟩ : ∃ N, w.heap.size = N := ⟨_, rfl⟩
 rw [hN] at le
 have hlf := h1.lt
 obtain ⟨E, hE⟩ : ∃ E, fdoE f ⟨th, kd, rg, tk, vl⟩ = E := ⟨_, rfl⟩
 rw [hE]
 unfold fdoE at hE
 obtain ⟨f', hf'⟩ : ∃ f', (if E = 0 then perfF f ⟨th, kd, rg, tk, vl⟩ else f) = f' := ⟨_, rfl⟩
 rw [hf']
 generalize hW : w.alloc (.cells (evC ⟨th, kd, rg, tk, vl⟩) 43) = W at *
 have HE : Hid (∀ q, Below W.heap.size W q → EvBox q N th kd rg tk vl) := fun q hq => by
  have l3 := le.below hq le.lt
  exact ⟨l3.cell 0, l3.cell 1, l3.cell 2, l3.cell 3, l3.cell 4⟩
 have HNA : Hid (∀ q, Below W.heap.size W q → Calls Tryz.prog 45 #[.pointer (some ⟨F, 0, none⟩), .agg (evL th kd rg tk vl)] q fun r w' => r = .returned (.int .i64 (namesF f ⟨th, kd, rg, tk, vl⟩)) ∧ EvBox w' N th kd rg tk vl ∧ Below W.heap.size W w') := fun q hq =>
  (fbNames ⟨th, kd, rg, tk, vl⟩ (h1.later hq) ok).mono (fun r w' ⟨h2, h3⟩ => ⟨h2, HE.out _ (hq.trans (h3.mono hq.size)), hq.trans (h3.mono hq.size)⟩)
 have HAL : Hid (∀ q, Below W.heap.size W q → Calls Tryz.prog 16 #[.pointer (some ⟨F, 0, none⟩), .agg (evL th kd rg tk vl)] q fun r w' => r = .returned (.bool (alwB f ⟨th, kd, rg, tk, vl⟩)) ∧ EvBox w' N th kd rg tk vl ∧ Below W.heap.size W w') := fun q hq =>
  (fbAllowed ⟨th, kd, rg, tk, vl⟩ (h1.later hq) ok hr ht hev).mono (fun r w' ⟨h2, h3⟩ => ⟨h2, HE.out _ (hq.trans (h3.mono hq.size)), hq.trans (h3.mono hq.size)⟩)
 have HSAME : Hid (∀ q r, r = Ending.returned (.int .i64 E) → f' = f → Below W.heap.size W q → DfPost w B F z E f' r q) := fun q r hr' hf hq =>
  ⟨hr', z, by rw [hf]; exact h1.later hq, ((Kept.of_below hb).trans (Kept.of_below hq) (fun _ _ h => h)).mono (fun _ _ (hx : False) => hx.elim), fun k hk => .inl hk⟩
 have HBR := Lib.hid (Below.refl W.heap.size W)
 have hNW := le.lt
 obtain ⟨d0, d1, d2, d3, d4⟩ := HE.out W (Below.refl _ _)
 by_cases hna : namesF f ⟨th, kd, rg, tk, vl⟩ = 0
 case neg =>
  rw [if_neg hna] at hE
  rw [hE] at hna HNA
  have hm0 : (E == 0) = false := beq_eq_false_iff_ne.2 hna
  have hm1 : (E != 0) = true := by rw [bne, hm0]; rfl
  rw [if_neg hna] at hf'
  have HG := Lib.hid hf'.symm
  clear hf'
  clear hna hb le h1 h ok hr HE HAL hE
  go_enter Tryz.func18, Tryz.ntmps18
  go_upto_region 1 with (fail)
  go_wp2_with fail
  refine (HNA.out _ HBR.out).mono ?_
  rintro r w3 ⟨rfl, ⟨y0, y1, y2, y3, y4⟩, HB3⟩
  go_wp2_with fail
  go_ret
  exact HSAME.out _ _ rfl HG.out HB3
 rw [if_pos hna] at hE
 obtain ⟨hri, ht0, ht1⟩ := names_has hna
 dsimp only at ht0 ht1
 obtain ⟨t, rfl⟩ : ∃ t : Nat, th = (t : Int) := ⟨th.toNat, by omega⟩
 have htl : t < f.p.ts.length := by omega
 rw [hna] at HNA
 by_cases hal : alwB f ⟨t, kd, rg, tk, vl⟩ = true
 case neg =>
  rw [if_neg hal] at hE
  rw [Bool.not_eq_true] at hal
  rw [hal] at HAL
  subst hE
  have HG := Lib.hid (show f' = f by rw [← hf']; rfl)
  clear hna hb le h1 h ok hr HE hf' hal
  go_enter Tryz.func18, Tryz.ntmps18
  go_upto_region 1 with (fail)
  go_wp2_with fail
  refine (HNA.out _ HBR.out).mono ?_
  rintro r w3 ⟨rfl, ⟨y0, y1, y2, y3, y4⟩, HB3⟩
  go_wp2_with fail
  refine (HAL.out _ HB3).mono ?_
  rintro r w4 ⟨rfl, ⟨u0, u1, u2, u3, u4⟩, HB4⟩
  go_wp2_with fail
  go_ret
  exact HSAME.out _ _ rfl HG.out HB4
 rw [if_pos hal] at hE
 have hma : matF f ⟨t, kd, rg, tk, vl⟩ = true := by
  unfold alwB at hal
  rw [Bool.and_eq_true, Bool.and_eq_true] at hal
  exact hal.1.2
 have HPE : Hid (∀ q, Below W.heap.size W q → Calls Tryz.prog 52 #[.pointer (some ⟨F, 0, none⟩), .agg (evL t kd rg tk vl)] q fun r w' => r = .returned (.tuple #[]) ∧ ∃ z', FabAt w' B F (perfF f ⟨t, kd, rg, tk, vl⟩) z' ∧ Kept (FpOf F z) w w' ∧ ∀ k, FpOf F z' k → FpOf F z k ∨ w.heap.size ≤ k) := fun q hq =>
  (fbPerform ⟨t, kd, rg, tk, vl⟩ t rfl htl (h1.later hq) ok (hr hna hma) ht (hv t) hev (fun hk => htk hk hal) (hsn t)).mono (fun r w' ⟨h2, z', h3, h4, h5⟩ => ⟨h2, z', h3, (((Kept.of_below hb).trans (Kept.of_below hq) (fun _ _ h => h)).mono (fun _ _ (hx : False) => hx.elim)).trans h4 (fun _ _ h => h), fun k hk => (h5 k hk).imp id (fun h => Nat.le_trans (Nat.le_trans hb.size hq.size) h)⟩)
 rw [hal] at HAL
 subst hE
 have HG := Lib.hid (show f' = perfF f ⟨t, kd, rg, tk, vl⟩ by rw [← hf']; rfl)
 clear hna hb le h1 h ok hr HE hf' hal hma HSAME htk
 go_enter Tryz.func18, Tryz.ntmps18
 go_upto_region 1 with (fail)
 go_wp2_with fail
 refine (HNA.out _ HBR.out).mono ?_
 rintro r w3 ⟨rfl, ⟨y0, y1, y2, y3, y4⟩, HB3⟩
 go_wp2_with fail
 refine (HAL.out _ HB3).mono ?_
 rintro r w4 ⟨rfl, ⟨u0, u1, u2, u3, u4⟩, HB4⟩
 go_wp2_with fail
 refine (HPE.out _ HB4).mono ?_
 rintro r w5 ⟨rfl, z', h3, h4, h5⟩
 have HEND := Lib.hid (And.intro h3 (And.intro h4 h5))
 clear h3 h4 h5
 go_wp2_with fail
 go_ret
 exact ⟨rfl, z', by rw [HG.out]; exact HEND.out.1, HEND.out.2⟩
end
def feedE (f : Fb) (e : Ev) : Int := if namesF f e = 0 then if matF f e = true then if fedF f e (askF f e.th.toNat) = true then 0 else 8 else 11 else namesF f e
section
variable {w w' : World} {B F : Nat} {f : Fb} {z : Fv}
set_option maxHeartbeats 4000000 in
set_option maxRecDepth 100000 in
theorem fbFeed (e : Ev) (h : FabAt w B F f z) (ok : FbOk f) (hr : namesF f e = 0 → matF f e = true → onLane e.kd → 0 ≤ e.rg ∧ e.rg < (f.p.rs.length : Int)) (ht : e.tk ≤ 18446744073709551615) (hev : e.vl ≤ 18446744073709551615)
  (hv : ∀ t, (askF f t).vl ≤ 18446744073709551615) (htk : e.kd = 1 → namesF f e = 0 → matF f e = true → (lnN f e.rg).R.tail < 4611687117939015680) (hsn : ∀ t, (f.sn.getD t []).length ≤ 1000000000000) :
  Calls Tryz.prog 23 #[.pointer (some ⟨F, 0, none⟩), .agg (evC e)] w (DfPost w B F z (feedE f e) (if feedE f e = 0 then perfF f e else f)) := by
 have hb := (Below.refl w.heap.size w).alloc (Nat.le_refl _) (.cells (evC e) 43)
 have le := Lies.made w 43 (evC e)
 have h1 := h.later hb
 obtain ⟨th, kd, rg, tk, vl⟩ := e
 obtain ⟨N, hN⟩ : ∃ N, w.heap.size = N := ⟨_, rfl⟩
 rw [hN] at le
 have hlf := h1.lt
 obtain ⟨E, hE⟩ : ∃ E, feedE f ⟨th, kd, rg, tk, vl⟩ = E := ⟨_, rfl⟩
 rw [hE]
 unfold feedE at hE
 obtain ⟨f', hf'⟩ : ∃ f', (if E = 0 then perfF f ⟨th, kd, rg, tk, vl⟩ else f) = f' := ⟨_, rfl⟩
 rw [hf']
 generalize hW : w.alloc (.cells (evC ⟨th, kd, rg, tk, vl⟩) 43) = W at *
 have HE : Hid (∀ q, Below W.heap.size W q → EvBox q N th kd rg tk vl) := fun q hq => by
  have l3 := le.below hq le.lt
  exact ⟨l3.cell 0, l3.cell 1, l3.cell 2, l3.cell 3, l3.cell 4⟩
 have HNA : Hid (∀ q, Below W.heap.size W q → Calls Tryz.prog 45 #[.pointer (some ⟨F, 0, none⟩), .agg (evL th kd rg tk vl)] q fun r w' => r = .returned (.int .i64 (namesF f ⟨th, kd, rg, tk, vl⟩)) ∧ EvBox w' N th kd rg tk vl ∧ Below W.heap.size W w') := fun q hq =>
  (fbNames ⟨th, kd, rg, tk, vl⟩ (h1.later hq) ok).mono (fun r w' ⟨h2, h3⟩ => ⟨h2, HE.out _ (hq.trans (h3.mono hq.size)), hq.trans (h3.mono hq.size)⟩)
 have HSAME : Hid (∀ q r, r = Ending.returned (.int .i64 E) → f' = f → Below W.heap.size W q → DfPost w B F z E f' r q) := fun q r hr' hf hq =>
  ⟨hr', z, by rw [hf]; exact h1.later hq, ((Kept.of_below hb).trans (Kept.of_below hq) (fun _ _ h => h)).mono (fun _ _ (hx : False) => hx.elim), fun k hk => .inl hk⟩
 have HBR := Lib.hid (Below.refl W.heap.size W)
 have hNW := le.lt
 obtain ⟨d0, d1, d2, d3, d4⟩ := HE.out W (Below.refl _ _)
 by_cases hna : namesF f ⟨th, kd, rg, tk, vl⟩ = 0
 case neg =>
  rw [if_neg hna] at hE
  rw [hE] at hna HNA
  have hm0 : (E == 0) = false := beq_eq_false_iff_ne.2 hna
  have hm1 : (E != 0) = true := by rw [bne, hm0]; rfl
  rw [if_neg hna] at hf'
  have HG := Lib.hid hf'.symm
  clear hf'
  clear hna hb le h1 h ok hr HE hE
  go_enter Tryz.func23, Tryz.ntmps23
  go_upto_region 1 with (fail)
  go_wp2_with fail
  refine (HNA.out _ HBR.out).mono ?_
  rintro r w3 ⟨rfl, ⟨y0, y1, y2, y3, y4⟩, HB3⟩
  go_wp2_with fail
  go_ret
  exact HSAME.out _ _ rfl HG.out HB3
 rw [if_pos hna] at hE
 obtain ⟨hri, ht0, ht1⟩ := names_has hna
 dsimp only at ht0 ht1
 obtain ⟨t, rfl⟩ : ∃ t : Nat, th = (t : Int) := ⟨th.toNat, by omega⟩
 have htl : t < f.p.ts.length := by omega
 rw [hna] at HNA
 have HMA : Hid (∀ q, Below W.heap.size W q → Calls Tryz.prog 46 #[.pointer (some ⟨F, 0, none⟩), .agg (evL t kd rg tk vl)] q fun r w' => r = .returned (.bool (matF f ⟨t, kd, rg, tk, vl⟩)) ∧ EvBox w' N t kd rg tk vl ∧ Below W.heap.size W w') := fun q hq =>
  (fbMatches ⟨t, kd, rg, tk, vl⟩ t rfl htl (h1.later hq) ok).mono (fun r w' ⟨h2, h3⟩ => ⟨h2, HE.out _ (hq.trans (h3.mono hq.size)), hq.trans (h3.mono hq.size)⟩)
 have HAS : Hid (∀ q, Below W.heap.size W q → Calls Tryz.prog 48 #[.pointer (some ⟨F, 0, none⟩), .int .i64 (t : Int)] q fun r w' => r = .returned (.agg (akC (askF f t))) ∧ EvBox w' N t kd rg tk vl ∧ Below W.heap.size W w') := fun q hq =>
  (fbAsk t htl (h1.later hq) ok).mono (fun r w' ⟨h2, h3⟩ => ⟨h2, HE.out _ (hq.trans (h3.mono hq.size)), hq.trans (h3.mono hq.size)⟩)
 by_cases hma : matF f ⟨t, kd, rg, tk, vl⟩ = true
 case neg =>
  rw [if_neg hma] at hE
  rw [Bool.not_eq_true] at hma
  rw [hma] at HMA
  subst hE
  have HG := Lib.hid (show f' = f by rw [← hf']; rfl)
  clear hna hb le h1 h ok hr HE hf' hma HAS
  go_enter Tryz.func23, Tryz.ntmps23
  go_upto_region 1 with (fail)
  go_wp2_with fail
  refine (HNA.out _ HBR.out).mono ?_
  rintro r w3 ⟨rfl, ⟨y0, y1, y2, y3, y4⟩, HB3⟩
  go_wp2_with fail
  refine (HMA.out _ HB3).mono ?_
  rintro r w4 ⟨rfl, ⟨u0, u1, u2, u3, u4⟩, HB4⟩
  go_wp2_with fail
  go_ret
  exact HSAME.out _ _ rfl HG.out HB4
 rw [if_pos hma] at hE
 have hrr := hr hna hma
 dsimp only at hE
 rw [Int.toNat_natCast] at hE
 have HFE : Hid (∀ q, Below W.heap.size W q → Calls Tryz.prog 56 #[.pointer (some ⟨F, 0, none⟩), .agg (evL t kd rg tk vl), .agg (akC (askF f t))] q fun r w' => r = .returned (.bool (fedF f ⟨t, kd, rg, tk, vl⟩ (askF f t))) ∧ EvBox w' N t kd rg tk vl ∧ Below W.heap.size W w') := fun q hq =>
  (fbFed ⟨t, kd, rg, tk, vl⟩ (askF f t) (h1.later hq) ok hrr ht).mono (fun r w' ⟨h2, h3⟩ => ⟨h2, HE.out _ (hq.trans (h3.mono hq.size)), hq.trans (h3.mono hq.size)⟩)
 have HPE : Hid (∀ q, Below W.heap.size W q → Calls Tryz.prog 52 #[.pointer (some ⟨F, 0, none⟩), .agg (evL t kd rg tk vl)] q fun r w' => r = .returned (.tuple #[]) ∧ ∃ z', FabAt w' B F (perfF f ⟨t, kd, rg, tk, vl⟩) z' ∧ Kept (FpOf F z) w w' ∧ ∀ k, FpOf F z' k → FpOf F z k ∨ w.heap.size ≤ k) := fun q hq =>
  (fbPerform ⟨t, kd, rg, tk, vl⟩ t rfl htl (h1.later hq) ok hrr ht (hv t) hev (fun hk => htk hk hna hma) (hsn t)).mono (fun r w' ⟨h2, z', h3, h4, h5⟩ => ⟨h2, z', h3, (((Kept.of_below hb).trans (Kept.of_below hq) (fun _ _ h => h)).mono (fun _ _ (hx : False) => hx.elim)).trans h4 (fun _ _ h => h), fun k hk => (h5 k hk).imp id (fun h => Nat.le_trans (Nat.le_trans hb.size hq.size) h)⟩)
 rw [hma] at HMA
 obtain ⟨a, ha⟩ : ∃ a, askF f t = a := ⟨_, rfl⟩
 rw [ha] at HAS HFE hE
 clear ha
 obtain ⟨fd, hfd⟩ : ∃ b, fedF f ⟨t, kd, rg, tk, vl⟩ a = b := ⟨_, rfl⟩
 rw [hfd] at HFE hE
 clear hfd
 cases fd
 ·subst hE
  have HG := Lib.hid (show f' = f by rw [← hf']; rfl)
  clear hna hb le h1 h ok hr HE hf' hma hrr htk HPE
  go_enter Tryz.func23, Tryz.ntmps23
  go_upto_region 1 with (fail)
  go_wp2_with fail
  refine (HNA.out _ HBR.out).mono ?_
  rintro r w3 ⟨rfl, ⟨y0, y1, y2, y3, y4⟩, HB3⟩
  go_wp2_with fail
  refine (HMA.out _ HB3).mono ?_
  rintro r w4 ⟨rfl, ⟨u0, u1, u2, u3, u4⟩, HB4⟩
  go_wp2_with fail
  clear d0 d1 d2 d3 d4 y0 y1 y2 y3 y4
  go_region_with (first
   | (go_at_call 48; refine (HAS.out _ HB4.drew).mono ?_; rintro r w5 ⟨rfl, ⟨v0, v1, v2, v3, v4⟩, HB5⟩)
   | (go_at_call 56; refine (HFE.out _ HB5).mono ?_; rintro r w6 ⟨rfl, ⟨t0, t1, t2, t3, t4⟩, HB6⟩))
  all_goals
   go_wp2_with fail
   go_ret
   exact HSAME.out _ _ rfl HG.out HB6
 ·subst hE
  have HG := Lib.hid (show f' = perfF f ⟨t, kd, rg, tk, vl⟩ by rw [← hf']; rfl)
  clear hna hb le h1 h ok hr HE hf' hma hrr htk HSAME
  go_enter Tryz.func23, Tryz.ntmps23
  go_upto_region 1 with (fail)
  go_wp2_with fail
  refine (HNA.out _ HBR.out).mono ?_
  rintro r w3 ⟨rfl, ⟨y0, y1, y2, y3, y4⟩, HB3⟩
  go_wp2_with fail
  refine (HMA.out _ HB3).mono ?_
  rintro r w4 ⟨rfl, ⟨u0, u1, u2, u3, u4⟩, HB4⟩
  go_wp2_with fail
  clear d0 d1 d2 d3 d4 y0 y1 y2 y3 y4
  go_region_with (first
   | (go_at_call 48; refine (HAS.out _ HB4.drew).mono ?_; rintro r w5 ⟨rfl, ⟨v0, v1, v2, v3, v4⟩, HB5⟩)
   | (go_at_call 56; refine (HFE.out _ HB5).mono ?_; rintro r w6 ⟨rfl, ⟨t0, t1, t2, t3, t4⟩, HB6⟩))
  all_goals
   go_wp2_with fail
   refine (HPE.out _ HB6).mono ?_
   rintro r w7 ⟨rfl, z', h3, h4, h5⟩
   have HEND := Lib.hid (And.intro h3 (And.intro h4 h5))
   clear h3 h4 h5
   go_wp2_with fail
   go_ret
   exact ⟨rfl, z', by rw [HG.out]; exact HEND.out.1, HEND.out.2⟩
end
def RgIn (p : Pg) : Prop := ∀ l ∈ p.ts, ∀ i ∈ l, (i.op = 18 ∨ i.op = 19 ∨ i.op = 20) → 0 ≤ i.c ∧ i.c < (p.rs.length : Int)
theorem ask_rg {l : List In} {x : Th} (hr : thB l x = true) (hx : thOk x) (hok : ∀ i ∈ l, inOk i) (hk : (reqA l (nxT l x)).kd = 1 ∨ (reqA l (nxT l x)).kd = 2 ∨ (reqA l (nxT l x)).kd = 3 ∨ (reqA l (nxT l x)).kd = 10 ∨ (reqA l (nxT l x)).kd = 11) :
  ∃ i ∈ l, (i.op = 18 ∨ i.op = 19 ∨ i.op = 20) ∧ i.c = (reqA l (nxT l x)).rg := by
 obtain ⟨⟨i1, i2, _⟩, _, _⟩ := nxT_facts hr hx hok
 have hph := (thB_parts hr).2.2
 have hyx : (nxT l x).ph ≠ 0 → nxT l x = x := by
  intro h
  by_cases h0 : x.st = 0 ∧ x.ph = 0
  ·rw [nxT_run h0.1 h0.2, (goT_rest l 256 x).1] at h
   exact absurd h0.2 h
  ·exact nxT_not h0
 obtain ⟨y, hy⟩ : ∃ y, nxT l x = y := ⟨_, rfl⟩
 rw [hy] at hk i1 i2 hyx ⊢
 by_cases hs : y.st = 0
 case neg => rw [reqA_st hs] at hk; simp [noneA] at hk
 by_cases ha : y.at_ = (l.length : Int)
 ·rw [reqA_end hs ha] at hk; simp [noneA] at hk
 have hlt : y.at_.toNat < l.length := by omega
 have hmem : atT l y ∈ l := by
  unfold atT
  rw [List.getD_eq_getElem?_getD, List.getElem?_eq_getElem hlt]
  exact List.getElem_mem hlt
 obtain ⟨i, hi⟩ : ∃ i, atT l y = i := ⟨_, rfl⟩
 have hq := reqA_in hs ha hi
 rw [hi] at hmem
 by_cases h1 : y.ph = 1
 ·have e := hyx (by omega)
  rw [if_pos h1] at hq
  unfold phB at hph
  rw [← e, if_neg (by omega), if_pos h1] at hph
  obtain ⟨_, _, p3, p4, _⟩ := hdB_parts hph
  rw [hi] at p3 p4
  exact ⟨i, hmem, .inl p3, by rw [hq]; exact p4⟩
 by_cases h2 : y.ph = 2
 ·have e := hyx (by omega)
  rw [if_neg h1, if_pos h2] at hq
  unfold phB at hph
  rw [← e, if_neg (by omega), if_neg h1, if_pos h2] at hph
  obtain ⟨_, _, p3, p4, _⟩ := hdB_parts hph
  rw [hi] at p3 p4
  exact ⟨i, hmem, .inr (.inl p3), by rw [hq]; exact p4⟩
 rw [if_neg h1, if_neg h2] at hq
 split at hq
 ·rw [hq] at hk; simp [noneA] at hk
 ·rw [hq] at hk ⊢
  refine ⟨i, hmem, ?_⟩
  unfold visA at hk ⊢
  by_cases o1 : i.op = 18
  ·rw [if_pos o1]; exact ⟨.inl o1, rfl⟩
  by_cases o2 : i.op = 19
  ·rw [if_neg o1, if_pos o2]; exact ⟨.inr (.inl o2), rfl⟩
  by_cases o3 : i.op = 20
  ·rw [if_neg o1, if_neg o2, if_pos o3]; exact ⟨.inr (.inr o3), rfl⟩
  rw [if_neg o1, if_neg o2, if_neg o3] at hk
  repeat' split at hk
  all_goals simp [noneA] at hk
theorem mat_parts {f : Fb} {e : Ev} (hm : matF f e = true) : thB (codeN f e.th.toNat) (thrN f e.th.toNat) = true ∧ rightE e = true ∧ fitB (reqA (codeN f e.th.toNat) (nxT (codeN f e.th.toNat) (thrN f e.th.toNat))) e = true := by
 unfold matF at hm
 rw [decide_eq_true_eq] at hm
 unfold doZ at hm
 by_cases h1 : thB (codeN f e.th.toNat) (thrN f e.th.toNat) = true
 ·rw [if_pos h1] at hm
  by_cases h2 : rightE e = true
  ·rw [if_pos h2] at hm
   by_cases h3 : fitB (reqA (codeN f e.th.toNat) (nxT (codeN f e.th.toNat) (thrN f e.th.toNat))) e = true
   ·exact ⟨h1, h2, h3⟩
   ·rw [if_neg h3] at hm; cases hm
  ·rw [if_neg h2] at hm; cases hm
 ·rw [if_neg h1] at hm; cases hm
theorem fit_lane {a : Ak} {e : Ev} (h : fitB a e = true) (hk : onLane e.kd) : (a.kd = 1 ∨ a.kd = 2 ∨ a.kd = 3 ∨ a.kd = 10 ∨ a.kd = 11) ∧ a.rg = e.rg := by
 unfold fitB mvB at h
 rcases hk with k | k | k | k | k | k | k | k <;> rw [k] at h <;> simp at h <;> omega
theorem mat_rg {f : Fb} {e : Ev} (ok : FbOk f) (hp : RgIn f.p) (hn : namesF f e = 0) (hm : matF f e = true) (hk : onLane e.kd) : 0 ≤ e.rg ∧ e.rg < (f.p.rs.length : Int) := by
 obtain ⟨_, h0, h1⟩ := names_has hn
 obtain ⟨m1, _, m3⟩ := mat_parts hm
 obtain ⟨_, k2, k3, _, k5⟩ := thr_get ok (t := e.th.toNat) (by omega)
 obtain ⟨f1, f2⟩ := fit_lane m3 hk
 obtain ⟨i, hi, ho, hc⟩ := ask_rg m1 k3 k5 f1
 have := hp _ (List.mem_of_getElem? k2) i hi ho
 rw [hc, f2] at this
 exact this
theorem thOkO : thOk thO := by
 refine ⟨?_, ?_, ?_, ?_, ?_, ?_, ?_⟩ <;> simp [thO, i64]
theorem nx_rest {l : List In} {x : Th} : (nxT l x).ph = x.ph ∧ (nxT l x).rg = x.rg ∧ (nxT l x).st = x.st ∧ (nxT l x).tk = x.tk ∧ (nxT l x).sn = x.sn := by
 by_cases hh : x.st = 0 ∧ x.ph = 0
 ·rw [nxT_run hh.1 hh.2]; exact goT_rest l 256 x
 ·rw [nxT_not hh]; exact ⟨rfl, rfl, rfl, rfl, rfl⟩
theorem thOk_nx {l : List In} {x : Th} (hr : thB l x = true) (hx : thOk x) (hok : ∀ i ∈ l, inOk i) : thOk (nxT l x) := by
 obtain ⟨hc, hin, hp⟩ := thB_parts hr
 have hlen := (codeB_parts hc).1
 obtain ⟨i1, i2, i3⟩ := (nxT_facts hr hx hok).1
 obtain ⟨r1, r2, r3, r4, r5⟩ := nx_rest (l := l) (x := x)
 obtain ⟨h1, h2, h3, h4, h5, h6, h7⟩ := hx
 refine ⟨by unfold i64; omega, by rw [r1]; exact h2, by rw [r2]; exact h3, by rw [r3]; exact h4, by rw [r4]; exact h5, i3, by rw [r5]; exact h7⟩
theorem setR_max {x : Th} {i u : Nat} (h : ∀ j, x.r j ≤ 18446744073709551615) (hu : u ≤ 18446744073709551615) : ∀ j, (setR x i u).r j ≤ 18446744073709551615 := setR_le h hu
theorem regT_r {i : In} {y : Th} {e : Ev} {v : Nat} (h : ∀ j, y.r j ≤ 18446744073709551615) (hv : v ≤ 18446744073709551615) (he : e.vl ≤ 18446744073709551615) : ∀ j, (regT i y e v).r j ≤ 18446744073709551615 := by
 unfold regT
 repeat' split
 ·exact setR_max h (by omega)
 ·exact setR_max (setR_max h hv) (by omega)
 ·exact setR_max h (by omega)
 ·exact setR_max h (by omega)
 ·exact setR_max h (by omega)
 ·exact setR_max h he
 ·exact setR_max (setR_max h he) (by omega)
 ·exact setR_max h (by omega)
 ·exact h
theorem regT_at {i : In} {y : Th} {e : Ev} {v : Nat} : (regT i y e v).at_ = y.at_ ∧ (regT i y e v).st = y.st := by
 unfold regT
 repeat' split
 all_goals exact ⟨rfl, rfl⟩
theorem thOk_beh {i : In} {y : Th} {e : Ev} {v : Nat} (hy : thOk y) (h0 : 0 ≤ y.at_) (h256 : y.at_ ≤ 256) (he : evOk e) (hv : v ≤ 18446744073709551615) : thOk (behT i y e v) := by
 obtain ⟨h1, h2, h3, h4, h5, h6, h7⟩ := hy
 obtain ⟨e1, e2, e3, e4, e5⟩ := he
 unfold behT
 split
 ·exact ⟨h1, by simp [i64], e3, h4, e4, h6, h7⟩
 split
 ·exact ⟨h1, by simp [i64], e3, h4, e4, h6, h7⟩
 split
 ·exact ⟨h1, h2, h3, by simp [i64], h5, h6, h7⟩
 split
 ·exact ⟨h1, h2, h3, by simp [i64], h5, h6, h7⟩
 split
 ·refine ⟨by unfold i64 endT seeT; simp only; omega, by unfold i64 endT; simp only; omega, by unfold i64 endT; simp only; omega, h4, by unfold endT; simp only; omega, h6, fun n hn => ?_⟩
  unfold endT seeT at hn
  simp only [List.mem_append, List.mem_singleton] at hn
  rcases hn with hn | rfl
  ·exact h7 n hn
  ·exact e5
 ·obtain ⟨q1, q2⟩ := regT_at (i := i) (y := y) (e := e) (v := v)
  refine ⟨?_, by unfold i64 endT; simp only; omega, by unfold i64 endT; simp only; omega, ?_, by unfold endT; simp only; omega, regT_r h6 hv e5, fun n hn => ?_⟩
  ·unfold i64 endT; simp only; rw [q1]; omega
  ·show i64 (regT i y e v).st
   rw [q2]; exact h4
  ·have hn : n ∈ (regT i y e v).sn := hn
   rw [regT_sn] at hn
   exact h7 n hn
theorem thOk_do {l : List In} {x : Th} {e : Ev} {v : Nat} (hx : thOk x) (hok : ∀ i ∈ l, inOk i) (he : evOk e) (hv : v ≤ 18446744073709551615) : thOk (doZ l x e v).1 := by
 unfold doZ
 split
 case isFalse => exact thOkO
 rename_i hr
 split
 case isFalse => exact thOkO
 split
 case isFalse => exact thOkO
 obtain ⟨i1, i2, _⟩ := (nxT_facts hr hx hok).1
 exact thOk_beh (thOk_nx hr hx hok) i1 (by have := (codeB_parts (thB_parts hr).1).1; omega) he hv
theorem perfF_ok {f : Fb} {e : Ev} (ok : FbOk f) (hn : namesF f e = 0) (he : evOk e) (hev : e.vl ≤ 18446744073709551615) (hv : (movF f e (askF f e.th.toNat)).2 ≤ 18446744073709551615) : FbOk (perfF f e) := by
 obtain ⟨_, h0, h1⟩ := names_has hn
 have htl : e.th.toNat < f.p.ts.length := by omega
 obtain ⟨k1, k2, k3, k4, k5⟩ := thr_get ok htl
 have hm := movF_ok (f := f) (e := e) (a := askF f e.th.toNat) ok hev
 obtain ⟨r1, r2, r3, r4⟩ := movF_rest f e (askF f e.th.toNat)
 have hd := thOk_do (l := codeN f e.th.toNat) (x := thrN f e.th.toNat) (e := e) (v := (movF f e (askF f e.th.toNat)).2) k3 k5 he hv
 unfold perfF
 obtain ⟨m, hmm⟩ : ∃ m, movF f e (askF f e.th.toNat) = m := ⟨_, rfl⟩
 simp only [hmm] at *
 obtain ⟨d, hdd⟩ : ∃ d, (doZ (codeN f e.th.toNat) (thrN f e.th.toNat) e m.2).1 = d := ⟨_, rfl⟩
 simp only [hdd] at *
 refine ⟨hm.pok, fun x hx => ?_, ?_, ?_, hm.ll, hm.nb, fun s hs n hn2 => ?_⟩
 ·rcases List.mem_or_eq_of_mem_set hx with hx | hx
  ·exact hm.tok x hx
  ·subst hx
   obtain ⟨q1, q2, q3, q4, q5, q6, _⟩ := hd
   exact ⟨⟨q1, q2, q3, q4, q5, q6, fun n hn => by cases hn⟩, rfl⟩
 ·show (m.1.th.set _ _).length = _
  rw [List.length_set]; exact hm.tl
 ·show (m.1.sn.set _ _).length = _
  rw [List.length_set]; exact hm.sl
 ·rcases List.mem_or_eq_of_mem_set hs with hs | hs
  ·exact hm.sb s hs n hn2
  ·subst hs
   rcases List.mem_append.1 hn2 with hn2 | hn2
   ·have hsl : e.th.toNat < f.sn.length := by rw [ok.sl]; exact htl
    rw [List.getD_eq_getElem?_getD, List.getElem?_eq_getElem hsl] at hn2
    exact ok.sb _ (List.getElem_mem hsl) n hn2
   ·exact hd.2.2.2.2.2.2 n hn2
theorem perfF_p {f : Fb} {e : Ev} : (perfF f e).p = f.p := (movF_rest f e (askF f e.th.toNat)).1
theorem reqA_vl {l : List In} {y : Th} (hy : ∀ i, y.r i ≤ 18446744073709551615) : (reqA l y).vl ≤ 18446744073709551615 := by
 have key : ∀ (c : Prop) [Decidable c] (a b : Ak), a.vl ≤ 18446744073709551615 → b.vl ≤ 18446744073709551615 → (if c then a else b).vl ≤ 18446744073709551615 := by
  intro c _ a b h1 h2
  split
  ·exact h1
  ·exact h2
 unfold reqA visA noneA
 repeat' apply key
 all_goals first
  | exact hy _
  | exact Nat.zero_le _
theorem ask_vl {f : Fb} (ok : FbOk f) (t : Nat) : (askF f t).vl ≤ 18446744073709551615 := by
 by_cases ht : t < f.p.ts.length
 ·obtain ⟨k1, k2, k3, k4, k5⟩ := thr_get ok ht
  unfold askF nxZ
  by_cases h : thB (codeN f t) (thrN f t) = true
  ·rw [if_pos h]; exact reqA_vl (thOk_nx h k3 k5).2.2.2.2.2.1
  ·rw [if_neg h]; exact Nat.zero_le _
 ·have h1 : thrN f t = ⟨0, 0, 0, 0, 0, fun _ => 0, []⟩ := by
   unfold thrN
   rw [List.getD_eq_getElem?_getD, List.getElem?_eq_none (by rw [ok.tl]; omega)]; rfl
  have h2 : codeN f t = [] := by
   unfold codeN
   rw [List.getD_eq_getElem?_getD, List.getElem?_eq_none (by omega)]; rfl
  unfold askF nxZ
  rw [h1, h2]
  by_cases h : thB [] ⟨0, 0, 0, 0, 0, fun _ => 0, []⟩ = true
  ·rw [if_pos h]
   refine reqA_vl (thOk_nx h thOkO (fun i hi => by cases hi)).2.2.2.2.2.1
  ·rw [if_neg h]; exact Nat.zero_le _
theorem relV_le {R : Rg} {j : Int} {t : Nat} (h : SlOk R.rd R.L) : relV R j t ≤ 18446744073709551615 := by
 unfold relV
 split
 ·unfold getV
  split
  ·have h1 := slX_get (L := R.L) (by have := h.1; omega) t
   have := (h.2.2.2.2 _ (List.mem_of_getElem? h1)).2.1
   omega
  ·exact Nat.zero_le _
 ·exact Nat.zero_le _
theorem movF_v {f : Fb} {e : Ev} {a : Ak} (h : e.kd = 4 → SlOk (lnN f e.rg).R.rd (lnN f e.rg).R.L) : (movF f e a).2 ≤ 18446744073709551615 := by
 by_cases h4 : e.kd = 4
 ·unfold movF
  rw [if_neg (by omega), if_neg (by omega), if_neg (by omega), if_pos h4]
  exact relV_le (h h4)
 ·have h0 : (movF f e a).2 = 0 := by
   unfold movF
   rw [if_neg h4]
   repeat' split
   all_goals rfl
  rw [h0]; exact Nat.zero_le _
def TlB (f : Fb) (k : Nat) : Prop := ∀ x ∈ f.ln, x.R.tail ≤ k
def SnB (f : Fb) (k : Nat) : Prop := ∀ s ∈ f.sn, s.length ≤ k
theorem claim_tail (R : Rg) : (claimR R).tail ≤ R.tail + 1 := by
 unfold claimR
 repeat' split
 all_goals first
  | exact Nat.le_refl _
  | exact Nat.le_succ _
theorem pub_tail (R : Rg) (t v : Nat) : (pubR R t v).tail = R.tail := by unfold pubR; repeat' split <;> rfl
theorem take_tail (R : Rg) (j : Int) : (takeR R j).tail = R.tail := by unfold takeR; repeat' split <;> rfl
theorem rel_tail (R : Rg) (j : Int) (t : Nat) : (relR R j t).tail = R.tail := by unfold relR; repeat' split <;> rfl
theorem lnN_tail {f : Fb} {k : Nat} (h : TlB f k) (i : Int) : (lnN f i).R.tail ≤ k := by
 unfold lnN
 rw [List.getD_eq_getElem?_getD]
 cases hg : f.ln[i.toNat]? with
 | none => exact Nat.zero_le _
 | some x => exact h x (List.mem_of_getElem? hg)
theorem setL_tail {f : Fb} {k k' : Nat} {i : Int} {R : Rg} {c : Bool} (h : TlB f k) (hk : k ≤ k') (hR : R.tail ≤ k') : TlB (setL f i R c) k' := fun x hx => by
 rcases List.mem_or_eq_of_mem_set hx with hx | hx
 ·exact Nat.le_trans (h x hx) hk
 ·subst hx; exact hR
theorem movF_tail {f : Fb} {e : Ev} {a : Ak} {k : Nat} (h : TlB f k) : TlB (movF f e a).1 (k + 1) := by
 have hl := lnN_tail h e.rg
 have h1 : TlB f (k + 1) := fun x hx => Nat.le_trans (h x hx) (Nat.le_succ k)
 unfold movF
 split
 ·exact setL_tail h (Nat.le_succ k) (Nat.le_trans (claim_tail _) (by omega))
 split
 ·exact setL_tail h (Nat.le_succ k) (by rw [pub_tail]; omega)
 split
 ·exact setL_tail h (Nat.le_succ k) (by rw [take_tail]; omega)
 split
 ·exact setL_tail h (Nat.le_succ k) (by rw [rel_tail]; omega)
 split
 ·exact setL_tail h (Nat.le_succ k) (by omega)
 repeat' split
 all_goals exact h1
theorem perfF_tail {f : Fb} {e : Ev} {k : Nat} (h : TlB f k) : TlB (perfF f e) (k + 1) := movF_tail (e := e) (a := askF f e.th.toNat) h
theorem perfF_sn {f : Fb} {e : Ev} {k : Nat} (ok : FbOk f) (hn : namesF f e = 0) (h : SnB f k) : SnB (perfF f e) (k + 1) := by
 obtain ⟨_, h0, h1⟩ := names_has hn
 have htl : e.th.toNat < f.p.ts.length := by omega
 obtain ⟨k1, k2, k3, k4, k5⟩ := thr_get ok htl
 have hd := doZ_sn (e := e) (v := (movF f e (askF f e.th.toNat)).2) k3 k4 k5
 intro s hs
 have hs : s ∈ (movF f e (askF f e.th.toNat)).1.sn.set e.th.toNat (f.sn.getD e.th.toNat [] ++ (doZ (codeN f e.th.toNat) (thrN f e.th.toNat) e (movF f e (askF f e.th.toNat)).2).1.sn) := hs
 rw [(movF_rest f e (askF f e.th.toNat)).2.2.1] at hs
 rcases List.mem_or_eq_of_mem_set hs with hs | hs
 ·exact Nat.le_trans (h s hs) (Nat.le_succ k)
 ·subst hs
  have hsl : e.th.toNat < f.sn.length := by rw [ok.sl]; exact htl
  rw [List.getD_eq_getElem?_getD, List.getElem?_eq_getElem hsl, List.length_append]
  have := h _ (List.getElem_mem hsl)
  simp only [Option.getD_some]
  omega
theorem sn_le {f : Fb} {k : Nat} (h : SnB f k) (t : Nat) : (f.sn.getD t []).length ≤ k := by
 rw [List.getD_eq_getElem?_getD]
 cases hg : f.sn[t]? with
 | none => exact Nat.zero_le _
 | some s => exact h s (List.mem_of_getElem? hg)
structure FbGood (f : Fb) (k : Nat) : Prop where
 ok : FbOk f
 rg : RgIn f.p
 tl : TlB f k
 sn : SnB f k
theorem FbGood.more {f : Fb} {k : Nat} (g : FbGood f k) : FbGood f (k + 1) := ⟨g.ok, g.rg, fun x hx => Nat.le_succ_of_le (g.tl x hx), fun s hs => Nat.le_succ_of_le (g.sn s hs)⟩
section
variable {w w' : World} {B F : Nat} {f : Fb} {z : Fv} {k : Nat} {e : Ev}
theorem FbGood.perf (g : FbGood f k) (h : FabAt w B F f z) (he : evOk e) (hn : namesF f e = 0) (hm : matF f e = true) : FbGood (perfF f e) (k + 1) := by
 refine ⟨perfF_ok g.ok hn he he.2.2.2.2 (movF_v fun h4 => ?_), by rw [perfF_p]; exact g.rg, perfF_tail g.tl, perfF_sn g.ok hn g.sn⟩
 obtain ⟨r0, r1⟩ := mat_rg g.ok g.rg hn hm (by unfold onLane; omega)
 obtain ⟨r, cap, pre, post, _, _, _, _, _, hr, _⟩ := h.lane g.ok r0 r1
 exact hr.1.2.1
def doF (f : Fb) (e : Ev) : Fb := if fdoE f e = 0 then perfF f e else f
def feedF (f : Fb) (e : Ev) : Fb := if feedE f e = 0 then perfF f e else f
theorem fdo_parts (h : fdoE f e = 0) : namesF f e = 0 ∧ alwB f e = true ∧ matF f e = true := by
 unfold fdoE at h
 by_cases h1 : namesF f e = 0
 ·rw [if_pos h1] at h
  by_cases h2 : alwB f e = true
  ·have h3 := h2
   unfold alwB at h3
   rw [Bool.and_eq_true, Bool.and_eq_true] at h3
   exact ⟨h1, h2, h3.1.2⟩
  ·rw [if_neg h2] at h; cases h
 ·rw [if_neg h1] at h; exact absurd h h1
theorem feed_parts (h : feedE f e = 0) : namesF f e = 0 ∧ matF f e = true ∧ fedF f e (askF f e.th.toNat) = true := by
 unfold feedE at h
 by_cases h1 : namesF f e = 0
 ·rw [if_pos h1] at h
  by_cases h2 : matF f e = true
  ·rw [if_pos h2] at h
   by_cases h3 : fedF f e (askF f e.th.toNat) = true
   ·exact ⟨h1, h2, h3⟩
   ·rw [if_neg h3] at h; cases h
  ·rw [if_neg h2] at h; cases h
 ·rw [if_neg h1] at h; exact absurd h h1
def DgPost (w : World) (B F : Nat) (z : Fv) (k : Nat) (E : Int) (f' : Fb) (q : Ending) (w' : World) : Prop := q = .returned (.int .i64 E) ∧ ∃ z', FabAt w' B F f' z' ∧ FbGood f' (k + 1) ∧ Kept (FpOf F z) w w' ∧ ∀ j, FpOf F z' j → FpOf F z j ∨ w.heap.size ≤ j
theorem fbDoG (he : evOk e) (hk : k ≤ 1000000) (h : FabAt w B F f z) (g : FbGood f k) : Calls Tryz.prog 18 #[.pointer (some ⟨F, 0, none⟩), .agg (evC e)] w (DgPost w B F z k (fdoE f e) (doF f e)) := by
 refine (fbDo e h g.ok (fun a b c => mat_rg g.ok g.rg a b c) he.2.2.2.1 he.2.2.2.2 (ask_vl g.ok) (fun _ _ => by have := lnN_tail g.tl e.rg; omega) (fun t => by have := sn_le g.sn t; omega)).mono ?_
 rintro q w' ⟨rfl, z', h1, h2, h3⟩
 refine ⟨rfl, z', h1, ?_, h2, h3⟩
 unfold doF
 by_cases h0 : fdoE f e = 0
 ·rw [if_pos h0]
  obtain ⟨p1, p2, p3⟩ := fdo_parts h0
  exact g.perf h he p1 p3
 ·rw [if_neg h0]; exact g.more
theorem fbFeedG (he : evOk e) (hk : k ≤ 1000000) (h : FabAt w B F f z) (g : FbGood f k) : Calls Tryz.prog 23 #[.pointer (some ⟨F, 0, none⟩), .agg (evC e)] w (DgPost w B F z k (feedE f e) (feedF f e)) := by
 refine (fbFeed e h g.ok (fun a b c => mat_rg g.ok g.rg a b c) he.2.2.2.1 he.2.2.2.2 (ask_vl g.ok) (fun _ _ _ => by have := lnN_tail g.tl e.rg; omega) (fun t => by have := sn_le g.sn t; omega)).mono ?_
 rintro q w' ⟨rfl, z', h1, h2, h3⟩
 refine ⟨rfl, z', h1, ?_, h2, h3⟩
 unfold feedF
 by_cases h0 : feedE f e = 0
 ·rw [if_pos h0]
  obtain ⟨p1, p2, p3⟩ := feed_parts h0
  exact g.perf h he p1 p2
 ·rw [if_neg h0]; exact g.more
theorem fbAllowedG (he : evOk e) (h : FabAt w B F f z) (g : FbGood f k) : Calls Tryz.prog 16 #[.pointer (some ⟨F, 0, none⟩), .agg (evC e)] w fun q w' => q = .returned (.bool (alwB f e)) ∧ Below w.heap.size w w' :=
 fbAllowed e h g.ok (fun a b c => mat_rg g.ok g.rg a b c) he.2.2.2.1 he.2.2.2.2
end
def runsB (f : Fb) (t : Int) : Bool := hasF f t && decide ((thrN f t.toNat).st = 0)
section
variable {w w' : World} {B F : Nat} {f : Fb} {z : Fv}
set_option maxHeartbeats 2000000 in
theorem fbNow (h : FabAt w B F f z) : Calls Tryz.prog 35 #[.pointer (some ⟨F, 0, none⟩)] w fun q w' => q = .returned (.int .u64 (f.now : Int)) ∧ w = w' := by
 obtain ⟨_, _, _, _, _, c5, _, _⟩ := h.cells
 have hlt := h.lt
 clear h
 go_enter Tryz.func35, Tryz.ntmps35
 go_wp2
 go_ret
 exact ⟨rfl, rfl⟩
set_option maxHeartbeats 2000000 in
theorem fbRuns (t : Int) (h : FabAt w B F f z) (ok : FbOk f) : Calls Tryz.prog 32 #[.pointer (some ⟨F, 0, none⟩), .int .i64 t] w fun q w' => q = .returned (.bool (runsB f t)) ∧ w = w' := by
 have HH := Lib.hid (fbHas t h ok)
 by_cases hh : hasF f t = true
 case neg =>
  rw [Bool.not_eq_true] at hh
  rw [hh] at HH
  have HX : Hid (runsB f t = false) := by show (hasF f t && _) = _; rw [hh]; rfl
  clear h ok hh
  go_enter Tryz.func32, Tryz.ntmps32
  go_wp2_with fail
  refine HH.out.mono ?_
  rintro q w3 ⟨rfl, rfl⟩
  go_wp2_with fail
  go_ret
  exact ⟨ret_bool (by rw [HX.out]), rfl⟩
 rw [hh] at HH
 have h2 := hh
 unfold hasF at h2
 rw [Bool.and_eq_true, decide_eq_true_eq, decide_eq_true_eq] at h2
 obtain ⟨i, rfl⟩ : ∃ i : Nat, t = (i : Int) := ⟨t.toNat, by omega⟩
 have hti : i < f.p.ts.length := by omega
 obtain ⟨qb, qo, A, c, T, ct, e1, e2, a1, a2, a3, a4, hT, hB, HC⟩ := h.thr ok hti
 obtain ⟨_, _, c2, _⟩ := h.cells
 rw [e2] at c2
 obtain ⟨x, hx⟩ : ∃ x, thrN f i = x := ⟨_, rfl⟩
 have HX : Hid (runsB f (i : Int) = decide (x.st = 0)) := by show (hasF f _ && _) = _; rw [hh, Int.toNat_natCast, hx]; rfl
 rw [hx] at HC
 have c3 := (HC w (Below.refl _ _)).2.2 3 _ (by decide) rfl
 have hlf := h.lt
 obtain ⟨n, hn⟩ : ∃ n, f.p.ts.length = n := ⟨_, rfl⟩
 rw [hn] at c2 a1 hti
 have hii : (i : Int) < (n : Int) := by omega
 obtain ⟨st, hst⟩ : ∃ s, x.st = s := ⟨_, rfl⟩
 replace c3 : w.cell? ⟨T, i * 14 + 3, none⟩ = some (.int .i64 st) := by rw [← hst]; exact c3
 rw [hst] at HX
 have he : (st == 0) = decide (st = 0) := by rw [Bool.eq_iff_iff]; simp
 clear h ok hh h2 HC e1 e2 hx hst hn
 go_enter Tryz.func32, Tryz.ntmps32
 go_wp2_with fail
 refine HH.out.mono ?_
 rintro q w3 ⟨rfl, rfl⟩
 go_wp2_with fail
 go_ret
 exact ⟨ret_bool (by rw [HX.out, ← he]), rfl⟩
end
def overB (f : Fb) : Bool := (List.range f.p.ts.length).all fun (i : Nat) => !runsB f (i : Int)
theorem over_yes {f : Fb} (h : ∀ j : Nat, j < f.p.ts.length → runsB f (j : Int) = false) : overB f = true := by
 unfold overB
 rw [List.all_eq_true]
 intro j hj
 rw [h j (List.mem_range.1 hj)]; rfl
theorem over_no {f : Fb} {j : Nat} (hj : j < f.p.ts.length) (h : runsB f (j : Int) = true) : overB f = false := by
 unfold overB
 rw [List.all_eq_false]
 exact ⟨j, List.mem_range.2 hj, by rw [h]; decide⟩
section
variable {w w' : World} {B F : Nat} {f : Fb} {z : Fv}
set_option maxHeartbeats 2000000 in
theorem fbOver (h : FabAt w B F f z) (ok : FbOk f) : Calls Tryz.prog 34 #[.pointer (some ⟨F, 0, none⟩)] w fun q w' => q = .returned (.bool (overB f)) ∧ w = w' := by
 have HR := Lib.hid (fun t => fbRuns t h ok)
 obtain ⟨T, ct, S, cs, L, cl, e1, _, _, ⟨a1, a2⟩, _, _⟩ := h.forms ok
 obtain ⟨_, _, c2, _⟩ := h.cells
 rw [e1] at c2
 have hlf := h.lt
 have HYE := Lib.hid (fun h => over_yes (f := f) h)
 have HNO := Lib.hid (fun (j : Nat) h1 h2 => over_no (f := f) (j := j) h1 h2)
 obtain ⟨n, hn⟩ : ∃ n, f.p.ts.length = n := ⟨_, rfl⟩
 rw [hn] at c2 a1 HYE HNO
 clear h ok e1 hn
 go_enter Tryz.func34, Tryz.ntmps34
 go_wp2_with fail
 go_loopw [11] (fun u wr => ∃ i : Nat, i ≤ n ∧ u = .int .i64 i ∧ wr = w ∧ Hid (∀ j : Nat, j < i → runsB f (j : Int) = false)) (fun u _ => n - (intOf u).toNat)
 case atStart => exact ⟨0, by omega, rfl, rfl, fun j hj => absurd hj (Nat.not_lt_zero _)⟩
 case round =>
  obtain ⟨i, hi, rfl, rfl, hq⟩ := hrel
  by_cases hlt : i < n
  ·have hii : (i : Int) < (n : Int) := by omega
   go_wp2_with fail
   refine (HR.out (i : Int)).mono ?_
   rintro q w3 ⟨rfl, rfl⟩
   obtain ⟨rb, hrb⟩ : ∃ b, runsB f (i : Int) = b := ⟨_, rfl⟩
   have HRB := Lib.hid hrb
   rw [hrb]
   clear hrb
   cases rb
   ·go_wp2_with fail
    go_roundw
    case rel => exact ⟨i + 1, by omega, by go_num, trivial, fun j hj => by
     rcases Nat.lt_succ_iff_lt_or_eq.1 hj with h | h
     ·exact hq.out j h
     ·subst h; exact HRB.out⟩
    case measure => simp [intOf]; omega
   ·have HX := Lib.hid (HNO.out i hlt HRB.out)
    go_wp2
    go_ret
    exact ⟨ret_bool (by rw [HX.out]), rfl⟩
  ·obtain rfl : i = n := by omega
   have HX := Lib.hid (HYE.out hq.out)
   go_wp2
   go_ret
   exact ⟨ret_bool (by rw [HX.out]), rfl⟩
end
theorem beh_sn17 (i : In) (y : Th) (e : Ev) (v : Nat) : (behT i y e v).sn = if e.kd = 12 then y.sn ++ [e.vl] else y.sn := by
 unfold behT
 by_cases k12 : e.kd = 12
 ·rw [if_pos k12, if_neg (by omega), if_neg (by omega), if_neg (by omega), if_neg (by omega), if_pos k12]; rfl
 ·by_cases k1 : e.kd = 1
  ·rw [if_pos k1, if_neg k12]
  by_cases k3 : e.kd = 3
  ·rw [if_neg k1, if_pos k3, if_neg k12]
  by_cases k14 : e.kd = 14
  ·rw [if_neg k1, if_neg k3, if_pos k14, if_neg k12]
  by_cases k15 : e.kd = 15
  ·rw [if_neg k1, if_neg k3, if_neg k14, if_pos k15, if_neg k12]
  rw [if_neg k1, if_neg k3, if_neg k14, if_neg k15, if_neg k12, if_neg k12]
  exact regT_sn i y e v
theorem regT_st17 (i : In) (y : Th) (e : Ev) (v : Nat) : (regT i y e v).st = y.st := by
 unfold regT
 repeat' split
 all_goals rfl
theorem beh_st17 (i : In) (y : Th) (e : Ev) (v : Nat) : (behT i y e v).st = if e.kd = 14 then 1 else if e.kd = 15 then 2 else y.st := by
 unfold behT
 by_cases k1 : e.kd = 1
 ·rw [if_pos k1, if_neg (by omega), if_neg (by omega)]
 by_cases k3 : e.kd = 3
 ·rw [if_neg k1, if_pos k3, if_neg (by omega), if_neg (by omega)]
 by_cases k14 : e.kd = 14
 ·rw [if_neg k1, if_neg k3, if_pos k14, if_pos k14]
 by_cases k15 : e.kd = 15
 ·rw [if_neg k1, if_neg k3, if_neg k14, if_pos k15, if_neg k14, if_pos k15]
 by_cases k12 : e.kd = 12
 ·rw [if_neg k1, if_neg k3, if_neg k14, if_neg k15, if_pos k12, if_neg k14, if_neg k15]; rfl
 ·rw [if_neg k1, if_neg k3, if_neg k14, if_neg k15, if_neg k12, if_neg k14, if_neg k15]
  exact regT_st17 i y e v
theorem mat_doZ {f : Fb} {e : Ev} (v : Nat) (hm : matF f e = true) : (doZ (codeN f e.th.toNat) (thrN f e.th.toNat) e v).1 = behT (atT (codeN f e.th.toNat) (nxT (codeN f e.th.toNat) (thrN f e.th.toNat))) (nxT (codeN f e.th.toNat) (thrN f e.th.toNat)) e v := by
 obtain ⟨h1, h2, h3⟩ := mat_parts hm
 unfold doZ
 rw [if_pos h1, if_pos h2, if_pos h3]
theorem fit_kd {a : Ak} {e : Ev} (h : fitB a e = true) (he : rightE e = true) : a.kd ≠ 0 := by
 intro h0
 unfold fitB mvB at h
 rw [h0] at h
 revert h
 repeat' split
 all_goals simp
theorem mat_runs {f : Fb} {e : Ev} (ok : FbOk f) (hn : namesF f e = 0) (hm : matF f e = true) : runsB f e.th = true := by
 obtain ⟨_, h0, h1⟩ := names_has hn
 obtain ⟨m1, m2, m3⟩ := mat_parts hm
 obtain ⟨_, _, k3, _, k5⟩ := thr_get ok (t := e.th.toNat) (by omega)
 have hst : (nxT (codeN f e.th.toNat) (thrN f e.th.toNat)).st = 0 := by
  by_cases hs : (nxT (codeN f e.th.toNat) (thrN f e.th.toNat)).st = 0
  ·exact hs
  ·exact absurd (by rw [reqA_st hs]; rfl) (fit_kd m3 m2)
 rw [nx_rest.2.2.1] at hst
 unfold runsB hasF
 rw [decide_eq_true h0, decide_eq_true h1, decide_eq_true hst]; rfl
section
variable {f : Fb} {e : Ev}
theorem perf_seen (ok : FbOk f) (hn : namesF f e = 0) (hm : matF f e = true) (u : Nat) : (perfF f e).sn.getD u [] = if u = e.th.toNat then f.sn.getD u [] ++ (if e.kd = 12 then [e.vl] else []) else f.sn.getD u [] := by
 obtain ⟨_, h0, h1⟩ := names_has hn
 have htl : e.th.toNat < f.sn.length := by rw [ok.sl]; omega
 obtain ⟨m1, _, _⟩ := mat_parts hm
 obtain ⟨_, _, k3, k4, k5⟩ := thr_get ok (t := e.th.toNat) (by omega)
 show ((movF f e (askF f e.th.toNat)).1.sn.set e.th.toNat (f.sn.getD e.th.toNat [] ++ (doZ (codeN f e.th.toNat) (thrN f e.th.toNat) e (movF f e (askF f e.th.toNat)).2).1.sn)).getD u [] = _
 rw [(movF_rest f e (askF f e.th.toNat)).2.2.1, mat_doZ _ hm, beh_sn17, nx_rest.2.2.2.2, k4, List.nil_append]
 by_cases hu : u = e.th.toNat
 ·subst hu
  rw [if_pos rfl, List.getD_eq_getElem?_getD, List.getElem?_set_self htl]; rfl
 ·rw [if_neg hu, List.getD_eq_getElem?_getD, List.getElem?_set_ne (Ne.symm hu), ← List.getD_eq_getElem?_getD]
theorem perf_runs (ok : FbOk f) (hn : namesF f e = 0) (hm : matF f e = true) (u : Nat) : runsB (perfF f e) (u : Int) = if u = e.th.toNat then decide (e.kd ≠ 14 ∧ e.kd ≠ 15) else runsB f (u : Int) := by
 obtain ⟨_, h0, h1⟩ := names_has hn
 have htl : e.th.toNat < f.th.length := by rw [ok.tl]; omega
 have hr := mat_runs ok hn hm
 have hh : ∀ t, hasF (perfF f e) t = hasF f t := fun t => by unfold hasF; rw [perfF_p]
 have hth : (perfF f e).th = f.th.set e.th.toNat { (doZ (codeN f e.th.toNat) (thrN f e.th.toNat) e (movF f e (askF f e.th.toNat)).2).1 with sn := [] } := by
  show (movF f e (askF f e.th.toNat)).1.th.set _ _ = _
  rw [(movF_rest f e (askF f e.th.toNat)).2.1]
 unfold runsB
 rw [hh, Int.toNat_natCast]
 unfold thrN
 rw [hth, mat_doZ _ hm]
 by_cases hu : u = e.th.toNat
 ·subst hu
  rw [if_pos rfl, List.getD_eq_getElem?_getD, List.getElem?_set_self htl]
  have hhas : hasF f ((e.th.toNat : Nat) : Int) = true := by
   unfold hasF
   rw [Bool.and_eq_true, decide_eq_true_eq, decide_eq_true_eq]
   omega
  rw [hhas, Bool.true_and]
  show decide ((behT _ _ e _).st = 0) = _
  rw [beh_st17]
  unfold runsB at hr
  rw [Bool.and_eq_true, decide_eq_true_eq] at hr
  have hy : (nxT (codeN f e.th.toNat) (thrN f e.th.toNat)).st = 0 := by rw [nx_rest.2.2.1]; exact hr.2
  by_cases k14 : e.kd = 14
  ·rw [if_pos k14]; simp [k14]
  ·by_cases k15 : e.kd = 15
   ·rw [if_neg k14, if_pos k15]; simp [k15]
   ·rw [if_neg k14, if_neg k15, hy]; simp [k14, k15]
 ·rw [if_neg hu, List.getD_eq_getElem?_getD, List.getElem?_set_ne (Ne.symm hu), ← List.getD_eq_getElem?_getD]
end
def askE (f : Fb) (t : Int) : Int := if hasF f t = true then 0 else 5
def askO (f : Fb) (t : Int) : Ak := if hasF f t = true then askF f t.toNat else ⟨0, 0, 0, 0, 0, 0⟩
section
variable {w w' : World} {B F : Nat} {f : Fb} {z : Fv}
set_option maxHeartbeats 4000000 in
set_option maxRecDepth 100000 in
theorem fbAskO (t : Int) (h : FabAt w B F f z) (ok : FbOk f) : Calls Tryz.prog 29 #[.pointer (some ⟨F, 0, none⟩), .int .i64 t] w fun q w' => q = .returned (.tuple #[.agg (akC (askO f t)), .int .i64 (askE f t)]) ∧ Below w.heap.size w w' := by
 have hb := (Below.refl w.heap.size w).alloc (Nat.le_refl _) (.cells akZ 63)
 have lb := Lies.made w 63 akZ
 have h1 := h.later hb
 have HH := Lib.hid (fbHas t h1 ok)
 have HB := Lib.hid hb
 have LB := Lib.hid lb
 by_cases hh : hasF f t = true
 case neg =>
  have HX : Hid (askO f t = ⟨0, 0, 0, 0, 0, 0⟩ ∧ askE f t = 5) := ⟨if_neg hh, if_neg hh⟩
  rw [Bool.not_eq_true] at hh
  rw [hh] at HH
  clear hb lb h h1 ok hh
  go_enter Tryz.func29, Tryz.ntmps29
  go_wp2_with fail
  refine HH.out.mono ?_
  rintro q w3 ⟨rfl, rfl⟩
  generalize hW : w.alloc (.cells akZ 63) = w4 at *
  go_wp2_with (refine wpList_store_row rfl 63 _ _ rfl w.heap.size akZ rfl rfl 63 akZ LB.out infoAk rfl akZ_one ?_)
  have hk5 := kept_rowT (w := w4) (g := w.heap.size) akZ
  have hlz := lies_row LB.out akZ
  have hbz := HB.out.trans (hk5.below HB.out.size (fun k hk (e : k = w.heap.size) => by omega))
  generalize w4.setRow w.heap.size akZ = w5 at *
  have s0 := (hlz.cell 0).trans (show _ = some (Value.int .i64 0) from rfl)
  have s1 := (hlz.cell 1).trans (show _ = some (Value.int .i64 0) from rfl)
  have s2 := (hlz.cell 2).trans (show _ = some (Value.int .i64 0) from rfl)
  have s3 := (hlz.cell 3).trans (show _ = some (Value.int .i64 0) from rfl)
  have s4 := (hlz.cell 4).trans (show _ = some (Value.int .u64 0) from rfl)
  have s5 := (hlz.cell 5).trans (show _ = some (Value.int .u64 0) from rfl)
  exact bodyPost_ret (v := .tuple #[.agg akZ, .int .i64 5]) (by simp [results, Tryz.results29, go_sem, s0, s1, s2, s3, s4, s5]) rfl ⟨by rw [HX.out.1, HX.out.2]; rfl, hbz⟩
 have h2 := hh
 unfold hasF at h2
 rw [Bool.and_eq_true, decide_eq_true_eq, decide_eq_true_eq] at h2
 obtain ⟨i, rfl⟩ : ∃ i : Nat, t = (i : Int) := ⟨t.toNat, by omega⟩
 have hti : i < f.p.ts.length := by omega
 have HX : Hid (askO f (i : Int) = askF f i ∧ askE f (i : Int) = 0) := ⟨if_pos hh, if_pos hh⟩
 rw [hh] at HH
 have HA := Lib.hid (fbAsk i hti h1 ok)
 obtain ⟨za, hza⟩ : ∃ a, askF f i = a := ⟨_, rfl⟩
 rw [hza] at HX HA
 clear hb lb h h1 ok hh h2 hti hza
 go_enter Tryz.func29, Tryz.ntmps29
 go_wp2_with fail
 refine HH.out.mono ?_
 rintro q w3 ⟨rfl, rfl⟩
 go_wp2_with fail
 refine HA.out.mono ?_
 rintro q w4 ⟨rfl, hb4⟩
 replace LB := Lib.hid (LB.out.below hb4 LB.out.lt)
 replace HB := Lib.hid (HB.out.trans (hb4.mono HB.out.size))
 clear hb4 HA HH
 go_wp2_with (refine wpList_store_row rfl 63 _ _ rfl w.heap.size (akC za) rfl rfl 63 akZ LB.out infoAk rfl (akC_one _) ?_)
 have hk5 := kept_rowT (w := w4) (g := w.heap.size) (akC za)
 have hlz := lies_row LB.out (akC za)
 have hbz := HB.out.trans (hk5.below HB.out.size (fun k hk (e : k = w.heap.size) => by omega))
 generalize w4.setRow w.heap.size (akC za) = w5 at *
 have s0 := (hlz.cell 0).trans (show _ = some (Value.int .i64 za.kd) from rfl)
 have s1 := (hlz.cell 1).trans (show _ = some (Value.int .i64 za.rg) from rfl)
 have s2 := (hlz.cell 2).trans (show _ = some (Value.int .i64 za.md) from rfl)
 have s3 := (hlz.cell 3).trans (show _ = some (Value.int .i64 za.rd) from rfl)
 have s4 := (hlz.cell 4).trans (show _ = some (Value.int .u64 (za.tk : Int)) from rfl)
 have s5 := (hlz.cell 5).trans (show _ = some (Value.int .u64 (za.vl : Int)) from rfl)
 exact bodyPost_ret (v := .tuple #[.agg (akC za), .int .i64 0]) (by simp [results, Tryz.results29, go_sem, s0, s1, s2, s3, s4, s5]) rfl ⟨by rw [HX.out.1, HX.out.2], hbz⟩
end
theorem infoRi17 : (Tryz.prog.info? 84).map (fun i => (i.zero, i.size, i.bytes)) = some (some (.agg #[.int .i64 0, .int .i64 0, .int .i64 0]), 3, 24) := by kernel_rfl
theorem infoIn17 : (Tryz.prog.info? 122).map (fun i => (i.zero, i.size, i.bytes)) = some (some (.agg #[.int .i64 0, .int .i64 0, .int .i64 0, .int .i64 0, .int .i64 0, .int .u64 0]), 6, 48) := by kernel_rfl
theorem riF_one17 (l : List Ri) : ∀ u ∈ rowsOf riF l, u.oneCell' = true := fun u hu => by
 obtain ⟨x, _, h⟩ := rowsOf_mem hu
 unfold riF at h
 simp at h
 rcases h with rfl | rfl | rfl <;> rfl
theorem inF_one17 (l : List In) : ∀ u ∈ rowsOf inF l, u.oneCell' = true := fun u hu => by
 obtain ⟨x, _, h⟩ := rowsOf_mem hu
 unfold inF at h
 simp at h
 rcases h with rfl | rfl | rfl | rfl | rfl | rfl <;> rfl
set_option maxHeartbeats 2000000 in
set_option maxRecDepth 100000 in
theorem cloneRi (l : List Ri) (A : Option Addr) (c : Nat) (w : World) (h : SeqS w 3 (.slice A l.length c) l.length (rowsOf riF l)) (hl : l.length ≤ 1000000) :
  Calls Tryz.prog 64 #[.slice A l.length c] w fun e w' => ∃ v, e = .returned v ∧ w'.ownsRow w.heap.size 84 3 v l.length (rowsOf riF l) ∧ Below w.heap.size w w' := by
 have hf := h
 obtain ⟨h1, A', c', e1, hlc, hcm, h0, hcell⟩ := hf
 simp only [Value.slice.injEq, true_and] at e1
 obtain ⟨rfl, rfl⟩ := e1
 have HLEN := Lib.hid hl
 cases A with
 | none =>
  have hn := h0 rfl
  have hl0 : l = [] := by
   cases l with
   | nil => rfl
   | cons a t => simp only [List.length_cons] at hlc; omega
  subst hl0
  have HEQ : ∀ q : World, (binOp .eql 22 (.slice none ([] : List Ri).length c) (.slice none 0 0)).run Tryz.prog q = .ok (.bool true) q := fun q => Lib.run_eql_slice_nil q _ _ none _ _ _ _ Tryz.underlying22
  simp only [List.length_nil] at HEQ
  clear h0 hn hcell h1 h
  go_enter Tryz.func64, Tryz.ntmps64
  go_wp2
  go_ret
  exact ⟨_, rfl, World.ownsRow_nil _ _ _ _, Below.refl _ _⟩
 | some p =>
  obtain ⟨b, o, f⟩ := p
  have HSQ := Lib.hid (SeqS.later h ((Below.refl w.heap.size w).alloc (Nat.le_refl _) (.cells #[] 84)))
  have HE := Lib.hid (owned_empty (w := w) (B := w.heap.size) 84 3 (Nat.le_refl _))
  have HBA := Lib.hid ((Below.refl w.heap.size w).alloc (Nat.le_refl _) (.cells #[] 84))
  have HEQ : ∀ q : World, (binOp .eql 22 (.slice (some ⟨b, o, f⟩) l.length c) (.slice none 0 0)).run Tryz.prog q = .ok (.bool false) q := fun q => Lib.run_eql_slice_nil q _ _ (some ⟨b, o, f⟩) _ _ _ _ Tryz.underlying22
  clear h0 hcell h1 h hl
  go_enter Tryz.func64, Tryz.ntmps64
  go_wp2_with (at_builtin; refine append_argS (w.alloc (.cells #[] 84)) 3 rfl (.tmp 5) (.tmp 6) 22 rfl w.heap.size 84 _ 24 Tryz.underlying22 infoRi17 rfl (by decide) _ 0 [] rfl HE.out (some ⟨b, o, f⟩) l.length c rfl (rowsOf riF l) HSQ.out (riF_one17 _) (by have := HLEN.out; unfold maxLen; omega) (by have := HLEN.out; omega) (by simp) ?_)
  intro v' w3 ho3 hb3 hg3
  have HO := Lib.hid ho3
  have HB := Lib.hid (HBA.out.trans hb3)
  clear ho3 hb3 hg3 HSQ HE HBA
  go_wp2
  go_ret
  exact ⟨v', rfl, HO.out, HB.out⟩
set_option maxHeartbeats 2000000 in
set_option maxRecDepth 100000 in
theorem cloneIn (l : List In) (A : Option Addr) (c : Nat) (w : World) (h : SeqS w 6 (.slice A l.length c) l.length (rowsOf inF l)) (hl : l.length ≤ 1000000) :
  Calls Tryz.prog 65 #[.slice A l.length c] w fun e w' => ∃ v, e = .returned v ∧ w'.ownsRow w.heap.size 122 6 v l.length (rowsOf inF l) ∧ Below w.heap.size w w' := by
 have hf := h
 obtain ⟨h1, A', c', e1, hlc, hcm, h0, hcell⟩ := hf
 simp only [Value.slice.injEq, true_and] at e1
 obtain ⟨rfl, rfl⟩ := e1
 have HLEN := Lib.hid hl
 cases A with
 | none =>
  have hn := h0 rfl
  have hl0 : l = [] := by
   cases l with
   | nil => rfl
   | cons a t => simp only [List.length_cons] at hlc; omega
  subst hl0
  have HEQ : ∀ q : World, (binOp .eql 78 (.slice none ([] : List In).length c) (.slice none 0 0)).run Tryz.prog q = .ok (.bool true) q := fun q => Lib.run_eql_slice_nil q _ _ none _ _ _ _ Tryz.underlying78
  simp only [List.length_nil] at HEQ
  clear h0 hn hcell h1 h
  go_enter Tryz.func65, Tryz.ntmps65
  go_wp2
  go_ret
  exact ⟨_, rfl, World.ownsRow_nil _ _ _ _, Below.refl _ _⟩
 | some p =>
  obtain ⟨b, o, f⟩ := p
  have HSQ := Lib.hid (SeqS.later h ((Below.refl w.heap.size w).alloc (Nat.le_refl _) (.cells #[] 122)))
  have HE := Lib.hid (owned_empty (w := w) (B := w.heap.size) 122 6 (Nat.le_refl _))
  have HBA := Lib.hid ((Below.refl w.heap.size w).alloc (Nat.le_refl _) (.cells #[] 122))
  have HEQ : ∀ q : World, (binOp .eql 78 (.slice (some ⟨b, o, f⟩) l.length c) (.slice none 0 0)).run Tryz.prog q = .ok (.bool false) q := fun q => Lib.run_eql_slice_nil q _ _ (some ⟨b, o, f⟩) _ _ _ _ Tryz.underlying78
  clear h0 hcell h1 h hl
  go_enter Tryz.func65, Tryz.ntmps65
  go_wp2_with (at_builtin; refine append_argS (w.alloc (.cells #[] 122)) 6 rfl (.tmp 5) (.tmp 6) 78 rfl w.heap.size 122 _ 48 Tryz.underlying78 infoIn17 rfl (by decide) _ 0 [] rfl HE.out (some ⟨b, o, f⟩) l.length c rfl (rowsOf inF l) HSQ.out (inF_one17 _) (by have := HLEN.out; unfold maxLen; omega) (by have := HLEN.out; omega) (by simp) ?_)
  intro v' w3 ho3 hb3 hg3
  have HO := Lib.hid ho3
  have HB := Lib.hid (HBA.out.trans hb3)
  clear ho3 hb3 hg3 HSQ HE HBA
  go_wp2
  go_ret
  exact ⟨v', rfl, HO.out, HB.out⟩
section
variable {w w' : World} {B F : Nat} {f : Fb} {z : Fv}
def seenO (f : Fb) (t : Int) : List Nat := if hasF f t = true then f.sn.getD t.toNat [] else []
set_option maxHeartbeats 2000000 in
theorem fbSeenO (t : Int) (h : FabAt w B F f z) (ok : FbOk f) (hsn : ∀ t, (f.sn.getD t []).length ≤ 1000000) : Calls Tryz.prog 31 #[.pointer (some ⟨F, 0, none⟩), .int .i64 t] w fun q w' => ∃ v, q = .returned v ∧ w'.ownsRow w.heap.size 37 1 v (seenO f t).length (cells64 (seenO f t)) ∧ Below w.heap.size w w' := by
 have HH := Lib.hid (fbHas t h ok)
 by_cases hh : hasF f t = true
 case neg =>
  have HX : Hid (seenO f t = []) := if_neg hh
  rw [Bool.not_eq_true] at hh
  rw [hh] at HH
  clear h ok hh
  rw [HX.out]
  go_enter Tryz.func31, Tryz.ntmps31
  go_wp2_with fail
  refine HH.out.mono ?_
  rintro q w3 ⟨rfl, rfl⟩
  go_wp2_with fail
  go_ret
  exact ⟨_, rfl, World.ownsRow_nil _ _ _ _, Below.refl _ _⟩
 rw [hh] at HH
 have h2 := hh
 unfold hasF at h2
 rw [Bool.and_eq_true, decide_eq_true_eq, decide_eq_true_eq] at h2
 obtain ⟨i, rfl⟩ : ∃ i : Nat, t = (i : Int) := ⟨t.toNat, by omega⟩
 have hti : i < f.p.ts.length := by omega
 obtain ⟨S, cs, A, c, s, e1, e2, e3, e4, e5, e6, ⟨cur, e7⟩, e8, _⟩ := h.seen ok hti
 obtain ⟨_, _, _, c3, _⟩ := h.cells
 rw [e1] at c3
 have hs : f.sn.getD i [] = s := by rw [List.getD_eq_getElem?_getD, e4]; rfl
 have HX : Hid (seenO f (i : Int) = s) := by show (if _ then _ else _) = _; rw [if_pos hh, Int.toNat_natCast, hs]
 have hsl := hsn i
 rw [hs] at hsl
 have HC := Lib.hid (clone16 s A c w (SeqS.of_owns e6) hsl)
 have hlf := h.lt
 have hls := e7.lt
 obtain ⟨n, hn⟩ : ∃ n, f.p.ts.length = n := ⟨_, rfl⟩
 rw [hn] at c3 e2 hti
 have hii : (i : Int) < (n : Int) := by omega
 rw [HX.out]
 clear h ok hh h2 e1 e4 e5 e6 e7 hs hsl hsn hn
 go_enter Tryz.func31, Tryz.ntmps31
 go_wp2_with fail
 refine HH.out.mono ?_
 rintro q w3 ⟨rfl, rfl⟩
 go_wp2_with fail
 refine HC.out.mono ?_
 rintro q w4 ⟨v, rfl, ho, hb⟩
 have HO := Lib.hid ho
 have HB := Lib.hid hb
 clear ho hb
 go_wp2_with fail
 go_ret
 exact ⟨_, rfl, HO.out, HB.out⟩
end
structure Bf where
 P : Value → World → Prop
 mono : ∀ u q q', Below q.heap.size q q' → P u q → P u q'
 lit : Bool
 free : lit = true → ∀ u q q', P u q → P u q'
def Bf.any : Bf := ⟨fun _ _ => True, fun _ _ _ _ _ => trivial, true, fun _ _ _ _ _ => trivial⟩
def Bf.eq (v : Value) : Bf := ⟨fun u _ => u = v, fun _ _ _ _ h => h, true, fun _ _ _ _ h => h⟩
def Bf.own (N : Nat) (e : TypeId) (sz n : Nat) (xs : List Value) : Bf := ⟨fun u q => q.ownsRow N e sz u n xs, fun _ _ _ b h => owns_kept h (Kept.of_below b) (fun _ _ _ _ hf => hf), false, fun h => nomatch h⟩
def Bf.of (P : Value → World → Prop) (h : ∀ u q q', Below q.heap.size q q' → P u q → P u q') : Bf := ⟨P, h, false, fun h => nomatch h⟩
def bfV (fs : List Bf) (j : Nat) (u : Value) (q : World) : Prop := (fs.getD j .any).P u q
section
variable {fs : List Bf} {j : Nat} {u : Value} {q q' : World}
theorem bfV_below (hb : Below q.heap.size q q') (h : bfV fs j u q) : bfV fs j u q' := (fs.getD j .any).mono _ _ _ hb h
theorem bfV_lit {l : List Nat} (hl : l.all (fun j => (fs.getD j .any).lit) = true) (hj : j ∈ l) (h : bfV fs j u q) : bfV fs j u q' := (fs.getD j .any).free (List.all_eq_true.1 hl j hj) _ _ _ h
end
def PuS (w9 : World) (vt : Value) (F o ia it : Nat) (all pre : List Nat) (R : Value → World → Prop) (x : Nat → Value) (L : Nat → Bool) (q : World) : Prop :=
 ∃ q1, (L it = false → q = q1) ∧ (L it = true → q = q1.setCell ⟨F, o, none⟩ (x ia) ∧ ∀ j ∈ all, L j = true) ∧ Kept (fun k => vt.ownBlock = some k) w9 q1 ∧ (L ia = false → Below w9.heap.size w9 q1) ∧ (L ia = true → R (x ia) q1 ∧ ∀ j ∈ pre, L j = true)
section
variable {w9 : World} {vt v : Value} {F o ia it : Nat} {all pre : List Nat} {R : Value → World → Prop} {x : Nat → Value} {L : Nat → Bool} {q q' : World} {i : Nat}
theorem pupdL_ne {k : Nat} (h : k ≠ i) : updL L i k = L k := by unfold updL; simp [h]
theorem pupdL_self : updL L i i = true := by unfold updL; simp
theorem pupdX_ne {k : Nat} (h : k ≠ i) : updX x i v k = x k := if_neg h
theorem pupdX_self : updX x i v i = v := if_pos rfl
theorem pupdL_le {k : Nat} (h : L k = true) : updL L i k = true := by unfold updL; simp [h]
theorem pu_start : PuS w9 vt F o ia it all pre R x (fun _ => false) (w9.drewN 1) := ⟨_, fun _ => rfl, fun h => (Bool.false_ne_true h).elim, Kept.drewN _ _ _, fun _ => below_drewN (Below.refl _ _) 1, fun h => (Bool.false_ne_true h).elim⟩
theorem pu_no (h : PuS w9 vt F o ia it all pre R x L q) (hL : L i = false) (hi : all.contains i = true) : L it = false := by
 obtain ⟨q1, _, h2, _⟩ := h
 by_cases h16 : L it = true
 ·have := (h2 h16).2 i (List.contains_iff_mem.1 hi)
  rw [hL] at this; exact (Bool.false_ne_true this).elim
 ·exact Bool.eq_false_iff.2 h16
theorem pu_op (hi : (i != it && i != ia) = true) (h : PuS w9 vt F o ia it all pre R x L q) (hL : L i = false := by assumption) : PuS w9 vt F o ia it all pre R (updX x i v) (updL L i) q := by
 rw [Bool.and_eq_true, bne_iff_ne, bne_iff_ne] at hi
 obtain ⟨q1, h1, h2, h3, h4, h5⟩ := h
 refine ⟨q1, fun e => h1 ?_, fun e => ?_, h3, fun e => h4 ?_, fun e => ?_⟩
 ·rwa [pupdL_ne (Ne.symm hi.1)] at e
 ·rw [pupdL_ne (Ne.symm hi.1)] at e
  rw [pupdX_ne (Ne.symm hi.2)]; exact ⟨(h2 e).1, fun j hj => pupdL_le ((h2 e).2 j hj)⟩
 ·rwa [pupdL_ne (Ne.symm hi.2)] at e
 ·rw [pupdL_ne (Ne.symm hi.2)] at e
  rw [pupdX_ne (Ne.symm hi.2)]; exact ⟨(h5 e).1, fun j hj => pupdL_le ((h5 e).2 j hj)⟩
theorem pu_bel (h : PuS w9 vt F o ia it all pre R x L q) (hL : L ia = false) (hi : all.contains ia = true) : Below w9.heap.size w9 q := by
 have h16 := pu_no h hL hi
 obtain ⟨q1, h1, _, _, h4, _⟩ := h
 rw [h1 h16]; exact h4 hL
theorem pu_le (h : PuS w9 vt F o ia it all pre R x L q) : w9.heap.size ≤ q.heap.size := by
 obtain ⟨q1, h1, h2, h3, _, _⟩ := h
 by_cases h16 : L it = true
 ·rw [(h2 h16).1]; exact Nat.le_trans h3.size (Kept.put q1 F o (x ia)).size
 ·rw [h1 (Bool.eq_false_iff.2 h16)]; exact h3.size
theorem pu_at (h : PuS w9 vt F o ia it all pre R x L q) (hL : L i = false) (hi : all.contains i = true) : Kept (fun k => vt.ownBlock = some k) w9 q := by
 have h16 := pu_no h hL hi
 obtain ⟨q1, h1, _, h3, _⟩ := h
 rw [h1 h16]; exact h3
theorem pu_nil (h : PuS w9 (.slice none 0 0) F o ia it all pre R x L q) (hL : L i = false) (hi : all.contains i = true) : Below w9.heap.size w9 q := (pu_at h hL hi).below (Nat.le_refl _) (fun k _ (e : (Value.slice none 0 0).ownBlock = some k) => by cases e)
theorem pu_not (h : PuS w9 vt F o ia it all pre R x L q) (hi : pre.contains i = true) (hL : L i = false) : L ia = false := by
 by_cases ha : L ia = true
 ·obtain ⟨q1, _, _, _, _, h5⟩ := h
  have := (h5 ha).2 i (List.contains_iff_mem.1 hi)
  rw [hL] at this; exact (Bool.false_ne_true this).elim
 ·exact Bool.eq_false_iff.2 ha
theorem pu_more (hi : (i != it && (i != ia && (all.contains ia && pre.contains i))) = true) (h : PuS w9 vt F o ia it all pre R x L q) (hb : Below q.heap.size q q') (hL : L i = false := by assumption) : PuS w9 vt F o ia it all pre R (updX x i v) (updL L i) q' := by
 rw [Bool.and_eq_true, bne_iff_ne, Bool.and_eq_true, bne_iff_ne, Bool.and_eq_true] at hi
 have hA := pu_not h hi.2.2.2 hL
 have h16 := pu_no h hA hi.2.2.1
 have hbl := pu_bel h hA hi.2.2.1
 have hbq := then_ hbl hb
 refine ⟨q', fun _ => rfl, fun e => ?_, (Kept.of_below hbq).mono (fun _ _ (hx : False) => hx.elim), fun _ => hbq, fun e => ?_⟩
 ·rw [pupdL_ne (Ne.symm hi.1), h16] at e; exact (Bool.false_ne_true e).elim
 ·rw [pupdL_ne (Ne.symm hi.2.1), hA] at e; exact (Bool.false_ne_true e).elim
theorem pu_app (hi : (ia != it && all.contains ia) = true) (h : PuS w9 vt F o ia it all pre R x L q) (hk : Kept (fun k => vt.ownBlock = some k) q q') (hv : R v q') (hp : ∀ j ∈ pre, L j = true) (hL : L ia = false := by assumption) : PuS w9 vt F o ia it all pre R (updX x ia v) (updL L ia) q' := by
 rw [Bool.and_eq_true, bne_iff_ne] at hi
 have h16 := pu_no h hL hi.2
 have hb := pu_bel h hL hi.2
 refine ⟨q', fun _ => rfl, fun e => ?_, ((Kept.of_below hb).mono (fun _ _ (hx : False) => hx.elim)).trans hk (fun _ _ h => h), fun e => ?_, fun _ => ?_⟩
 ·rw [pupdL_ne (Ne.symm hi.1), h16] at e; exact (Bool.false_ne_true e).elim
 ·rw [pupdL_self] at e; exact (Bool.false_ne_true e.symm).elim
 ·rw [pupdX_self]; exact ⟨hv, fun j hj => pupdL_le (hp j hj)⟩
theorem pu_store (hi : (ia != it && all.contains ia) = true) (h : PuS w9 vt F o ia it all pre R x L q) (hall : ∀ j ∈ all, L j = true) (hL : L it = false := by assumption) : PuS w9 vt F o ia it all pre R (updX x it v) (updL L it) (q.setCell ⟨F, o, none⟩ (x ia)) := by
 rw [Bool.and_eq_true, bne_iff_ne] at hi
 have h10 := hall ia (List.contains_iff_mem.1 hi.2)
 obtain ⟨q1, h1, _, h3, _, h5⟩ := h
 have e := h1 hL
 subst e
 refine ⟨q, fun e => ?_, fun _ => ⟨by rw [pupdX_ne hi.1], fun j hj => pupdL_le (hall j hj)⟩, h3, fun e => ?_, fun _ => ?_⟩
 ·rw [pupdL_self] at e; exact (Bool.false_ne_true e.symm).elim
 ·rw [pupdL_ne hi.1, h10] at e; exact (Bool.false_ne_true e.symm).elim
 ·have h6 := h5 h10
  rw [pupdX_ne hi.1]; exact ⟨h6.1, fun j hj => pupdL_le (h6.2 j hj)⟩
theorem pu_st (h : PuS w9 vt F o ia it all pre R x L q) (hL : L it = false) (hA : L ia = true) : Kept (fun k => vt.ownBlock = some k) w9 q ∧ R (x ia) q := by
 obtain ⟨q1, h1, _, h3, _, h5⟩ := h
 have e := h1 hL
 subst e
 exact ⟨h3, (h5 hA).1⟩
theorem pu_end (h : PuS w9 vt F o ia it all pre R x L q) (h1 : L ia = true) (h2 : L it = true) : ∃ q1, q = q1.setCell ⟨F, o, none⟩ (x ia) ∧ Kept (fun k => vt.ownBlock = some k) w9 q1 ∧ R (x ia) q1 := by
 obtain ⟨q1, _, h3, h4, _, h5⟩ := h
 exact ⟨q1, (h3 h2).1, h4, (h5 h1).1⟩
end
theorem infoThN : (Tryz.prog.info? 78).map (fun i => (i.zero, i.size, i.bytes)) = some (some (.slice none 0 0), 1, 24) := by kernel_rfl
def InnI (q : World) (B : Nat) (l : List In) (u : Value) : Prop := ∃ A' c', u = Value.slice A' l.length c' ∧ q.ownsRow B 122 6 u l.length (rowsOf inF l)
theorem innI_own {q : World} {B B' : Nat} {l : List In} {u : Value} (h : q.ownsRow B 122 6 u l.length (rowsOf inF l)) (hB : B' ≤ B) : InnI q B' l u := by
 obtain ⟨A, c, e, _⟩ := owns_form h
 exact ⟨A, c, e, owns_mono h hB⟩
theorem InnI.kept {S : Nat → Prop} {q q' : World} {B : Nat} {l : List In} {u : Value} (h : InnI q B l u) (k : Kept S q q') (hS : ∀ r cur, Lies q r 122 cur → ¬ S r) : InnI q' B l u := by
 obtain ⟨A, c, e, h⟩ := h
 exact ⟨A, c, e, owns_kept h k (fun r cur _ hl => hS r cur hl)⟩
theorem own_same {w : World} {B n sz : Nat} {e T : TypeId} {v : Value} {xs : List Value} {k : Nat} {cur : Array Value} (h : w.ownsRow B e sz v n xs) (hl : Lies w k T cur) (hv : v.ownBlock = some k) : T = e := by
 obtain ⟨_, cur', h2⟩ := own_lies h hv
 exact (hl.same h2).1
structure CoS (w : World) (cs : Array Value) (vr : Value) (p : Pg) (vs : List Value) (n3 : Nat) (q : World) : Prop where
 bel : Below w.heap.size w q
 box : Lies q w.heap.size 25 cs
 res : Lies q (w.heap.size + 1) 25 #[.slice none 0 0, .slice none 0 0]
 rr : q.ownsRow w.heap.size 84 3 vr p.rs.length (rowsOf riF p.rs)
 inn : ∀ (j : Nat) (u : Value), vs[j]? = some u → ∃ l, p.ts[j]? = some l ∧ InnI q w.heap.size l u
 n3 : w.heap.size + 1 < n3 ∧ n3 < q.heap.size
theorem CoS.kept {S : Nat → Prop} {w q q' : World} {cs : Array Value} {vr : Value} {p : Pg} {vs : List Value} {n3 : Nat} (h : CoS w cs vr p vs n3 q) (k : Kept S q q') (hl : ∀ r, r < w.heap.size → ¬ S r) (h3 : ∀ r e cur, Lies q r e cur → e ≠ 78 → r ≠ n3 → ¬ S r) (hn : ∀ r e cur, Lies q r e cur → (e = 84 ∨ e = 122) → r ≠ n3) : CoS w cs vr p vs n3 q' := by
 have := h.n3.1
 refine ⟨h.bel.trans (k.below h.bel.size hl), h.box.kept k (h3 _ _ _ h.box (by decide) (by omega)), h.res.kept k (h3 _ _ _ h.res (by decide) (by omega)), owns_kept h.rr k (fun r cur _ hl2 => h3 r _ cur hl2 (by decide) (hn r _ cur hl2 (.inl rfl))), fun j u hu => ?_, h.n3.1, Nat.lt_of_lt_of_le h.n3.2 k.size⟩
 obtain ⟨l, h1, h2⟩ := h.inn j u hu
 exact ⟨l, h1, h2.kept k (fun r cur hl2 => h3 r _ cur hl2 (by decide) (hn r _ cur hl2 (.inr rfl)))⟩
def ManyP (w : World) (p : Pg) (q : Ending) (w' : World) : Prop := ∃ A c Q d, q = .returned (.agg #[.slice A p.rs.length c, .slice Q p.ts.length d]) ∧ OwnPg w' w.heap.size A c Q d p ∧ Below w.heap.size w w'
set_option maxHeartbeats 8000000 in
set_option maxRecDepth 100000 in
theorem fbCopy (p : Pg) (A : Option Addr) (c : Nat) (B : Option Addr) (d : Nat) (w : World) (h : PgAt w A c B d p) (hr : p.rs.length ≤ 1000) (ht : p.ts.length ≤ 1000) (hl : ∀ l ∈ p.ts, l.length ≤ 1000000) :
  Calls Tryz.prog 37 #[.agg #[.slice A p.rs.length c, .slice B p.ts.length d]] w (ManyP w p) := by
 obtain ⟨hc1, hc2⟩ := seq_form h.1
 obtain ⟨hd1, hd2⟩ := h.2.form
 have hb0 : Below w.heap.size w ((w.alloc (.cells #[.slice A p.rs.length c, .slice B p.ts.length d] 25)).alloc (.cells #[.slice none 0 0, .slice none 0 0] 25)) := ((Below.refl _ _).alloc (Nat.le_refl _) _).alloc (by simp) _
 have l0 := (Lies.made w 25 #[.slice A p.rs.length c, .slice B p.ts.length d]).alloc (.cells #[.slice none 0 0, .slice none 0 0] 25)
 have l1 := Lies.made (w.alloc (.cells #[.slice A p.rs.length c, .slice B p.ts.length d] 25)) 25 #[.slice none 0 0, .slice none 0 0]
 rw [World.size_alloc] at l1
 have HH := Lib.hid h
 have HLEN := Lib.hid hl
 have HB0 := Lib.hid hb0
 have HL0 := Lib.hid l0
 have HL1 := Lib.hid l1
 clear h hl hb0 l0 l1
 go_enter Tryz.func37, Tryz.ntmps37
 go_upto_region 1 with (fail)
 generalize (w.alloc (.cells #[.slice A p.rs.length c, .slice B p.ts.length d] 25)).alloc (.cells #[.slice none 0 0, .slice none 0 0] 25) = w1 at *
 have c0 := (HL0.out.cell 0).trans (show _ = some (Value.slice A p.rs.length c) from rfl)
 have hlt0 := HL0.out.lt
 have HCL := Lib.hid (cloneRi p.rs A c w1 (HH.out.1.later HB0.out) (by omega))
 go_wp2_with fail
 refine HCL.out.mono ?_
 rintro q w2 ⟨v2, rfl, ho2, hb2⟩
 obtain ⟨Ar, cr, rfl, _⟩ := owns_form ho2
 have HB2 := Lib.hid (HB0.out.trans (hb2.mono HB0.out.size))
 have HL0a := Lib.hid (HL0.out.below hb2 HL0.out.lt)
 have HL1a := Lib.hid (HL1.out.below hb2 HL1.out.lt)
 have HO2 := Lib.hid (owns_mono ho2 HB0.out.size)
 have hw12 := hb2.size
 have hl1t := HL1.out.lt
 clear ho2 hb2 c0 hlt0 HB0 HL0 HL1 HCL
 have HN3 := Lib.hid (Lies.made w2 25 #[.slice Ar p.rs.length cr, .slice none 0 0])
 have HI : Hid (CoS w #[.slice A p.rs.length c, .slice B p.ts.length d] (.slice Ar p.rs.length cr) p [] w2.heap.size (w2.alloc (.cells #[.slice Ar p.rs.length cr, .slice none 0 0] 25))) :=
  ⟨HB2.out.alloc HB2.out.size _, HL0a.out.alloc _, HL1a.out.alloc _, owned_below HO2.out ((Below.refl _ _).alloc (Nat.le_refl _) _), (fun j u hu => by cases hu), by rw [World.size_alloc]; omega⟩
 clear HB2 HL0a HL1a HO2 hw12 hl1t
 go_upto_region 2 with (fail)
 generalize w2.alloc (.cells #[.slice Ar p.rs.length cr, .slice none 0 0] 25) = w3 at *
 generalize w2.heap.size = n3 at *
 have c1 := (HI.out.box.cell 1).trans (show _ = some (Value.slice B p.ts.length d) from rfl)
 have hlc := HI.out.box.lt
 go_wp2_with fail
 clear c1 hlc
 go_loopw [13] (fun u wr => ∃ (i : Nat) (vt : Value) (vs : List Value), i ≤ p.ts.length ∧ u = .int .i64 i ∧ Hid (CoS w #[.slice A p.rs.length c, .slice B p.ts.length d] (.slice Ar p.rs.length cr) p vs n3 wr) ∧ Hid (Lies wr n3 25 #[.slice Ar p.rs.length cr, vt]) ∧ Hid (wr.ownsRow w.heap.size 78 1 vt i vs)) (fun u _ => p.ts.length - (intOf u).toNat)
 case atStart => exact ⟨0, .slice none 0 0, [], by omega, rfl, HI, HN3, World.ownsRow_nil _ _ _ _⟩
 case round =>
  clear HN3 HI
  obtain ⟨i, vt, vs, hi, rfl, hS, hn, hv⟩ := hrel
  by_cases hlt : i < p.ts.length
  ·have hii : (i : Int) < (p.ts.length : Int) := by omega
   obtain ⟨l, hl⟩ : ∃ l, p.ts[i]? = some l := ⟨_, List.getElem?_eq_getElem hlt⟩
   obtain ⟨b, off, B2, d2, rfl, g0, hil⟩ := HH.out.2.at_ hl
   have hbl := World.block_lt_of_cell? w _ g0
   have hll := HLEN.out l (List.mem_of_getElem? hl)
   have G0 := (hS.out.bel.cell hbl).trans g0
   have HIL := Lib.hid hil
   have HLL := Lib.hid hl
   have HVL : Hid (vs.length = i) := by have := hv.out.1; show _ = _; omega
   have hS0 := Lib.hid hS.out.bel
   have hSC := Lib.hid hS.out
   have hbw := Nat.lt_of_lt_of_le hbl hS.out.bel.size
   clear g0 hil hl
   go_wp2_with fail
   clear G0
   refine wp_region_relyx (PuS wr vt n3 1 5 7 [0, 1, 2, 3, 4, 5] [3, 4] (fun v q => ∃ u, InnI q w.heap.size l u ∧ q.ownsRow w.heap.size 78 1 v (i + 1) (vs ++ [u]))) (bfV [.eq (.pointer (some ⟨n3, 1, none⟩)), .eq vt, .eq (.slice B2 l.length d2), .own wr.heap.size 122 6 l.length (rowsOf inF l), .of (fun v q => ∃ g u, v = Value.slice (some ⟨g, 0, none⟩) 1 1 ∧ Lies q g 78 #[u] ∧ q.ownsRow wr.heap.size 122 6 u l.length (rowsOf inF l)) (fun _ _ _ hb ⟨g, u, e, h1, h2⟩ => ⟨g, u, e, h1.below hb h1.lt, owned_below h2 hb⟩), .any, .eq (.pointer (some ⟨n3, 1, none⟩)), .any]) [some 17, some 18, some 19, some 20, some 21, some 22, some 23, none] [[], [0], [], [2], [3], [1, 4], [], [6, 5]] [[], [0], [], [2], [2, 3], [0, 1, 2, 3, 4], [0, 1, 2, 3, 4], [0, 1, 2, 3, 4, 6]] [[2, 3, 4, 5], [2, 3, 4], [0, 1, 4, 5], [0, 1], [0, 1], [], [5], [5]] [0, 1, 2, 3, 4, 5, 6, 7] 8 (by kernel_rfl) (by kernel_rfl) (by kernel_rfl) (by kernel_rfl) ?rS (fun j h1 h2 => absurd (Nat.lt_of_lt_of_le h1 (Nat.le_trans (by decide) h2)) (Nat.lt_irrefl _)) ?rT ?rE
   case rS => exact pu_start
   case rT =>
    refine RelyStepsX.cons (RelyStepX.mk [] [2, 3, 4, 5] rfl rfl rfl (fun xv Lv wS hS hL hLd hV bq hb K hK => ?_)) ?_
    ·clear hV
     simp only [putsOf, List.foldl_cons, List.foldl_nil, List.getD_cons_zero, List.getD_cons_succ, List.getD_nil, cond_true, cond_false, Act.put, List.setIfInBounds_toArray, List.set_cons_zero, List.set_cons_succ] at hb
     subst hb
     rw [if_pos (by rfl)]
     go_wp2_with fail
     exact hK.out _ _ ⟨_, rfl, pu_op (i := 0) rfl hS, rfl, AllPX.same _⟩
    refine RelyStepsX.cons (RelyStepX.mk [0] [2, 3, 4] rfl rfl rfl (fun xv Lv wS hS hL hLd hV bq hb K hK => ?_)) ?_
    ·obtain ⟨h0, _⟩ := hV
     have h0 : xv 0 = _ := h0
     simp only [putsOf, List.foldl_cons, List.foldl_nil, List.getD_cons_zero, List.getD_cons_succ, List.getD_nil, cond_true, cond_false, Act.put, List.setIfInBounds_toArray, List.set_cons_zero, List.set_cons_succ, h0] at hb
     clear h0
     subst hb
     rw [if_pos (by rfl)]
     (have k1 := hn.out.kept (pu_at hS hL (by decide)) (own_ne hv.out hn.out (by decide)); have c1 := (k1.cell 1).trans (show _ = some vt from rfl); have c2 := k1.lt; clear k1)
     go_wp2_with fail
     exact hK.out _ _ ⟨_, rfl, pu_op (i := 1) rfl hS, rfl, AllPX.same _⟩
    refine RelyStepsX.cons (RelyStepX.mk [] [0, 1, 4, 5] rfl rfl rfl (fun xv Lv wS hS hL hLd hV bq hb K hK => ?_)) ?_
    ·clear hV
     simp only [putsOf, List.foldl_cons, List.foldl_nil, List.getD_cons_zero, List.getD_cons_succ, List.getD_nil, cond_true, cond_false, Act.put, List.setIfInBounds_toArray, List.set_cons_zero, List.set_cons_succ] at hb
     subst hb
     rw [if_pos (by rfl)]
     go_wp2_with fail
     exact hK.out _ _ ⟨_, rfl, pu_op (i := 2) rfl hS, rfl, AllPX.same _⟩
    refine RelyStepsX.cons (RelyStepX.mk [2] [0, 1] rfl rfl rfl (fun xv Lv wS hS hL hLd hV bq hb K hK => ?_)) ?_
    ·obtain ⟨h2, _⟩ := hV
     have h2 : xv 2 = _ := h2
     simp only [putsOf, List.foldl_cons, List.foldl_nil, List.getD_cons_zero, List.getD_cons_succ, List.getD_nil, cond_true, cond_false, Act.put, List.setIfInBounds_toArray, List.set_cons_zero, List.set_cons_succ, h2] at hb
     clear h2
     subst hb
     rw [if_pos (by rfl)]
     have hb9 := pu_bel hS (pu_not hS (i := 3) rfl hL) (by decide)
     have HSS := Lib.hid hS
     have HCI := Lib.hid (cloneIn l B2 d2 wS (HIL.out.later (hS0.out.trans (hb9.mono hS0.out.size))) hll)
     clear hS
     go_wp2_with fail
     refine HCI.out.mono ?_
     rintro q w' ⟨u, rfl, ho, hb⟩
     exact hK.out _ _ ⟨_, rfl, pu_more rfl HSS.out hb, owns_mono ho hb9.size, AllPX.of _ (fun j _ _ h => bfV_below hb h)⟩
    refine RelyStepsX.cons (RelyStepX.mk [3] [0, 1] rfl rfl rfl (fun xv Lv wS hS hL hLd hV bq hb K hK => ?_)) ?_
    ·obtain ⟨h3, _⟩ := hV
     simp only [putsOf, List.foldl_cons, List.foldl_nil, List.getD_cons_zero, List.getD_cons_succ, List.getD_nil, cond_true, cond_false, Act.put, List.setIfInBounds_toArray, List.set_cons_zero, List.set_cons_succ] at hb
     generalize hy3 : xv 3 = y3 at *
     subst hb
     rw [if_pos (by rfl)]
     have HSS := Lib.hid hS
     have ho3 : wS.ownsRow wr.heap.size 122 6 y3 l.length (rowsOf inF l) := h3
     obtain ⟨A8, c8, rfl, _⟩ := owns_form ho3
     have H8 := Lib.hid ho3
     clear hS h3 ho3
     go_wp2_with fail
     have hb : Below wS.heap.size wS (wS.alloc (.cells #[.slice A8 l.length c8] 78)) := (Below.refl _ _).alloc (Nat.le_refl _) _
     exact hK.out _ _ ⟨_, rfl, pu_more rfl HSS.out hb, ⟨wS.heap.size, _, rfl, Lies.made _ _ _, owned_below H8.out hb⟩, AllPX.of _ (fun j _ _ h => bfV_below hb h)⟩
    refine RelyStepsX.cons (RelyStepX.mk [1, 4] [] rfl rfl rfl (fun xv Lv wS hS hL hLd hV bq hb K hK => ?_)) ?_
    ·obtain ⟨h1, h4, _⟩ := hV
     have h1 : xv 1 = _ := h1
     simp only [putsOf, List.foldl_cons, List.foldl_nil, List.getD_cons_zero, List.getD_cons_succ, List.getD_nil, cond_true, cond_false, Act.put, List.setIfInBounds_toArray, List.set_cons_zero, List.set_cons_succ, h1] at hb
     clear h1
     generalize hy4 : xv 4 = y4 at *
     subst hb
     rw [if_pos (by rfl)]
     have hb9 := pu_bel hS hL (by decide)
     have HSS := Lib.hid hS
     obtain ⟨g, u, rfl, hl9, hu9⟩ := h4
     clear hS
     refine step_list (ops := #[]) (by rfl) (append_argS wS 1 rfl (.tmp 18) (.tmp 21) 23 rfl w.heap.size 78 _ 24 Tryz.underlying23 infoThN rfl (by decide) vt i vs rfl (owned_below hv.out hb9) (some ⟨g, 0, none⟩) 1 1 rfl [u] ⟨rfl, _, _, rfl, Nat.le_refl _, by unfold maxLen; omega, (fun h => by cases h), fun k x hx => ⟨g, 0, rfl, by rw [Nat.zero_add, hl9.cell]; rw [← hx]; simp⟩⟩ (by intro q hq; simp at hq; subst hq; obtain ⟨A8, c8, rfl, _⟩ := owns_form hu9; rfl) (by unfold maxLen; omega) (by omega) (Nat.le_trans hS0.out.size hb9.size) ?_)
     intro v' w' ho hb hgr
     have hk := Kept.of_grown hgr
     exact hK.out _ _ ⟨_, rfl, pu_app rfl HSS.out hk ⟨u, innI_own (owns_kept hu9 hk (fun r cur _ hl3 hs => own_ne (owned_below hv.out hb9) hl3 (by decide) hs)) hS0.out.size, ho⟩ (fun j hj => hLd j (by revert hj; revert j; decide +kernel)), trivial, AllPX.of _ (fun j hj _ h => bfV_lit (by rfl) hj h)⟩
    refine RelyStepsX.cons (RelyStepX.mk [] [5] rfl rfl rfl (fun xv Lv wS hS hL hLd hV bq hb K hK => ?_)) ?_
    ·clear hV
     simp only [putsOf, List.foldl_cons, List.foldl_nil, List.getD_cons_zero, List.getD_cons_succ, List.getD_nil, cond_true, cond_false, Act.put, List.setIfInBounds_toArray, List.set_cons_zero, List.set_cons_succ] at hb
     subst hb
     rw [if_pos (by rfl)]
     go_wp2_with fail
     exact hK.out _ _ ⟨_, rfl, pu_op (i := 6) rfl hS, rfl, AllPX.same _⟩
    refine RelyStepsX.cons (RelyStepX.mk [6, 5] [5] rfl rfl rfl (fun xv Lv wS hS hL hLd hV bq hb K hK => ?_)) ?_
    ·obtain ⟨h6, h5, _⟩ := hV
     have h6 : xv 6 = _ := h6
     simp only [putsOf, List.foldl_cons, List.foldl_nil, List.getD_cons_zero, List.getD_cons_succ, List.getD_nil, cond_true, cond_false, Act.put, List.setIfInBounds_toArray, List.set_cons_zero, List.set_cons_succ, h6] at hb
     clear h6
     generalize hy5 : xv 5 = y5 at *
     subst hb
     rw [if_pos (by rfl)]
     obtain ⟨k1, u, hu, ho⟩ := pu_st hS hL (hLd 5 (by decide +kernel))
     have hl3 := hn.out.kept k1 (own_ne hv.out hn.out (by decide))
     have q1 := (hl3.cell 1).trans (show _ = some vt from rfl)
     have f1 := hl3.free 1
     have qt := hl3.lt
     rw [hy5] at ho
     obtain ⟨A8, c8, rfl, _⟩ := owns_form ho
     have HSS := Lib.hid hS
     clear hS ho hu k1 hl3
     go_wp2_with fail
     refine hK.out _ _ ⟨undef, rfl, ?_, trivial, AllPX.of _ (fun j hj _ h => bfV_lit (by rfl) hj h)⟩
     have := pu_store (v := undef) rfl HSS.out (fun j hj => hLd j (by revert hj; revert j; decide +kernel))
     rwa [hy5] at this
    exact RelyStepsX.nil
   case rE =>
    intro xv Lv wE hS hLall hV
    have h5 := hV 5 (by decide) (by decide)
    have h7 := hV 7 (by decide) (by decide)
    clear hV
    obtain ⟨q1, e1, k1, u, hu, ho⟩ := pu_end hS (hLall 5 (by decide +kernel)) (hLall 7 (by decide +kernel))
    simp only [putsOf, List.foldl_cons, List.foldl_nil, List.getD_cons_zero, List.getD_cons_succ, List.getD_nil, cond_true, cond_false, Act.put, List.setIfInBounds_toArray, List.set_cons_zero, List.set_cons_succ]
    generalize xv 0 = y0 at *
    generalize xv 1 = y1 at *
    generalize xv 2 = y2 at *
    generalize xv 3 = y3 at *
    generalize xv 4 = y4 at *
    generalize xv 5 = y5 at *
    generalize xv 6 = y6 at *
    generalize xv 7 = y7 at *
    have hl1 := hn.out.kept k1 (own_ne hv.out hn.out (by decide))
    have hB1 : ∀ k, vt.ownBlock = some k → w.heap.size ≤ k := fun k e => (own_lies (w := wr) hv.out e).1
    have hs1 := hS0.out.size
    have hc1 : CoS w #[.slice A p.rs.length c, .slice (some ⟨b, off, none⟩) p.ts.length d] (.slice Ar p.rs.length cr) p vs n3 q1 :=
     hSC.out.kept k1 (fun r hr e => by have := hB1 r e; omega) (fun r e cur h1 h2 _ e3 => h2 (own_same hv.out h1 e3)) (fun r e cur h1 h2 e3 => by subst e3; rcases h2 with rfl | rfl <;> exact absurd (h1.same hn.out).1 (by decide))
    have hl2 := hl1.put 1 y5
    have k2 := Kept.put q1 n3 1 y5
    have hc2 := hc1.kept k2 (fun r hr (e : r = n3) => by have := hc1.n3.1; omega) (fun r e cur _ _ h3 h4 => h3 h4) (fun r e cur h1 h2 e3 => by subst e3; rcases h2 with rfl | rfl <;> exact absurd (h1.same hl1).1 (by decide))
    have ho2 := owns_put ho hl1 (by decide) 1 y5
    have hu2 := hu.kept k2 (fun r cur h1 (e3 : r = n3) => by subst e3; exact absurd (h1.same hl1).1 (by decide))
    rw [← e1] at hl2 hc2 ho2 hu2
    have HN2 : Hid (Lies wE n3 25 #[.slice Ar p.rs.length cr, y5]) := hl2
    have HV2 := Lib.hid ho2
    have HS2 : Hid (CoS w #[.slice A p.rs.length c, .slice (some ⟨b, off, none⟩) p.ts.length d] (.slice Ar p.rs.length cr) p (vs ++ [u]) n3 wE) := by
     refine ⟨hc2.bel, hc2.box, hc2.res, hc2.rr, fun j y hy => ?_, hc2.n3⟩
     by_cases hj : j < vs.length
     ·rw [List.getElem?_append_left hj] at hy; exact hc2.inn j y hy
     ·rw [List.getElem?_append_right (by omega)] at hy
      have := (List.getElem?_eq_some_iff.1 hy).1
      simp only [List.length_singleton] at this
      rw [show j - vs.length = 0 by omega] at hy
      simp only [List.getElem?_cons_zero, Option.some.injEq] at hy
      subst hy
      have hv0 := HVL.out
      exact ⟨l, by rw [show j = i by omega]; exact HLL.out, hu2⟩
    clear hS hl1 hB1 hs1 hc1 hl2 k2 hc2 ho2 hu2 k1 ho hu e1 hn hv hLall
    go_wp2
    go_roundw
    case rel => exact ⟨i + 1, _, vs ++ [u], by omega, by go_num, HS2, HN2, HV2⟩
    case measure => simp [intOf]; omega
  ·obtain rfl : i = p.ts.length := by omega
   obtain ⟨At, ct, rfl, _⟩ := owns_form hv.out
   have n0 := (hn.out.cell 0).trans (show _ = some (Value.slice Ar p.rs.length cr) from rfl)
   have n1 := (hn.out.cell 1).trans (show _ = some (Value.slice At p.ts.length ct) from rfl)
   have nlt := hn.out.lt
   have rf0 := hS.out.res.free 0
   have rf1 := hS.out.res.free 1
   have rlt := hS.out.res.lt
   have r0 := (hS.out.res.cell 0).trans (show _ = some (Value.slice none 0 0) from rfl)
   have r1 := (hS.out.res.cell 1).trans (show _ = some (Value.slice none 0 0) from rfl)
   have HK := Lib.hid ((Kept.put wr (w.heap.size + 1) 0 (.slice Ar p.rs.length cr)).trans (Kept.put _ (w.heap.size + 1) 1 (.slice At p.ts.length ct)) (fun _ _ h => h))
   have HR := Lib.hid ((hS.out.res.put 0 (.slice Ar p.rs.length cr)).put 1 (.slice At p.ts.length ct))
   have q0 := (HR.out.cell 0).trans (show _ = some (Value.slice Ar p.rs.length cr) from rfl)
   have q1 := (HR.out.cell 1).trans (show _ = some (Value.slice At p.ts.length ct) from rfl)
   have HQ0 := Lib.hid q0
   have HQ1 := Lib.hid q1
   clear q0 q1
   go_wp2
   refine bodyPost_ret (v := .agg #[.slice Ar p.rs.length cr, .slice At p.ts.length ct]) (by simp [results, Tryz.results37, go_sem, HQ0.out, HQ1.out]) rfl ?_
   have ne : ∀ r e cur, Lies wr r e cur → e ≠ 25 → ¬ oneRow (w.heap.size + 1) r := fun r e cur h1 h2 (h3 : r = w.heap.size + 1) => by subst h3; exact h2 (h1.same hS.out.res).1
   refine ⟨_, _, _, _, rfl, ⟨owns_kept hS.out.rr HK.out (fun r cur _ hl3 => ne r _ cur hl3 (by decide)), vs, owns_kept hv.out HK.out (fun r cur _ hl3 => ne r _ cur hl3 (by decide)), fun i l hl => ?_⟩, hS.out.bel.trans (HK.out.below hS.out.bel.size (fun k hk (e : k = w.heap.size + 1) => by omega))⟩
   have hvl : vs.length = p.ts.length := by have := hv.out.1; omega
   have hil := (List.getElem?_eq_some_iff.1 hl).1
   obtain ⟨l', h1, h2⟩ := hS.out.inn i _ (List.getElem?_eq_getElem (by rw [hvl]; exact hil))
   rw [hl] at h1
   cases h1
   obtain ⟨A', c', e', h3⟩ := h2.kept HK.out (fun r cur hl3 => ne r _ cur hl3 (by decide))
   exact ⟨A', c', by rw [List.getElem?_eq_getElem (by rw [hvl]; exact hil), e'], by rw [← e']; exact h3⟩
def cellsH (l : List Nat) : List Value := l.map fun (n : Nat) => Value.int .u64 (n : Int)
theorem Tryz.infoH : (Tryz.prog.info? 37).map (fun i => (i.zero, i.size, i.bytes)) = some (some (.int .u64 0), 1, 8) := by kernel_rfl
theorem all_kept {w : World} {g : Nat} {T : TypeId} {p0 post : List Value} {R : Rg} (o b : Nat) (h : RgAt w g T p0 post R) (ho : p0.length = o) :
  Calls Tryz.prog 71 #[.pointer (some ⟨g, o + 12, none⟩)] w fun e w' => ∃ A c, e = .returned (.slice A R.L.length c) ∧ g < w'.heap.size ∧ w'.cell? ⟨g, o + 2, none⟩ = some (.int .u64 (R.tail : Int)) ∧ w'.cell? ⟨g, o + 11, none⟩ = some (.bool R.cl) ∧
   (∀ k, b < w.heap.size → w'.cell? ⟨b, k, none⟩ = w.cell? ⟨b, k, none⟩) ∧ (∀ k, b < w.heap.size → w'.frozen? ⟨b, k, none⟩ = w.frozen? ⟨b, k, none⟩) ∧
   Hid (RgAt w' g T p0 post R) ∧ Hid (w'.ownsRow w.heap.size 90 3 (.slice A R.L.length c) R.L.length (rowsOf slF R.L)) ∧ Hid (Below w.heap.size w w') := by
 obtain ⟨s1, s2⟩ := h.slots
 subst ho
 refine (slotsAll s1 s2).mono fun e w' ⟨v, he, hown, hb⟩ => ?_
 obtain ⟨A, c, rfl, _⟩ := (SeqS.of_owns hown).form
 have hr := h.later hb
 obtain ⟨c0, c1, c2, c3⟩ := hr.cells
 refine ⟨A, c, he, hr.lt, c2, c3, fun k hk => hb.cell (p := ⟨b, k, none⟩) hk, fun k hk => ?_, hr, hown, hb⟩
 have := hb.block b hk
 unfold World.frozen?
 rw [this]
def HalfSt (w wx : World) (g q : Nat) (T : TypeId) (p0 post : List Value) (R : Rg) (A : Option Addr) (c : Nat) : Prop :=
 w.heap.size < q ∧ Lies wx q 76 #[.int .u64 (R.tail : Int), .slice none 0 0, .bool R.cl, .slice A R.L.length c] ∧ Lies wx w.heap.size 76 #[.int .u64 0, .slice none 0 0, .bool false, .slice none 0 0] ∧
  RgAt wx g T p0 post R ∧ wx.ownsRow w.heap.size 90 3 (.slice A R.L.length c) R.L.length (rowsOf slF R.L) ∧ Below w.heap.size w wx
theorem half_last {w w0 w3 : World} {g : Nat} {T : TypeId} {p0 post : List Value} {R : Rg} {A : Option Addr} {c : Nat} (h0 : Below w.heap.size w w0) (hl : w.heap.size < w0.heap.size) (l0 : Lies w0 w.heap.size 76 #[.int .u64 0, .slice none 0 0, .bool false, .slice none 0 0])
  (hb : Below w0.drew.heap.size w0.drew w3) (hr : RgAt w3 g T p0 post R) (ho : w3.ownsRow w0.drew.heap.size 90 3 (.slice A R.L.length c) R.L.length (rowsOf slF R.L)) :
  HalfSt w (w3.alloc (.cells #[.int .u64 (R.tail : Int), .slice none 0 0, .bool R.cl, .slice A R.L.length c] 76)) g w3.heap.size T p0 post R A c := by
 have hs : w0.heap.size ≤ w3.heap.size := hb.size
 have l3 := (Lies.drew l0).below hb l0.lt
 have hbA : Below w3.heap.size w3 (w3.alloc (.cells #[.int .u64 (R.tail : Int), .slice none 0 0, .bool R.cl, .slice A R.L.length c] 76)) := (Below.refl _ _).alloc (Nat.le_refl _) _
 have h3 : Below w.heap.size w w3 := (below_drewN h0 1).trans (hb.mono h0.size)
 exact ⟨by omega, Lies.made _ _ _, l3.alloc _, hr.later hbA, owns_mono (owned_below ho hbA) h0.size, h3.alloc h3.size _⟩
theorem half_first {w w0 w3 : World} {g : Nat} {T : TypeId} {p0 post : List Value} {R : Rg} {A : Option Addr} {c : Nat} {z : Array Value} (h0 : Below w.heap.size w w0) (hl : w0.heap.size = w.heap.size + 1) (hg : g < w.heap.size) (l0 : Lies w0 w.heap.size 76 #[.int .u64 0, .slice none 0 0, .bool false, .slice none 0 0])
  (hz : z = #[.int .u64 0, .slice none 0 0, .bool false, .slice none 0 0]) (hb : Below (w0.alloc (.cells z 76)).drew.heap.size (w0.alloc (.cells z 76)).drew w3) (hr : RgAt w3 g T p0 post R)
  (ho : w3.ownsRow (w0.alloc (.cells z 76)).drew.heap.size 90 3 (.slice A R.L.length c) R.L.length (rowsOf slF R.L)) :
  HalfSt w ((((w3.setCell ⟨w.heap.size + 1, 0, none⟩ (.int .u64 (R.tail : Int))).setCell ⟨w.heap.size + 1, 1, none⟩ (.slice none 0 0)).setCell ⟨w.heap.size + 1, 2, none⟩ (.bool R.cl)).setCell ⟨w.heap.size + 1, 3, none⟩ (.slice A R.L.length c)) g (w.heap.size + 1) T p0 post R A c := by
 subst hz
 have l1 := Lies.made w0 76 #[.int .u64 0, .slice none 0 0, .bool false, .slice none 0 0]
 have l3 := (Lies.drew l1).below hb l1.lt
 have l4 := (Lies.drew (l0.alloc (.cells #[.int .u64 0, .slice none 0 0, .bool false, .slice none 0 0] 76))).below hb (l0.alloc _).lt
 rw [hl] at l3
 have hsz : (w0.alloc (.cells #[.int .u64 0, .slice none 0 0, .bool false, .slice none 0 0] 76)).drew.heap.size = w.heap.size + 1 + 1 := by
  show (w0.alloc _).heap.size = _
  rw [World.size_alloc, hl]
 have hk : Kept (oneRow (w.heap.size + 1)) w3 ((((w3.setCell ⟨w.heap.size + 1, 0, none⟩ (.int .u64 (R.tail : Int))).setCell ⟨w.heap.size + 1, 1, none⟩ (.slice none 0 0)).setCell ⟨w.heap.size + 1, 2, none⟩ (.bool R.cl)).setCell ⟨w.heap.size + 1, 3, none⟩ (.slice A R.L.length c)) :=
  (((Kept.put w3 _ 0 _).trans (Kept.put _ _ 1 _) (fun _ _ h => h)).trans (Kept.put _ _ 2 _) (fun _ _ h => h)).trans (Kept.put _ _ 3 _) (fun _ _ h => h)
 have h3 : Below w.heap.size w w3 := (below_drewN (h0.alloc h0.size _) 1).trans (hb.mono (by rw [hsz]; omega))
 refine ⟨by omega, ((l3.put 0 _).put 1 _ |>.put 2 _).put 3 _, l4.kept hk (fun e : w.heap.size = w.heap.size + 1 => by omega), hr.kept hk (fun e : g = w.heap.size + 1 => by omega), ?_, h3.trans (hk.below h3.size (fun j hj (e : j = w.heap.size + 1) => by omega))⟩
 exact owns_mono (owns_kept ho hk (fun r cur hv _ (e : r = w.heap.size + 1) => by have := (ho.lt r hv).1; omega)) (by rw [hsz]; omega)
set_option maxHeartbeats 2000000 in
set_option maxRecDepth 100000 in
theorem rgState {w : World} {g o : Nat} {T : TypeId} {p0 post : List Value} {R : Rg} (h : RgAt w g T p0 post R) (ho : p0.length = o) :
  Calls Tryz.prog 44 #[.pointer (some ⟨g, o, none⟩)] w fun e w' => ∃ A1 c1 A2 c2, e = .returned (.agg #[.int .u64 (R.tail : Int), .slice A1 R.rd c1, .bool R.cl, .slice A2 R.L.length c2]) ∧
   w'.ownsRow w.heap.size 37 1 (.slice A1 R.rd c1) R.rd (cellsH (R.h8.take R.rd)) ∧ w'.ownsRow w.heap.size 90 3 (.slice A2 R.L.length c2) R.L.length (rowsOf slF R.L) ∧ Below w.heap.size w w' := by
 have hb0 := (Below.refl w.heap.size w).alloc (Nat.le_refl _) (.cells #[.int .u64 0, .slice none 0 0, .bool false, .slice none 0 0] 76)
 have hb1 := hb0.alloc (by simp) (.cells #[.int .u64 0, .slice none 0 0, .bool false, .slice none 0 0] 76)
 have l0 := Lies.made w 76 #[.int .u64 0, .slice none 0 0, .bool false, .slice none 0 0]
 have HAL := Lib.hid (fun wx (h : RgAt wx g T p0 post R) => all_kept o (w.heap.size + 1) h ho)
 have HB0 := Lib.hid hb0
 have HB1 := Lib.hid hb1
 have L0 := Lib.hid l0
 have H0 := Lib.hid (h.later hb0)
 have H1 := Lib.hid (h.later hb1)
 have hlt := h.lt
 have hlt2 : g < w.heap.size + 1 := by omega
 subst ho
 obtain ⟨c0, c1, c2, c3⟩ := h.cells
 clear hb0 hb1 l0 h
 go_enter Tryz.func44, Tryz.ntmps44
 go_wp2
 go_cut [3] (fun s3 wx => ∃ q A c, s3 = .pointer (some ⟨q, 0, none⟩) ∧ HalfSt w wx g q T p0 post R A c)
 case first =>
  go_region_with (go_at_call 71; refine (HAL.out _ ?_).mono ?_; (first | exact H0.out | exact H1.out); rintro e w3 ⟨A, c, rfl, y1, y2, y3, y4, y5, HR3, HO3, HB3⟩)
  all_goals
   go_wp2_with fail
   go_meet
   first
    | exact ⟨_, A, c, rfl, half_last HB0.out (by simp) L0.out HB3.out HR3.out HO3.out⟩
    | exact ⟨_, A, c, rfl, half_first HB0.out (by simp) hlt L0.out rfl HB3.out HR3.out HO3.out⟩
 case rest =>
  obtain ⟨q, A, c, rfl, hq, l1, l0, hr, ho, hb⟩ := hcut
  obtain ⟨i0, hi0, hz0, hz1, hz2⟩ := info_parts Tryz.infoH
  have hr2 := hr.1.2.1.2.2.2.1
  have h8 := hr.1.1
  have hql := l1.lt
  obtain ⟨c0, c1, c2, c3⟩ := hr.cells
  have L1 := Lib.hid l1
  have L0 := Lib.hid l0
  have HR := Lib.hid hr
  have HO := Lib.hid ho
  have HB := Lib.hid hb
  have H8 := Lib.hid h8
  clear l1 l0 hr ho hb h8 H0 H1 HB0 HB1 HAL
  go_wp2
  go_loopw [28] (fun u wr => ∃ (k : Nat) (Ah : Option Addr) (ch : Nat), k ≤ R.rd ∧ u = .int .i64 k ∧ Lies wr q 76 #[.int .u64 (R.tail : Int), .slice Ah k ch, .bool R.cl, .slice A R.L.length c] ∧ Lies wr w.heap.size 76 #[.int .u64 0, .slice none 0 0, .bool false, .slice none 0 0] ∧
    wr.ownsRow w.heap.size 37 1 (.slice Ah k ch) k (cellsH (R.h8.take k)) ∧ RgAt wr g T p0 post R ∧ wr.ownsRow w.heap.size 90 3 (.slice A R.L.length c) R.L.length (rowsOf slF R.L) ∧ Below w.heap.size w wr) (fun u _ => R.rd - (intOf u).toNat)
  case atStart => exact ⟨0, none, 0, by omega, rfl, L1.out, L0.out, World.ownsRow_nil _ _ _ _, HR.out, HO.out, HB.out⟩
  case round =>
   clear L1 L0 HR HO HB c0 c1 c2 c3 hql
   obtain ⟨k, Ah, ch, hk, rfl, l1, l0, hh, hr, ho, hb⟩ := hrel
   by_cases hlt3 : k < R.rd
   ·have hki : (k : Int) < (R.rd : Int) := by omega
    have hk8 : (k : Int) < 8 := by omega
    obtain ⟨x, hx⟩ : ∃ x, R.h8[k]? = some x := ⟨_, List.getElem?_eq_getElem (by have := H8.out; omega)⟩
    have dk := hr.head hx
    have d1 := (l1.cell 1).trans (show _ = some (Value.slice Ah k ch) from rfl)
    have f1 := l1.free 1
    have hgl := hr.lt
    have hql := l1.lt
    have hws := hb.size
    have hnx : cellsH (R.h8.take k) ++ [.int .u64 (x : Int)] = cellsH (R.h8.take (k + 1)) := by unfold cellsH; rw [List.take_add_one, hx, List.map_append]; rfl
    have HNX := Lib.hid hnx
    have HH := Lib.hid hh
    have HO := Lib.hid ho
    have HR := Lib.hid hr
    have L1 := Lib.hid l1
    have L0 := Lib.hid l0
    have HB := Lib.hid hb
    clear hx hnx hh ho hr l1 l0 hb
    go_wp2
    go_region_law (refine step_append_lies _ rfl (.tmp 32) (.tmp 40) 66 rfl w.heap.size 37 i0 (.int .u64 0) 1 8 Tryz.underlying66 hi0 hz0 hz1 hz2 rfl (by omega) _ k _ rfl ((show World.ownsRow wr.drew _ _ _ _ _ _ from HH.out).alloc _) ⟨wr.heap.size, 0, none⟩ 1 1 [.int .u64 (x : Int)] rfl rfl (fun j u hj => by
      match j, hj with
      | 0, hj => simp at hj; subst hj; simp [Addr.add, World.cell?_alloc_at]) (fun u hu => by simp at hu; subst hu; rfl) (by omega) (by unfold maxLen; omega) (by omega) (by simp; omega) (wr.heap.size + 1) (by simp) ?_; intro gh caph w6 ho6 hg6 hgh hg6l; have l6 := ((Lies.drew L1.out).alloc (.cells #[.int .u64 (x : Int)] 37)).kept (Kept.of_grown hg6) (own_ne HH.out L1.out (by decide)); have e1 := (l6.cell 1).trans (show _ = some (Value.slice Ah k ch) from rfl); have e2 := l6.free 1)
    all_goals
     have hk6 : Kept (fun j => (Value.slice Ah k ch).ownBlock = some j) wr w6 := (Kept.drew _ wr).trans (kept_grown hg6) (fun _ _ h => h)
     have hge : ∀ j, (Value.slice Ah k ch).ownBlock = some j → w.heap.size ≤ j := fun j hj => (HH.out.lt j hj).1
     have hqw : w.heap.size < q := hq
     have hk7 : Kept (fun j => (Value.slice Ah k ch).ownBlock = some j ∨ j = q) wr (w6.setCell ⟨q, 1, none⟩ (.slice (some ⟨gh, 0, none⟩) (k + 1) caph)) :=
      (hk6.mono (fun _ _ h => Or.inl h)).trans (Kept.put w6 q 1 _) (fun _ _ h => Or.inr h)
     have n1 : Lies (w6.setCell ⟨q, 1, none⟩ (.slice (some ⟨gh, 0, none⟩) (k + 1) caph)) q 76 #[.int .u64 (R.tail : Int), .slice (some ⟨gh, 0, none⟩) (k + 1) caph, .bool R.cl, .slice A R.L.length c] := l6.put 1 _
     have n0 := L0.out.kept hk7 (fun h => by
      rcases h with h | h
      ·exact own_ne HH.out L0.out (by decide) h
      ·omega)
     have nr := HR.out.kept hk7 (fun h => by
      rcases h with h | h
      ·have := hge _ h; omega
      ·omega)
     have no := owns_kept HO.out hk7 (fun r cur hr hl h => by
      rcases h with h | h
      ·exact own_ne HH.out hl (by decide) h
      ·subst h; exact absurd (hl.same L1.out).1 (by decide))
     have nh := owns_put ho6 l6 (by decide) 1 (.slice (some ⟨gh, 0, none⟩) (k + 1) caph)
     rw [HNX.out] at nh
     have nb := HB.out.trans (hk7.below HB.out.size (fun j hj h => by
      rcases h with h | h
      ·have := hge _ h; omega
      ·omega))
     have N1 := Lib.hid n1
     have N0 := Lib.hid n0
     have NR := Lib.hid nr
     have NO := Lib.hid no
     have NH := Lib.hid nh
     have NB := Lib.hid nb
     clear hk6 hk7 n1 n0 nr no nh nb l6 e1 e2 ho6 hg6 hgh hge
     go_wp2
     go_roundw
     case rel => exact ⟨k + 1, _, caph, by omega, by go_num, N1.out, N0.out, NH.out, NR.out, NO.out, NB.out⟩
     case measure => simp [intOf]; omega
   ·obtain rfl : k = R.rd := by omega
    have d0 := (l1.cell 0).trans (show _ = some (Value.int .u64 (R.tail : Int)) from rfl)
    have d1 := (l1.cell 1).trans (show _ = some (Value.slice Ah R.rd ch) from rfl)
    have d2 := (l1.cell 2).trans (show _ = some (Value.bool R.cl) from rfl)
    have d3 := (l1.cell 3).trans (show _ = some (Value.slice A R.L.length c) from rfl)
    have e0 := (l0.cell 0).trans (show _ = some (Value.int .u64 0) from rfl)
    have e1 := (l0.cell 1).trans (show _ = some (Value.slice none 0 0) from rfl)
    have e2 := (l0.cell 2).trans (show _ = some (Value.bool false) from rfl)
    have e3 := (l0.cell 3).trans (show _ = some (Value.slice none 0 0) from rfl)
    have f0 := l0.free 0
    have f1 := l0.free 1
    have f2 := l0.free 2
    have f3 := l0.free 3
    have hkb : Kept (oneRow w.heap.size) wr ((((wr.setCell ⟨w.heap.size, 0, none⟩ (.int .u64 (R.tail : Int))).setCell ⟨w.heap.size, 1, none⟩ (.slice Ah R.rd ch)).setCell ⟨w.heap.size, 2, none⟩ (.bool R.cl)).setCell ⟨w.heap.size, 3, none⟩ (.slice A R.L.length c)) :=
     (((Kept.put wr w.heap.size 0 _).trans (Kept.put _ w.heap.size 1 _) (fun _ _ h => h)).trans (Kept.put _ w.heap.size 2 _) (fun _ _ h => h)).trans (Kept.put _ w.heap.size 3 _) (fun _ _ h => h)
    have m : Lies ((((wr.setCell ⟨w.heap.size, 0, none⟩ (.int .u64 (R.tail : Int))).setCell ⟨w.heap.size, 1, none⟩ (.slice Ah R.rd ch)).setCell ⟨w.heap.size, 2, none⟩ (.bool R.cl)).setCell ⟨w.heap.size, 3, none⟩ (.slice A R.L.length c)) w.heap.size 76 #[.int .u64 (R.tail : Int), .slice Ah R.rd ch, .bool R.cl, .slice A R.L.length c] := (((l0.put 0 _).put 1 _).put 2 _).put 3 _
    have nh := owns_kept hh hkb (fun r cur hr hl (e : r = w.heap.size) => by subst e; exact absurd (hl.same l0).1 (by decide))
    have no := owns_kept ho hkb (fun r cur hr hl (e : r = w.heap.size) => by subst e; exact absurd (hl.same l0).1 (by decide))
    have nb := hb.trans (hkb.below hb.size (fun j hj (e : j = w.heap.size) => by omega))
    have q0 := (m.cell 0).trans (show _ = some (Value.int .u64 (R.tail : Int)) from rfl)
    have q1 := (m.cell 1).trans (show _ = some (Value.slice Ah R.rd ch) from rfl)
    have q2 := (m.cell 2).trans (show _ = some (Value.bool R.cl) from rfl)
    have q3 := (m.cell 3).trans (show _ = some (Value.slice A R.L.length c) from rfl)
    have NH := Lib.hid nh
    have NO := Lib.hid no
    have NB := Lib.hid nb
    clear hkb m nh no nb l1 l0 hh hr ho hb
    go_wp2
    refine bodyPost_ret (v := .agg #[.int .u64 (R.tail : Int), .slice Ah R.rd ch, .bool R.cl, .slice A R.L.length c]) (by simp [results, Tryz.results44, go_sem, q0, q1, q2, q3]) rfl ?_
    exact ⟨Ah, ch, A, c, rfl, NH.out, NO.out, NB.out⟩
section
variable {P : Program} {o : Oper} {a : Act} {w : World} {K : Act → World → Prop} {Q : Exit → Act → World → Prop}
theorem wp_load_known (ty : TypeId) (x : Operand) (ho : o.op = .load ty x) (b off : Nat) (hx : a.eval x = .pointer (some ⟨b, off, none⟩)) (v : Value) (hl : (loadVar ty ⟨b, off, none⟩).run P w = .ok v w) (hn : K (a.put o.dst v) w) : o.wp P a w K Q := by
 unfold Oper.wp execOp
 simp only [ho, hx, Instr.loadAt, Instr.sureAddr, Sem.run_bind, Sem.run_pure, Result.andThen_ok, hl]
 exact hn
theorem wp_build1_known (ty : TypeId) (x : Operand) (ho : o.op = .build ty #[(0, x)]) (u z : Value) (hx : a.eval x = u) (hl : (Instr.build ty #[(0, u)]).run P w = .ok z w) (hn : K (a.put o.dst z) w) : o.wp P a w K Q := by
 unfold Oper.wp execOp
 simp only [ho, Sem.run_bind, Sem.run_pure, Result.andThen_ok]
 simp [hx, hl]
 exact hn
theorem fill_one (n : Nat) (zs : Array Value) (cs : List Value) (hz : zs.size = n) (hc : cs.length = n) : Instr.fill (fun i => some (i * n, n)) zs [(0, .agg cs.toArray)] = some cs.toArray := by
 simp [Instr.fill, Value.cells, hc, hz]
 have h1 := fold_put cs 0 0 zs (by omega)
 simp only [Nat.zero_add, List.take_zero, List.nil_append, hc] at h1
 rw [List.drop_of_length_le (by rw [Array.length_toList]; omega), List.append_nil] at h1
 apply Array.toList_inj.1
 rw [h1]
theorem wp_lit1_known (t e : TypeId) (x : Operand) (ho : o.op = .buildSlice t 1 #[(0, x)]) (cs : List Value) (n bytes : Nat) (z : Value) (hx : a.eval x = .agg cs.toArray) (hu : P.underlying t = some (.slice e)) (hi : (P.info? e).map (fun i => (i.zero, i.size, i.bytes)) = some (some z, n, bytes)) (h0 : 0 < n) (h1 : n ≤ 10000) (hc : cs.length = n)
  (hn : K (a.put o.dst (.slice (some ⟨w.heap.size, 0, none⟩) 1 1)) (w.alloc (.cells cs.toArray e))) : o.wp P a w K Q := by
 obtain ⟨ie, hie, hz, hs, _⟩ := info_parts hi
 refine wp_buildSlice t e 1 _ ho cs.toArray ie z hu hie hz (by rw [hs]; omega) (by rw [hs]; omega) ?_ hn
 rw [hs]
 have := fill_one n ((Array.range (1 * n)).map (z.cells[· % z.cells.size]!)) cs (by simp) hc
 simpa [hx] using this
variable {ops : Array Oper} {rest : List Oper} {Q2 : Exit → Act → World → Prop}
theorem wpList_load_known (hg : o.guard = none) (ty : TypeId) (x : Operand) (ho : o.op = .load ty x) (b off : Nat) (hx : a.eval x = .pointer (some ⟨b, off, none⟩)) (v : Value) (hl : (loadVar ty ⟨b, off, none⟩).run P w = .ok v w) (hn : wpList P ops Q2 rest (a.put o.dst v) w) : wpList P ops Q2 (o :: rest) a w :=
 wpList_plain hg fun _ hK => wp_load_known ty x ho b off hx v hl (hK _ _ hn)
theorem wpList_lit1_known (hg : o.guard = none) (t e : TypeId) (x : Operand) (ho : o.op = .buildSlice t 1 #[(0, x)]) (cs : List Value) (n bytes : Nat) (z : Value) (hx : a.eval x = .agg cs.toArray) (hu : P.underlying t = some (.slice e)) (hi : (P.info? e).map (fun i => (i.zero, i.size, i.bytes)) = some (some z, n, bytes)) (h0 : 0 < n) (h1 : n ≤ 10000) (hc : cs.length = n)
  (hn : wpList P ops Q2 rest (a.put o.dst (.slice (some ⟨w.heap.size, 0, none⟩) 1 1)) (w.alloc (.cells cs.toArray e))) : wpList P ops Q2 (o :: rest) a w :=
 wpList_plain hg fun _ hK => wp_lit1_known t e x ho cs n bytes z hx hu hi h0 h1 hc (hK _ _ hn)
end
theorem seq_one {w : World} {g sz : Nat} {T : TypeId} {cs : Array Value} (h : Lies w g T cs) (hs : cs.size = sz) : SeqS w sz (.slice (some ⟨g, 0, none⟩) 1 1) 1 cs.toList := by
 refine ⟨by rw [Array.length_toList, hs, Nat.one_mul], _, _, rfl, Nat.le_refl _, by unfold maxLen; omega, (fun h => by cases h), fun k x hx => ⟨g, 0, rfl, ?_⟩⟩
 rw [Nat.zero_add, h.cell, ← hx, Array.getElem?_toList]
theorem seq_oneL {w : World} {g sz : Nat} {T : TypeId} {cs : List Value} (h : Lies w g T cs.toArray) (hs : cs.length = sz) : SeqS w sz (.slice (some ⟨g, 0, none⟩) 1 1) 1 cs := seq_one h (by rw [List.size_toArray, hs])
def ringZ : List Value := cuF 0 0 0 [0, 0, 0, 0, 0, 0, 0, 0] false ++ ([Value.int .i64 0, .int .i64 0] ++ rowsOf slF (List.replicate 64 ⟨0, 0, 0⟩))
theorem ringZ_length : ringZ.length = 206 := by kernel_rfl
set_option maxRecDepth 100000 in
theorem laneZero : ∀ w : World, (zeroValue 97).run Tryz.prog w = .ok (.agg (ringZ ++ [Value.bool false]).toArray) w := fun w => by kernel_rfl
set_option maxRecDepth 100000 in
theorem infoLane : (Tryz.prog.info? 97).map (fun i => (i.zero, i.size, i.bytes)) = some (some (.agg (ringZ ++ [Value.bool false]).toArray), 207, 1656) := by kernel_rfl
theorem laneInfoS : (Tryz.prog.info? 97).map (·.size) = some 207 := by kernel_rfl
theorem ringUnder : Tryz.prog.underlying 95 = some (.struct (Tryz.prog.fieldsOf 95)) := by kernel_rfl
theorem ringInfo : (Tryz.prog.info? 95).map (·.size) = some 206 := by kernel_rfl
set_option maxRecDepth 100000 in
theorem lane_build (w : World) (cs : List Value) (hcs : cs.length = 206) :
  (Instr.build 97 #[(0, .agg cs.toArray)]).run Tryz.prog w = .ok (.agg (cs ++ [Value.bool false]).toArray) w := by
 obtain ⟨zs, hzs⟩ : ∃ zs : Array Value, zs = (ringZ ++ [Value.bool false]).toArray := ⟨_, rfl⟩
 have hz := laneZero
 rw [← hzs] at hz
 have hzn : zs.size = 207 := by rw [hzs]; rfl
 have hzd : zs.toList.drop 206 = [Value.bool false] := by rw [hzs, List.toList_toArray, List.drop_left' ringZ_length]
 clear hzs
 have hu := Tryz.underlying97
 unfold Instr.build
 simp [go_sem, hz]
 have h1 := fold_put cs 0 0 zs (by omega)
 simp only [Nat.zero_add, List.take_zero, List.nil_append, hcs, hzd] at h1
 rw [if_neg (by omega)]
 simp only [Sem.run_pure]
 congr 2
 apply Array.toList_inj.1
 rw [h1]
set_option maxRecDepth 100000 in
theorem lane_build2 (w : World) (cs : List Value) (b : Bool) (hcs : cs.length = 206) :
  (Instr.build 97 #[(0, .agg cs.toArray), (1, .bool b)]).run Tryz.prog w = .ok (.agg (cs ++ [Value.bool b]).toArray) w := by
 obtain ⟨zs, hzs⟩ : ∃ zs : Array Value, zs = (ringZ ++ [Value.bool false]).toArray := ⟨_, rfl⟩
 have hz := laneZero
 rw [← hzs] at hz
 have hzn : zs.size = 207 := by rw [hzs]; rfl
 have hzd : zs.toList.drop 206 = [Value.bool false] := by rw [hzs, List.toList_toArray, List.drop_left' ringZ_length]
 clear hzs
 have hu := Tryz.underlying97
 unfold Instr.build
 simp [go_sem, hz]
 have h1 := fold_put cs 0 0 zs (by omega)
 simp only [Nat.zero_add, List.take_zero, List.nil_append, hcs, hzd] at h1
 generalize List.foldl (fun cs x => cs.setIfInBounds x.snd x.fst) zs cs.zipIdx = P1 at *
 have hP1 : P1.size = 207 := by rw [← Array.length_toList, h1]; simp [hcs]
 rw [if_neg (by omega), if_neg (by omega)]
 simp only [Sem.run_pure]
 congr 2
 apply Array.toList_inj.1
 rw [Array.toList_setIfInBounds, h1, List.set_append_right _ _ (by omega), hcs]
 rfl
theorem rg_cells {q : World} {g : Nat} {R : Rg} (h : RgAt q g 95 [] [] R) : ∃ cs : List Value, cs.length = 206 ∧ Lies q g 95 cs.toArray ∧ (∀ q', Lies q' g 95 cs.toArray → (loadVar 95 ⟨g, 0, none⟩).run Tryz.prog q' = .ok (.agg cs.toArray) q') ∧
  ∀ cl, ∃ x : Ln, lnOk x ∧ laOf x = ⟨R, cl⟩ ∧ lnF x = cs ++ [.bool cl] := by
 obtain ⟨h1, M, m1, m2, m3⟩ := h
 have hlen : (cuR R ++ slObj R.rd R.L M).length = 206 := by rw [List.length_append, cuR_length h1, slObj_length, m1]
 rw [List.nil_append, List.append_nil] at m3
 refine ⟨_, hlen, m3, fun q' hq => run_loadVar_mid q' g 0 _ _ _ (fun j v hv => ?_) ringUnder rfl (by rw [hlen]; exact ringInfo), fun cl => ⟨⟨R, M, cl⟩, ⟨h1, m1⟩, rfl, ?_⟩⟩
 ·rw [Nat.zero_add, hq.cell, List.getElem?_toArray, hv]
 ·unfold lnF; simp
def rgSpB (r : Ri) : Bool := decide (1 ≤ r.c ∧ r.c ≤ 64 ∧ (r.k = 1 ∧ r.r = 1 ∨ r.k = 2 ∧ 1 ≤ r.r ∧ r.r ≤ 8))
def instrE (rs : List Ri) (n : Nat) (x : In) : Nat :=
 if rightB x = false then 6 else if jumpsB x.op = true ∧ n < x.k then 5 else if onRingB x.op = false then 0 else if (rs.length : Int) ≤ x.c then 7 else if x.op = 19 ∧ (rs.getD x.c.toNat default).r ≤ (x.k : Int) then 7 else 0
theorem onRing_any (x : In) (w : World) : Calls Tryz.prog 132 #[.agg (inC x)] w fun e w' => e = .returned (.bool (onRingB x.op)) ∧ Below w.heap.size w w' := by
 unfold onRingB
 have hb : Below w.heap.size w (w.alloc (.cells (inC x) 122)) := (Below.refl _ _).alloc (Nat.le_refl _) _
 obtain ⟨b1, h1⟩ : ∃ b, (x.op == 18) = b := ⟨_, rfl⟩
 obtain ⟨b2, h2⟩ : ∃ b, (x.op == 19) = b := ⟨_, rfl⟩
 obtain ⟨b3, h3⟩ : ∃ b, (x.op == 20) = b := ⟨_, rfl⟩
 cases b1
 ·cases b2
  ·go_enter Tryz.func132, Tryz.ntmps132
   go_wp2
   go_ret
   exact ⟨ret_bool (by simp [h1, h2, h3]), hb⟩
  ·go_enter Tryz.func132, Tryz.ntmps132
   go_wp2
   go_ret
   exact ⟨ret_bool (by simp [h1, h2, h3]), hb⟩
 ·go_enter Tryz.func132, Tryz.ntmps132
  go_wp2
  go_ret
  exact ⟨ret_bool (by simp [h1, h2, h3]), hb⟩
theorem rightRing_any (x : Ri) (w : World) : Calls Tryz.prog 99 #[.agg (riC x)] w fun e w' => e = .returned (.bool (rgSpB x)) ∧ Below w.heap.size w w' := by
 have hb : Below w.heap.size w (w.alloc (.cells (riC x) 84)) := (Below.refl _ _).alloc (Nat.le_refl _) _
 have hr : rgSpB x = decide (1 ≤ x.c ∧ x.c ≤ 64 ∧ (x.k = 1 ∧ x.r = 1 ∨ x.k = 2 ∧ 1 ≤ x.r ∧ x.r ≤ 8)) := rfl
 have HR := Lib.hid hr
 clear hr
 by_cases h1 : x.c < 1
 ·have HF := Lib.hid (show rgSpB x = false from decide_eq_false (by omega))
  have e1 : decide (x.c < 1) = true := by simpa using h1
  clear HR
  go_enter Tryz.func99, Tryz.ntmps99
  go_wp2
  go_ret
  exact ⟨ret_bool (by rw [HF.out]), hb⟩
 have e1 : decide (x.c < 1) = false := by simpa using h1
 by_cases h2 : 64 < x.c
 ·have HF := Lib.hid (show rgSpB x = false from decide_eq_false (by omega))
  have e2 : decide (64 < x.c) = true := by simpa using h2
  clear HR
  go_enter Tryz.func99, Tryz.ntmps99
  go_wp2
  go_ret
  exact ⟨ret_bool (by rw [HF.out]), hb⟩
 have e2 : decide (64 < x.c) = false := by simpa using h2
 by_cases h3 : x.k = 1
 ·have HF := Lib.hid (show rgSpB x = (x.r == 1) by rw [HR.out, Bool.eq_iff_iff, decide_eq_true_eq, beq_iff_eq]; omega)
  have e3 : (x.k == 1) = true := by simpa using h3
  clear HR h3
  go_enter Tryz.func99, Tryz.ntmps99
  go_wp2
  go_ret
  exact ⟨ret_bool (by rw [HF.out]), hb⟩
 have e3 : (x.k == 1) = false := by simpa using h3
 by_cases h4 : x.k = 2
 ·have HF := Lib.hid (show rgSpB x = (decide (1 ≤ x.r) && decide (x.r ≤ 8)) by rw [HR.out, Bool.eq_iff_iff, decide_eq_true_eq, Bool.and_eq_true, decide_eq_true_eq, decide_eq_true_eq]; omega)
  have e4 : (x.k == 2) = true := by simpa using h4
  clear HR h3 h4
  by_cases h5 : (1 : Int) ≤ x.r
  ·have e5 : decide ((1 : Int) ≤ x.r) = true := by simpa using h5
   go_enter Tryz.func99, Tryz.ntmps99
   go_wp2
   go_ret
   exact ⟨ret_bool (by rw [HF.out]; simp [h5]), hb⟩
  ·have e5 : decide ((1 : Int) ≤ x.r) = false := by simpa using h5
   go_enter Tryz.func99, Tryz.ntmps99
   go_wp2
   go_ret
   exact ⟨ret_bool (by rw [HF.out]; simp; omega), hb⟩
 have e4 : (x.k == 2) = false := by simpa using h4
 have HF := Lib.hid (show rgSpB x = false from decide_eq_false (by omega))
 clear HR h3 h4
 go_enter Tryz.func99, Tryz.ntmps99
 go_wp2
 go_ret
 exact ⟨ret_bool (by rw [HF.out]), hb⟩
theorem right_ring {x : In} (h : rightB x = true) (h2 : onRingB x.op = true) : 0 ≤ x.c ∧ x.c ≤ 7 := by
 unfold onRingB at h2
 simp only [Bool.or_eq_true, beq_iff_eq] at h2
 unfold rightB at h
 simp only [Bool.and_eq_true] at h
 have h3 := h.2.2.2.1
 unfold wB at h3
 simp only [Bool.and_eq_true, decide_eq_true_eq] at h3
 rcases h2 with e | e | e <;> (rw [e] at h3; exact h3)
set_option maxHeartbeats 8000000 in
set_option maxRecDepth 100000 in
theorem instr_any (rs : List Ri) (A : Option Addr) (c n : Nat) (x : In) (w : World) (h : RisAt w A c rs) (hok : ∀ r ∈ rs, rgSpB r = true) (hn : n ≤ 1000000) (hk : x.k ≤ 18446744073709551615) :
  Calls Tryz.prog 100 #[.slice A rs.length c, .int .i64 (n : Int), .agg (inC x)] w fun e w' => e = .returned (.int .i64 (instrE rs n x : Nat)) ∧ Below w.heap.size w w' := by
 obtain ⟨hc1, hc2⟩ := seq_form h
 have hb0 : Below w.heap.size w (w.alloc (.cells (inC x) 122)) := (Below.refl _ _).alloc (Nat.le_refl _) _
 have l0 := Lies.made w 122 (inC x)
 have HH := Lib.hid h
 have HO := Lib.hid hok
 have HB0 := Lib.hid hb0
 have HL0 := Lib.hid l0
 have HE : Hid (instrE rs n x = _) := show instrE rs n x = _ by unfold instrE; rfl
 have HR := Lib.hid (fun w => right_any x w)
 have HJ := Lib.hid (fun w => jumps_any x w)
 have HN := Lib.hid (fun w => onRing_any x w)
 obtain ⟨rb, hrb⟩ : ∃ b, rightB x = b := ⟨_, rfl⟩
 obtain ⟨jb, hjb⟩ : ∃ b, jumpsB x.op = b := ⟨_, rfl⟩
 obtain ⟨nb, hnb⟩ : ∃ b, onRingB x.op = b := ⟨_, rfl⟩
 have HC := Lib.hid (fun h1 h2 => @right_ring x h1 h2)
 rw [hrb] at HR HE HC
 rw [hjb] at HJ HE
 rw [hnb] at HN HE HC
 clear h hok hb0 l0 hrb hjb hnb
 go_enter Tryz.func100, Tryz.ntmps100
 go_wp2_with fail
 generalize w.alloc (.cells (inC x) 122) = w1 at *
 refine (HR.out _).mono ?_
 rintro e w2 ⟨rfl, hb2⟩
 replace HL0 := Lib.hid (HL0.out.below hb2 HL0.out.lt)
 replace HB0 := Lib.hid (HB0.out.trans ((hb2).mono HB0.out.size))
 clear hb2
 have x0 := (HL0.out.cell 0).trans (show _ = some (Value.int .i64 x.op) from rfl)
 have x1 := (HL0.out.cell 1).trans (show _ = some (Value.int .i64 x.a) from rfl)
 have x2 := (HL0.out.cell 2).trans (show _ = some (Value.int .i64 x.b) from rfl)
 have x3 := (HL0.out.cell 3).trans (show _ = some (Value.int .i64 x.c) from rfl)
 have x4 := (HL0.out.cell 4).trans (show _ = some (Value.int .i64 x.d) from rfl)
 have x5 := (HL0.out.cell 5).trans (show _ = some (Value.int .u64 (x.k : Int)) from rfl)
 have hx := HL0.out.lt
 cases rb
 ·have HE : Hid (instrE rs n x = 6) := HE.out.trans (if_pos rfl)
  go_wp2
  go_ret
  exact ⟨ret_int (by rw [HE.out]; rfl), HB0.out⟩
 have HE := Lib.hid (HE.out.trans (if_neg (by decide)))
 go_wp2_with fail
 refine (HJ.out _).mono ?_
 rintro e w3 ⟨rfl, hb3⟩
 clear x0 x1 x2 x3 x4 x5 hx
 replace HL0 := Lib.hid (HL0.out.below hb3 HL0.out.lt)
 replace HB0 := Lib.hid (HB0.out.trans ((hb3).mono HB0.out.size))
 clear hb3
 have x0 := (HL0.out.cell 0).trans (show _ = some (Value.int .i64 x.op) from rfl)
 have x1 := (HL0.out.cell 1).trans (show _ = some (Value.int .i64 x.a) from rfl)
 have x2 := (HL0.out.cell 2).trans (show _ = some (Value.int .i64 x.b) from rfl)
 have x3 := (HL0.out.cell 3).trans (show _ = some (Value.int .i64 x.c) from rfl)
 have x4 := (HL0.out.cell 4).trans (show _ = some (Value.int .i64 x.d) from rfl)
 have x5 := (HL0.out.cell 5).trans (show _ = some (Value.int .u64 (x.k : Int)) from rfl)
 have hx := HL0.out.lt
 by_cases hj : jb = true ∧ n < x.k
 ·have HE5 : Hid (instrE rs n x = 5) := HE.out.trans (if_pos hj)
  clear HE
  obtain ⟨rfl, hj⟩ := hj
  have e1 : decide ((n : Int) < (x.k : Int)) = true := by simp; omega
  have e2 : decide (n < x.k) = true := by simpa using hj
  go_wp2
  go_ret
  exact ⟨ret_int (by rw [HE5.out]; rfl), HB0.out⟩
 have HEJ := Lib.hid (HE.out.trans (if_neg hj))
 clear HE
 have hcut : jb = false ∨ (jb = true ∧ decide (n < x.k) = false) := by
  cases jb
  ·exact .inl rfl
  ·exact .inr ⟨rfl, by simpa using fun h => hj ⟨rfl, h⟩⟩
 clear hj
 rcases hcut with rfl | ⟨rfl, hd⟩
 ·clear x0 x1 x2 x3 x4 x5 hx
  have x0 := (HL0.out.cell 0).trans (show _ = some (Value.int .i64 x.op) from rfl)
  have x1 := (HL0.out.cell 1).trans (show _ = some (Value.int .i64 x.a) from rfl)
  have x2 := (HL0.out.cell 2).trans (show _ = some (Value.int .i64 x.b) from rfl)
  have x3 := (HL0.out.cell 3).trans (show _ = some (Value.int .i64 x.c) from rfl)
  have x4 := (HL0.out.cell 4).trans (show _ = some (Value.int .i64 x.d) from rfl)
  have x5 := (HL0.out.cell 5).trans (show _ = some (Value.int .u64 (x.k : Int)) from rfl)
  have hx := HL0.out.lt
  go_wp2_with fail
  refine (HN.out _).mono ?_
  rintro e w4 ⟨rfl, hb4⟩
  clear x0 x1 x2 x3 x4 x5 hx
  replace HL0 := Lib.hid (HL0.out.below hb4 HL0.out.lt)
  replace HB0 := Lib.hid (HB0.out.trans ((hb4).mono HB0.out.size))
  clear hb4
  have x0 := (HL0.out.cell 0).trans (show _ = some (Value.int .i64 x.op) from rfl)
  have x1 := (HL0.out.cell 1).trans (show _ = some (Value.int .i64 x.a) from rfl)
  have x2 := (HL0.out.cell 2).trans (show _ = some (Value.int .i64 x.b) from rfl)
  have x3 := (HL0.out.cell 3).trans (show _ = some (Value.int .i64 x.c) from rfl)
  have x4 := (HL0.out.cell 4).trans (show _ = some (Value.int .i64 x.d) from rfl)
  have x5 := (HL0.out.cell 5).trans (show _ = some (Value.int .u64 (x.k : Int)) from rfl)
  have hx := HL0.out.lt
  cases nb
  ·have HE9 : Hid (instrE rs n x = 0) := HEJ.out.trans (if_pos rfl)
   go_wp2
   go_ret
   exact ⟨ret_int (by rw [HE9.out]; rfl), HB0.out⟩
  have HE3 := Lib.hid (HEJ.out.trans (if_neg (by decide)))
  obtain ⟨hc0, hc7⟩ := HC.out trivial rfl
  by_cases hcl : (rs.length : Int) ≤ x.c
  ·have HE9 : Hid (instrE rs n x = 7) := HE3.out.trans (if_pos hcl)
   have e3 : decide ((rs.length : Int) ≤ x.c) = true := by simpa using hcl
   go_wp2
   go_ret
   exact ⟨ret_int (by rw [HE9.out]; rfl), HB0.out⟩
  have HE4 := Lib.hid (HE3.out.trans (if_neg hcl))
  have e3 : decide ((rs.length : Int) ≤ x.c) = false := by simpa using hcl
  by_cases h19 : x.op = 19
  ·have e4 : (x.op == 19) = true := by simpa using h19
   obtain ⟨r, hr⟩ : ∃ r, rs[x.c.toNat]? = some r := ⟨_, List.getElem?_eq_getElem (by omega)⟩
   have hgd : rs.getD x.c.toNat default = r := by rw [List.getD_eq_getElem?_getD, hr]; rfl
   have hro := of_decide_eq_true (HO.out r (List.mem_of_getElem? hr))
   obtain ⟨b, off, rfl, hbl, hg⟩ := RisAt.at_ (HH.out.later HB0.out) hr
   have g2 := hg 2 _ (by decide) rfl
   have hr1 : 1 ≤ r.r := by omega
   have hr8 : r.r ≤ 8 := by omega
   have hcl2 : x.c < (rs.length : Int) := by omega
   rw [hgd] at HE4
   clear hg hro hgd hr
   by_cases hrk : r.r ≤ (x.k : Int)
   ·have HE9 : Hid (instrE rs n x = 7) := HE4.out.trans (if_pos ⟨h19, hrk⟩)
    have e5 : decide (r.r ≤ (x.k : Int)) = true := by simpa using hrk
    have e6 : IntKind.u64.wrap r.r = r.r := IntWalk.u64_in _ (by omega)
    clear h19 HEJ HE3 HE4
    go_wp2
    go_quiet (fail)
    go_wp2
    go_ret
    exact ⟨ret_int (by rw [HE9.out]; rfl), below_drewN HB0.out _⟩
   ·have HE9 : Hid (instrE rs n x = 0) := HE4.out.trans (if_neg (fun h => hrk h.2))
    have e5 : decide (r.r ≤ (x.k : Int)) = false := by simpa using hrk
    have e6 : IntKind.u64.wrap r.r = r.r := IntWalk.u64_in _ (by omega)
    clear h19 HEJ HE3 HE4
    go_wp2
    go_quiet (fail)
    go_wp2
    go_ret
    exact ⟨ret_int (by rw [HE9.out]; rfl), below_drewN HB0.out _⟩
  ·have HE9 : Hid (instrE rs n x = 0) := HE4.out.trans (if_neg (fun h => h19 h.1))
   have e4 : (x.op == 19) = false := by simpa using h19
   clear h19 HEJ HE3 HE4
   go_wp2
   go_quiet (fail)
   go_wp2
   go_ret
   exact ⟨ret_int (by rw [HE9.out]; rfl), below_drewN HB0.out _⟩
 ·have hd2 : decide ((n : Int) < (x.k : Int)) = false := by simpa using hd
  clear x0 x1 x2 x3 x4 x5 hx
  have x0 := (HL0.out.cell 0).trans (show _ = some (Value.int .i64 x.op) from rfl)
  have x1 := (HL0.out.cell 1).trans (show _ = some (Value.int .i64 x.a) from rfl)
  have x2 := (HL0.out.cell 2).trans (show _ = some (Value.int .i64 x.b) from rfl)
  have x3 := (HL0.out.cell 3).trans (show _ = some (Value.int .i64 x.c) from rfl)
  have x4 := (HL0.out.cell 4).trans (show _ = some (Value.int .i64 x.d) from rfl)
  have x5 := (HL0.out.cell 5).trans (show _ = some (Value.int .u64 (x.k : Int)) from rfl)
  have hx := HL0.out.lt
  go_wp2_with fail
  refine (HN.out _).mono ?_
  rintro e w4 ⟨rfl, hb4⟩
  clear x0 x1 x2 x3 x4 x5 hx
  replace HL0 := Lib.hid (HL0.out.below hb4 HL0.out.lt)
  replace HB0 := Lib.hid (HB0.out.trans ((hb4).mono HB0.out.size))
  clear hb4
  have x0 := (HL0.out.cell 0).trans (show _ = some (Value.int .i64 x.op) from rfl)
  have x1 := (HL0.out.cell 1).trans (show _ = some (Value.int .i64 x.a) from rfl)
  have x2 := (HL0.out.cell 2).trans (show _ = some (Value.int .i64 x.b) from rfl)
  have x3 := (HL0.out.cell 3).trans (show _ = some (Value.int .i64 x.c) from rfl)
  have x4 := (HL0.out.cell 4).trans (show _ = some (Value.int .i64 x.d) from rfl)
  have x5 := (HL0.out.cell 5).trans (show _ = some (Value.int .u64 (x.k : Int)) from rfl)
  have hx := HL0.out.lt
  cases nb
  ·have HE9 : Hid (instrE rs n x = 0) := HEJ.out.trans (if_pos rfl)
   go_wp2
   go_ret
   exact ⟨ret_int (by rw [HE9.out]; rfl), HB0.out⟩
  have HE3 := Lib.hid (HEJ.out.trans (if_neg (by decide)))
  obtain ⟨hc0, hc7⟩ := HC.out trivial rfl
  by_cases hcl : (rs.length : Int) ≤ x.c
  ·have HE9 : Hid (instrE rs n x = 7) := HE3.out.trans (if_pos hcl)
   have e3 : decide ((rs.length : Int) ≤ x.c) = true := by simpa using hcl
   go_wp2
   go_ret
   exact ⟨ret_int (by rw [HE9.out]; rfl), HB0.out⟩
  have HE4 := Lib.hid (HE3.out.trans (if_neg hcl))
  have e3 : decide ((rs.length : Int) ≤ x.c) = false := by simpa using hcl
  by_cases h19 : x.op = 19
  ·have e4 : (x.op == 19) = true := by simpa using h19
   obtain ⟨r, hr⟩ : ∃ r, rs[x.c.toNat]? = some r := ⟨_, List.getElem?_eq_getElem (by omega)⟩
   have hgd : rs.getD x.c.toNat default = r := by rw [List.getD_eq_getElem?_getD, hr]; rfl
   have hro := of_decide_eq_true (HO.out r (List.mem_of_getElem? hr))
   obtain ⟨b, off, rfl, hbl, hg⟩ := RisAt.at_ (HH.out.later HB0.out) hr
   have g2 := hg 2 _ (by decide) rfl
   have hr1 : 1 ≤ r.r := by omega
   have hr8 : r.r ≤ 8 := by omega
   have hcl2 : x.c < (rs.length : Int) := by omega
   rw [hgd] at HE4
   clear hg hro hgd hr
   by_cases hrk : r.r ≤ (x.k : Int)
   ·have HE9 : Hid (instrE rs n x = 7) := HE4.out.trans (if_pos ⟨h19, hrk⟩)
    have e5 : decide (r.r ≤ (x.k : Int)) = true := by simpa using hrk
    have e6 : IntKind.u64.wrap r.r = r.r := IntWalk.u64_in _ (by omega)
    clear h19 HEJ HE3 HE4
    go_wp2
    go_quiet (fail)
    go_wp2
    go_ret
    exact ⟨ret_int (by rw [HE9.out]; rfl), below_drewN HB0.out _⟩
   ·have HE9 : Hid (instrE rs n x = 0) := HE4.out.trans (if_neg (fun h => hrk h.2))
    have e5 : decide (r.r ≤ (x.k : Int)) = false := by simpa using hrk
    have e6 : IntKind.u64.wrap r.r = r.r := IntWalk.u64_in _ (by omega)
    clear h19 HEJ HE3 HE4
    go_wp2
    go_quiet (fail)
    go_wp2
    go_ret
    exact ⟨ret_int (by rw [HE9.out]; rfl), below_drewN HB0.out _⟩
  ·have HE9 : Hid (instrE rs n x = 0) := HE4.out.trans (if_neg (fun h => h19 h.1))
   have e4 : (x.op == 19) = false := by simpa using h19
   clear h19 HEJ HE3 HE4
   go_wp2
   go_quiet (fail)
   go_wp2
   go_ret
   exact ⟨ret_int (by rw [HE9.out]; rfl), below_drewN HB0.out _⟩
def riBad : List Ri → Nat → Option Nat
 | [], _ => none
 | r :: rs, i => if rgSpB r = true then riBad rs (i + 1) else some i
def inBad (rs : List Ri) (n : Nat) : List In → Nat → Option (Nat × Nat)
 | [], _ => none
 | x :: l, k => if instrE rs n x = 0 then inBad rs n l (k + 1) else some (k, instrE rs n x)
def thBad (rs : List Ri) : List (List In) → Nat → Option (Nat × Nat × Nat)
 | [], _ => none
 | l :: ts, t => if 256 < l.length then some (t, 256, 4) else match inBad rs l.length l 0 with | some (k, e) => some (t, k, e) | none => thBad rs ts (t + 1)
def checkR (p : Pg) : Int × Int × Nat :=
 if p.ts.length = 0 ∨ 8 < p.ts.length ∨ 8 < p.rs.length then (0, 0, 1) else
  match riBad p.rs 0 with
  | some i => (-1, (i : Int), 7)
  | none => match thBad p.rs p.ts 0 with
   | some (t, k, e) => ((t : Int), (k : Int), e)
   | none => (0, 0, 0)
def rightP (p : Pg) : Bool := (checkR p).2.2 == 0
theorem riBad_none : ∀ (rs : List Ri) (i : Nat), riBad rs i = none → ∀ r ∈ rs, rgSpB r = true
 | [], _, _ => by simp
 | r :: rs, i, h => by
  unfold riBad at h
  by_cases hr : rgSpB r = true
  ·rw [if_pos hr] at h
   intro x hx
   rcases List.mem_cons.1 hx with e | e
   ·rw [e]; exact hr
   ·exact riBad_none rs _ h x e
  ·rw [if_neg hr] at h; cases h
theorem riBad_next {rs : List Ri} {i : Nat} {r : Ri} (h : rs[i]? = some r) : riBad (rs.drop i) i = if rgSpB r = true then riBad (rs.drop (i + 1)) (i + 1) else some i := by
 obtain ⟨h1, h2⟩ := List.getElem?_eq_some_iff.1 h
 rw [List.drop_eq_getElem_cons h1, h2]; rfl
theorem inBad_next {rs : List Ri} {n : Nat} {l : List In} {k : Nat} {x : In} (h : l[k]? = some x) : inBad rs n (l.drop k) k = if instrE rs n x = 0 then inBad rs n (l.drop (k + 1)) (k + 1) else some (k, instrE rs n x) := by
 obtain ⟨h1, h2⟩ := List.getElem?_eq_some_iff.1 h
 rw [List.drop_eq_getElem_cons h1, h2]; rfl
theorem thBad_next {rs : List Ri} {ts : List (List In)} {t : Nat} {l : List In} (h : ts[t]? = some l) : thBad rs (ts.drop t) t = if 256 < l.length then some (t, 256, 4) else match inBad rs l.length l 0 with | some (k, e) => some (t, k, e) | none => thBad rs (ts.drop (t + 1)) (t + 1) := by
 obtain ⟨h1, h2⟩ := List.getElem?_eq_some_iff.1 h
 rw [List.drop_eq_getElem_cons h1, h2]; rfl
theorem ret_3 {a b : Int} {c a' b' : Int} {c' : Int} (h1 : a = a') (h2 : b = b') (h3 : c = c') : Ending.returned (.tuple #[.int .i64 a, .int .i64 b, .int .i64 c]) = .returned (.tuple #[.int .i64 a', .int .i64 b', .int .i64 c']) := by rw [h1, h2, h3]
set_option maxHeartbeats 8000000 in
set_option maxRecDepth 100000 in
theorem check_any (p : Pg) (A : Option Addr) (c : Nat) (B : Option Addr) (d : Nat) (w : World) (h : PgAt w A c B d p) (hok : pgOk p) :
  Calls Tryz.prog 63 #[.agg (pgC A c B d p)] w fun e w' => e = .returned (.tuple #[.int .i64 (checkR p).1, .int .i64 (checkR p).2.1, .int .i64 ((checkR p).2.2 : Nat)]) ∧ Below w.heap.size w w' := by
 obtain ⟨hc1, hc2⟩ := seq_form h.1
 obtain ⟨hd1, hd2⟩ := h.2.form
 have hb0 : Below w.heap.size w (w.alloc (.cells (pgC A c B d p) 25)) := (Below.refl _ _).alloc (Nat.le_refl _) _
 have l0 := Lies.made w 25 (pgC A c B d p)
 have HH := Lib.hid h
 have HO := Lib.hid hok
 have HB0 := Lib.hid hb0
 have HL0 := Lib.hid l0
 have HE : Hid (checkR p = _) := show checkR p = _ by unfold checkR; rfl
 clear h hok hb0 l0
 by_cases h0 : p.ts.length = 0 ∨ 8 < p.ts.length ∨ 8 < p.rs.length
 ·have HE0 : Hid (checkR p = (0, 0, 1)) := HE.out.trans (if_pos h0)
  clear HE
  obtain ⟨a1, ha1⟩ : ∃ a, ((p.ts.length : Int) == 0) = a := ⟨_, rfl⟩
  obtain ⟨a2, ha2⟩ : ∃ a, decide ((8 : Int) < (p.ts.length : Int)) = a := ⟨_, rfl⟩
  obtain ⟨a3, ha3⟩ : ∃ a, decide ((8 : Int) < (p.rs.length : Int)) = a := ⟨_, rfl⟩
  have hsome : a1 = true ∨ a1 = false ∧ a2 = true ∨ a1 = false ∧ a2 = false ∧ a3 = true := by
   rw [← ha1, ← ha2, ← ha3]
   simp only [beq_iff_eq, beq_eq_false_iff_ne, decide_eq_true_eq, decide_eq_false_iff_not]
   omega
  have HA1 := Lib.hid ha1
  have HA2 := Lib.hid ha2
  have HA3 := Lib.hid ha3
  clear ha1 ha2 ha3 h0
  rcases hsome with rfl | ⟨rfl, rfl⟩ | ⟨rfl, rfl, rfl⟩
  all_goals
   have ha1 := HA1.out
   have ha2 := HA2.out
   have ha3 := HA3.out
   go_enter Tryz.func63, Tryz.ntmps63
   go_wp2
   go_ret3
   exact ⟨ret_3 (by rw [HE0.out]) (by rw [HE0.out]) (by rw [HE0.out]; rfl), HB0.out⟩
 have HE1 := Lib.hid (HE.out.trans (if_neg h0))
 have ha1 : ((p.ts.length : Int) == 0) = false := by rw [beq_eq_false_iff_ne]; omega
 have ha2 : decide ((8 : Int) < (p.ts.length : Int)) = false := by simp; omega
 have ha3 : decide ((8 : Int) < (p.rs.length : Int)) = false := by simp; omega
 clear HE
 go_enter Tryz.func63, Tryz.ntmps63
 go_wp2_with fail
 generalize w.alloc (.cells (pgC A c B d p) 25) = w1 at *
 go_loopw [31] (fun u wr => ∃ i : Nat, i ≤ p.rs.length ∧ u = .int .i64 i ∧ Hid (riBad p.rs 0 = riBad (p.rs.drop i) i) ∧ Hid (Below w.heap.size w wr) ∧ Hid (Lies wr w.heap.size 25 (pgC A c B d p))) (fun u _ => p.rs.length - (intOf u).toNat)
 case atStart => exact ⟨0, by omega, rfl, rfl, HB0, HL0⟩
 case round =>
  clear HB0 HL0
  obtain ⟨i, hi, rfl, hq, hbw, hlw⟩ := hrel
  by_cases hlt : i < p.rs.length
  ·have hii : (i : Int) < (p.rs.length : Int) := by omega
   obtain ⟨r, hr⟩ : ∃ r, p.rs[i]? = some r := ⟨_, List.getElem?_eq_getElem hlt⟩
   obtain ⟨b, off, rfl, hbl, hg⟩ := RisAt.at_ (HH.out.1.later hbw.out) hr
   have g0 := hg 0 _ (by decide) rfl
   have g1 := hg 1 _ (by decide) rfl
   have g2 := hg 2 _ (by decide) rfl
   rw [Nat.add_zero] at g0
   have HN := Lib.hid (hq.out.trans (riBad_next hr))
   have HB1 := Lib.hid (hbw.out.alloc hbw.out.size (.cells (riC r) 84))
   have HL1 := Lib.hid (hlw.out.alloc (.cells (riC r) 84))
   clear hg hq hbw hlw hr
   go_wp2_with fail
   generalize wr.alloc (.cells (riC r) 84) = w3 at *
   refine (rightRing_any r _).mono ?_
   rintro e w4 ⟨rfl, hb4⟩
   have HB4 := Lib.hid (HB1.out.trans (hb4.mono HB1.out.size))
   have HL4 := Lib.hid (HL1.out.below hb4 HL1.out.lt)
   clear HB1 HL1 hb4 g0 g1 g2
   by_cases hrb : rgSpB r = true
   ·have HN2 := Lib.hid (HN.out.trans (if_pos hrb))
    rw [hrb]
    clear HN hrb
    go_wp2_with fail
    go_roundw
    case rel => exact ⟨i + 1, by omega, by go_num, HN2, HB4, HL4⟩
    case measure => simp [intOf]; omega
   ·have HN2 := Lib.hid (HN.out.trans (if_neg hrb))
    have HE2 : Hid (checkR p = (-1, (i : Int), 7)) := HE1.out.trans (by rw [HN2.out])
    have hrb : rgSpB r = false := by simpa using hrb
    rw [hrb]
    clear HN HN2 hrb HE1
    go_wp2
    go_ret3
    exact ⟨ret_3 (by rw [HE2.out]) (by rw [HE2.out]) (by rw [HE2.out]; rfl), HB4.out⟩
  ·obtain rfl : i = p.rs.length := by omega
   have hnone : riBad p.rs 0 = none := by rw [hq.out, List.drop_length]; rfl
   have HR := Lib.hid (riBad_none _ _ hnone)
   have HE2 := Lib.hid (HE1.out.trans (by rw [hnone]))
   clear hq hnone HE1
   have c0 := (hlw.out.cell 0).trans (show _ = some (Value.slice A p.rs.length c) from rfl)
   have c1 := (hlw.out.cell 1).trans (show _ = some (Value.slice B p.ts.length d) from rfl)
   have hlw1 := hlw.out.lt
   clear hlt hi
   go_wp2_with fail
   go_loopw [44] (fun u wq => ∃ t : Nat, t ≤ p.ts.length ∧ u = .int .i64 t ∧ Hid (thBad p.rs p.ts 0 = thBad p.rs (p.ts.drop t) t) ∧ Hid (Below w.heap.size w wq) ∧ Hid (Lies wq w.heap.size 25 (pgC A c B d p))) (fun u _ => p.ts.length - (intOf u).toNat)
   case atStart => exact ⟨0, by omega, rfl, rfl, hbw, hlw⟩
   case round =>
    clear hbw hlw c0 c1
    obtain ⟨t, ht, rfl, hq, hbw, hlw⟩ := hrel
    by_cases hlt : t < p.ts.length
    ·have hii : (t : Int) < (p.ts.length : Int) := by omega
     obtain ⟨l, hl⟩ : ∃ l, p.ts[t]? = some l := ⟨_, List.getElem?_eq_getElem hlt⟩
     obtain ⟨b, off, B2, d2, rfl, g0, hil⟩ := (HH.out.2.later hbw.out).at_ hl
     obtain ⟨hc3, hc4⟩ := seq_form hil
     have HN := Lib.hid (hq.out.trans (thBad_next hl))
     have HIL := Lib.hid hil
     have HLO := Lib.hid (HO.out.2 l (List.mem_of_getElem? hl))
     clear hq hil hl
     by_cases h256 : 256 < l.length
     ·have HN2 := Lib.hid (HN.out.trans (if_pos h256))
      have HE3 : Hid (checkR p = ((t : Int), 256, 4)) := HE2.out.trans (by rw [HN2.out]; rfl)
      have e1 : decide ((256 : Int) < (l.length : Int)) = true := by simp; omega
      clear HN HN2 HE2 h256
      go_wp2
      go_ret3
      exact ⟨ret_3 (by rw [HE3.out]) (by rw [HE3.out]) (by rw [HE3.out]; rfl), hbw.out⟩
     have HN2 := Lib.hid (HN.out.trans (if_neg h256))
     have e1 : decide ((256 : Int) < (l.length : Int)) = false := by simp; omega
     clear HN
     go_wp2_with fail
     obtain ⟨wo, rfl⟩ : ∃ wo : World, wo = wr := ⟨_, rfl⟩
     go_loopw [55] (fun u wk => ∃ k : Nat, k ≤ l.length ∧ u = .int .i64 k ∧ Hid (inBad p.rs l.length l 0 = inBad p.rs l.length (l.drop k) k) ∧ Hid (Below wo.heap.size wo wk)) (fun u _ => l.length - (intOf u).toNat)
     case atStart => exact ⟨0, by omega, rfl, rfl, Below.refl _ _⟩
     case round =>
      obtain ⟨k, hk, rfl, hq, hbk⟩ := hrel
      have hbwk := Lib.hid (hbw.out.trans (hbk.out.mono hbw.out.size))
      have hlwk := Lib.hid (hlw.out.below hbk.out hlw.out.lt)
      by_cases hkl : k < l.length
      ·have hkk : (k : Int) < (l.length : Int) := by omega
       obtain ⟨x, hx⟩ : ∃ x, l[k]? = some x := ⟨_, List.getElem?_eq_getElem hkl⟩
       obtain ⟨b3, off3, rfl, _, hg⟩ := InsAt.at_ (HIL.out.later hbk.out) hx
       have y0 := hg 0 _ (by decide) rfl
       have y1 := hg 1 _ (by decide) rfl
       have y2 := hg 2 _ (by decide) rfl
       have y3 := hg 3 _ (by decide) rfl
       have y4 := hg 4 _ (by decide) rfl
       have y5 := hg 5 _ (by decide) rfl
       rw [Nat.add_zero] at y0
       have HNX := Lib.hid (hq.out.trans (inBad_next hx))
       have HXO := Lib.hid (HLO.out x (List.mem_of_getElem? hx))
       have HB3 := Lib.hid (hbk.out.alloc hbk.out.size (.cells (inC x) 122))
       have hlx := Lies.made wr 122 (inC x)
       have hly := hlwk.out.alloc (.cells (inC x) 122)
       have HLX := Lib.hid hlx
       have HLY := Lib.hid hly
       clear hg hq hbk hx hbwk hlwk hlx hly
       go_upto_region 17 with (fail)
       generalize wr.alloc (.cells (inC x) 122) = w3 at *
       generalize wr.heap.size = nk at *
       have z0 := (HLX.out.cell 0).trans (show _ = some (Value.int .i64 x.op) from rfl)
       have z1 := (HLX.out.cell 1).trans (show _ = some (Value.int .i64 x.a) from rfl)
       have z2 := (HLX.out.cell 2).trans (show _ = some (Value.int .i64 x.b) from rfl)
       have z3 := (HLX.out.cell 3).trans (show _ = some (Value.int .i64 x.c) from rfl)
       have z4 := (HLX.out.cell 4).trans (show _ = some (Value.int .i64 x.d) from rfl)
       have z5 := (HLX.out.cell 5).trans (show _ = some (Value.int .u64 (x.k : Int)) from rfl)
       have z6 := HLX.out.lt
       have c0 := (HLY.out.cell 0).trans (show _ = some (Value.slice A p.rs.length c) from rfl)
       have c1 := HLY.out.lt
       have HCALL := Lib.hid (instr_any p.rs A c l.length x w3 (HH.out.1.later (hbw.out.trans (HB3.out.mono hbw.out.size))) HR.out (by omega) HXO.out.2.2.2.2.2)
       clear y0 y1 y2 y3 y4 y5
       go_wp2_with fail
       refine HCALL.out.mono ?_
       rintro e w4 ⟨rfl, hb4⟩
       have HB4 := Lib.hid (HB3.out.trans (hb4.mono HB3.out.size))
       clear HB3 HLX HLY hb4 HCALL z0 z1 z2 z3 z4 z5 z6 c0 c1
       by_cases he : instrE p.rs l.length x = 0
       ·have HNY := Lib.hid (HNX.out.trans (if_pos he))
        rw [he]
        clear HNX he
        go_wp2
        go_roundw
        case rel => exact ⟨k + 1, by omega, by go_num, HNY, HB4⟩
        case measure => simp [intOf]; omega
       ·have HNY := Lib.hid (HNX.out.trans (if_neg he))
        have HE3 : Hid (checkR p = ((t : Int), (k : Int), instrE p.rs l.length x)) := HE2.out.trans (by rw [HN2.out, HNY.out])
        have hbx := Lib.hid (hbw.out.trans (HB4.out.mono hbw.out.size))
        have e5 : (((instrE p.rs l.length x : Nat) : Int) != 0) = true := by rw [bne_iff_ne]; omega
        clear HNX HNY HN2 HE2 he
        generalize instrE p.rs l.length x = ee at *
        go_wp2
        go_ret3
        exact ⟨ret_3 (by rw [HE3.out]) (by rw [HE3.out]) (by rw [HE3.out]), hbx.out⟩
      ·obtain rfl : k = l.length := by omega
       have hnone : inBad p.rs l.length l 0 = none := by rw [hq.out, List.drop_length]; rfl
       have HN3 := Lib.hid (HN2.out.trans (by rw [hnone]))
       clear hq hnone HN2
       go_wp2
       go_roundw
       case rel => exact ⟨t + 1, by omega, by go_num, HN3, hbwk, hlwk⟩
       case measure => simp [intOf]; omega
    ·obtain rfl : t = p.ts.length := by omega
     have hnone : thBad p.rs p.ts 0 = none := by rw [hq.out, List.drop_length]; rfl
     have HE3 : Hid (checkR p = (0, 0, 0)) := HE2.out.trans (by rw [hnone])
     clear hq hnone HE2
     go_wp2
     go_ret3
     exact ⟨ret_3 (by rw [HE3.out]) (by rw [HE3.out]) (by rw [HE3.out]; rfl), hbw.out⟩
section
variable (p : Pg) (A : Option Addr) (c : Nat) (B : Option Addr) (d : Nat) (w : World)
set_option maxHeartbeats 4000000 in
theorem ckRight (h : PgAt w A c B d p) (hok : pgOk p) : Calls Tryz.prog 36 #[.agg (pgC A c B d p)] w fun e w' => e = .returned (.bool (rightP p)) ∧ Below w.heap.size w w' := by
 have hb0 : Below w.heap.size w (w.alloc (.cells (pgC A c B d p) 25)) := (Below.refl _ _).alloc (Nat.le_refl _) _
 have HC := Lib.hid (check_any p A c B d _ (h.later hb0) hok)
 have HB0 := Lib.hid hb0
 have HE : Hid (rightP p = ((checkR p).2.2 == 0)) := rfl
 clear h hok hb0
 go_enter Tryz.func36, Tryz.ntmps36
 go_wp2_with fail
 generalize w.alloc (.cells (pgC A c B d p) 25) = w1 at *
 refine HC.out.mono ?_
 rintro e w2 ⟨rfl, hb2⟩
 have hb2 := HB0.out.trans (hb2.mono HB0.out.size)
 generalize (checkR p).1 = r1 at *
 generalize (checkR p).2.1 = r2 at *
 generalize (checkR p).2.2 = r3 at *
 clear HC
 go_wp2
 go_ret
 exact ⟨ret_bool (by rw [HE.out, Bool.eq_iff_iff, beq_iff_eq, beq_iff_eq]; omega), hb2⟩
end
theorem inBad_none {rs : List Ri} {n : Nat} : ∀ (l : List In) (k : Nat), inBad rs n l k = none → ∀ x ∈ l, instrE rs n x = 0
 | [], _, _ => by simp
 | x :: l, k, h => by
  unfold inBad at h
  by_cases e : instrE rs n x = 0
  ·rw [if_pos e] at h
   intro y hy
   rcases List.mem_cons.1 hy with e2 | e2
   ·rw [e2]; exact e
   ·exact inBad_none l _ h y e2
  ·rw [if_neg e] at h; cases h
theorem thBad_none {rs : List Ri} : ∀ (ts : List (List In)) (t : Nat), thBad rs ts t = none → ∀ l ∈ ts, l.length ≤ 256 ∧ ∀ x ∈ l, instrE rs l.length x = 0
 | [], _, _ => by simp
 | l :: ts, t, h => by
  unfold thBad at h
  by_cases e : 256 < l.length
  ·rw [if_pos e] at h; cases h
  ·rw [if_neg e] at h
   cases hb : inBad rs l.length l 0 with
   | some q => rw [hb] at h; cases h
   | none =>
    rw [hb] at h
    intro m hm
    rcases List.mem_cons.1 hm with e2 | e2
    ·rw [e2]; exact ⟨by omega, inBad_none l 0 hb⟩
    ·exact thBad_none ts _ h m e2
theorem instrE_zero {rs : List Ri} {n : Nat} {x : In} (h : instrE rs n x = 0) : rightB x = true ∧ (15 ≤ x.op → x.op ≤ 17 → x.k ≤ n) := by
 unfold instrE at h
 by_cases h1 : rightB x = false
 ·rw [if_pos h1] at h; cases h
 ·refine ⟨by simpa using h1, fun h2 h3 => ?_⟩
  rw [if_neg h1] at h
  have hj : jumpsB x.op = true := by unfold jumpsB; rw [decide_eq_true h2, decide_eq_true h3]; rfl
  by_cases h4 : jumpsB x.op = true ∧ n < x.k
  ·rw [if_pos h4] at h; cases h
  ·exact Nat.le_of_not_lt (fun h5 => h4 ⟨hj, h5⟩)
theorem rightP_all {p : Pg} (h : rightP p = true) : (p.ts.length ≠ 0 ∧ p.ts.length ≤ 8 ∧ p.rs.length ≤ 8) ∧ (∀ r ∈ p.rs, rgSpB r = true) ∧ ∀ l ∈ p.ts, l.length ≤ 256 ∧ (∀ x ∈ l, 15 ≤ x.op → x.op ≤ 17 → x.k ≤ l.length) ∧ ∀ x ∈ l, instrE p.rs l.length x = 0 := by
 unfold rightP checkR at h
 by_cases h0 : p.ts.length = 0 ∨ 8 < p.ts.length ∨ 8 < p.rs.length
 ·rw [if_pos h0] at h; simp at h
 ·rw [if_neg h0] at h
  refine ⟨by omega, ?_⟩
  cases hr : riBad p.rs 0 with
  | some i => rw [hr] at h; simp at h
  | none =>
   rw [hr] at h
   refine ⟨riBad_none _ _ hr, ?_⟩
   cases ht : thBad p.rs p.ts 0 with
   | some q =>
    rw [ht] at h
    obtain ⟨t, k, e⟩ := q
    exfalso
    have hne : ∀ (ts : List (List In)) (t0 : Nat), thBad p.rs ts t0 = some (t, k, e) → e ≠ 0 := by
     intro ts
     induction ts with
     | nil => intro t0 h; cases h
     | cons l ts ih =>
      intro t0 h
      unfold thBad at h
      by_cases e2 : 256 < l.length
      ·rw [if_pos e2] at h
       injection h with h
       injection h with _ h
       injection h with _ h
       omega
      ·rw [if_neg e2] at h
       cases hb : inBad p.rs l.length l 0 with
       | none => rw [hb] at h; exact ih _ h
       | some q =>
        rw [hb] at h
        obtain ⟨k2, e3⟩ := q
        simp only [Option.some.injEq, Prod.mk.injEq] at h
        have hq : ∀ (m : List In) (k0 : Nat), inBad p.rs l.length m k0 = some (k2, e3) → e3 ≠ 0 := by
         intro m
         induction m with
         | nil => intro k0 h; cases h
         | cons x m ih2 =>
          intro k0 h
          unfold inBad at h
          by_cases e4 : instrE p.rs l.length x = 0
          ·rw [if_pos e4] at h; exact ih2 _ h
          ·rw [if_neg e4] at h
           injection h with h
           injection h with _ h
           omega
        have := hq l 0 hb
        omega
    have := hne _ _ ht
    simp at h
    omega
   | none =>
    intro l hl
    obtain ⟨h1, h2⟩ := thBad_none _ _ ht l hl
    exact ⟨h1, fun x hx h3 h4 => (instrE_zero (h2 x hx)).2 h3 h4, h2⟩
end Go.Proofs.YtdffpbfebgcmaaaGreat
